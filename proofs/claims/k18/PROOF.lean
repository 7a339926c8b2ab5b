import PyProof.Rows.All
import Wide.All
import OpenK.AllK
import Wide.FinOn
import Lean
import PyProof.EqAt
import PyProof.EqKinds
import PyProof.TupleCall
import KE.IntBitsLaws
import KE.KBits
import KE.KEqSeq
import KE.KRevIter
import KE.KTryMore
import OpenK.KOwn
import PyProof.ExcArgsOwn
import PyProof.ExcAttrAll.ValueError
import PyProof.ExcBaseAll.ValueError
import PyProof.EqAt
import PyProof.NsDelKeeps
import PyProof.Rows.StrInSeq3
import KE.KDictOf
import KE.KDictLaws
import KE.KMinBuiltin
import KE.KNestM
import KE.KLam
import KE.KSortTup
import PyProof.ListRange
import PyProof.SumAny
import KE.KSortedM
import PyProof.Rows.SortWalk
import PyProof.SeqI3
import PyProof.IsRules
import PySem.Challenge.RW_seekpress_k18_no_code
set_option Elab.async false
set_option linter.all false
set_option maxRecDepth 100000
namespace L2
open PySem PySem.Spec PyProof.Rows
noncomputable abbrev Key:=Sum Int Str
noncomputable def je:Key->Value->Bool
 | .inl k,v=>Value.isInt k v
 | .inr x,v=>Value.isStrOf x v
noncomputable def Eg (w:World):Key->Int
 | .inl k=>hashInt k
 | .inr x=>hashStr w x
theorem aI:∀ {k:Key} {v:Value},je k v=true->(∃ i t,k=Sum.inl i/\v=Value.int i t)\/(∃ x t,k=Sum.inr x/\v=Value.str x t)
 | .inl i,v,h=>by
  obtain ⟨t,e⟩:=Value.isInt_shape (k:=i) (v:=v) h
  exact .inl ⟨i,t,rfl,e⟩
 | .inr x,v,h=>by
  obtain ⟨t,e⟩:=Value.isStrOf_shape (x:=x) (v:=v) h
  exact .inr ⟨x,t,rfl,e⟩
theorem pS (i:Int) (t:Tok):je (.inl i) (.int i t)=true:=by simp [je,Value.isInt]
theorem pd (x:Str) (t:Tok):je (.inr x) (.str x t)=true:=by simp [je,Value.isStrOf]
theorem yI (a b:Int):decide ((Sum.inl a:Key)=Sum.inl b)=(a == b):=by
 by_cases e:a=b
 ·subst e; simp
 ·have h:¬ (Sum.inl a:Key)=Sum.inl b:=fun q=>e (Sum.inl.inj q)
  rw [decide_eq_false h]
  exact (beq_eq_false_iff_ne.mpr e).symm
theorem zN (a b:Str):decide ((Sum.inr a:Key)=Sum.inr b)=decide (a=b):=by
 by_cases e:a=b
 ·subst e; simp
 ·have h:¬ (Sum.inr a:Key)=Sum.inr b:=fun q=>e (Sum.inr.inj q)
  rw [decide_eq_false h,decide_eq_false e]
theorem xR (a:Int) (b:Str):decide ((Sum.inl a:Key)=Sum.inr b)=false:=decide_eq_false (fun q=>nomatch q)
theorem zf (a:Str) (b:Int):decide ((Sum.inr a:Key)=Sum.inl b)=false:=decide_eq_false (fun q=>nomatch q)
noncomputable def aQ (prog:Program) (w:World):PySem.KeyKind prog w Key where
 is:=je
 hash:=Eg w
 inj:=fun v a b ha hb=>by
  rcases aI ha with ⟨i,t,rfl,rfl⟩ | ⟨x,t,rfl,rfl⟩
  ·rcases aI hb with ⟨j,u,rfl,e⟩ | ⟨y,u,rfl,e⟩
   ·injection e with e1 _; rw [e1]
   ·exact nomatch e
  ·rcases aI hb with ⟨j,u,rfl,e⟩ | ⟨y,u,rfl,e⟩
   ·exact nomatch e
   ·injection e with e1 _; rw [e1]
 byValue:=fun k v h=>by
  rcases aI h with ⟨i,t,rfl,rfl⟩ | ⟨x,t,rfl,rfl⟩ <;> rfl
 pyHash:=fun hv h=>by
  rcases aI hv with ⟨i,t,rfl,rfl⟩ | ⟨x,t,rfl,rfl⟩
  ·exact wpAny_pyHash_int h
  ·exact wpAny_pyHash_str h
 eqBool:=fun hu hv h=>by
  rcases aI hu with ⟨i,t,rfl,rfl⟩ | ⟨x,t,rfl,rfl⟩
  ·rcases aI hv with ⟨j,u,rfl,rfl⟩ | ⟨y,u,rfl,rfl⟩
   ·rw [yI] at h; exact wpAny_eqBool_int h
   ·rw [xR] at h; exact SeqAt.EqAt.int_str i t y u _ _ _ _ h
  ·rcases aI hv with ⟨j,u,rfl,rfl⟩ | ⟨y,u,rfl,rfl⟩
   ·rw [zf] at h; exact SeqAt.EqAt.str_int x t j u _ _ _ _ h
   ·rw [zN] at h; exact wpAny_eqBool_str h
 «strs» := fun k x t v h=>by
  rcases aI h with ⟨i,u,rfl,e⟩ | ⟨y,u,rfl,e⟩
  ·exact nomatch e
  ·injection e with e1 _
   subst e1
   cases v <;> rfl
theorem j9 (prog:Program) (w:World) (i:Int) (t:Tok):(aQ prog w).is (.inl i) (.int i t)=true:=pS i t
theorem kU (prog:Program) (w:World) (x:Str) (t:Tok):(aQ prog w).is (.inr x) (.str x t)=true:=pd x t
end L2
namespace L2
open PySem PySem.Spec PyProof.Rows
inductive V where
 | non | bl (b:Bool) | int (i:Int) | str (x:Str) | byt (b:Array UInt8) | flt (b:UInt64) | ref (a:Addr) | ty (n:String)
 deriving DecidableEq
noncomputable def RelV:V->Value->Prop
 | .non,u=>u=Value.none
 | .bl b,u=>u=Value.bool b
 | .int i,u=>∃ t,u=Value.int i t
 | .str x,u=>∃ t,u=Value.str x t
 | .byt b,u=>∃ t,u=Value.bytes b t
 | .flt b,u=>∃ t,u=Value.float b t
 | .ref a,u=>u=Value.ref a
 | .ty n,u=>u=Value.type n
noncomputable abbrev Vals:List V->List Value->Prop:=Paired RelV
theorem Vals.length {xs:List V} {us:List Value} (r:Vals xs us):xs.length=us.length:=Paired.length r
theorem Vals.get:∀ {xs:List V} {us:List Value} {i:Nat} {x:V},Vals xs us->xs[i]?=some x->∃ u,us[i]?=some u/\RelV x u
 | _,_,_,_,.nil,e=>by simp at e
 | _,_,0,_,.cons r _,e=>by simp at e; subst e; exact ⟨_,rfl,r⟩
 | _,_,i+1,x,.cons _ t,e=>by
  obtain ⟨u,h1,h2⟩:=Vals.get (i:=i) (x:=x) t (by simpa using e)
  exact ⟨u,by simpa using h1,h2⟩
theorem Vals.set {x:V} {u:Value} (r:RelV x u):∀ {xs:List V} {us:List Value} (i:Nat),Vals xs us->Vals (xs.set i x) (us.set i u)
 | _,_,_,.nil=>.nil
 | _,_,0,.cons _ t=>.cons r t
 | _,_,i+1,.cons q t=>.cons q (Vals.set r i t)
theorem Vals.append:∀ {xs ys:List V} {us ws:List Value},Vals xs us->Vals ys ws->Vals (xs++ys) (us++ws)
 | _,_,_,_,.nil,s=>s
 | _,_,_,_,.cons r t,s=>.cons r (Vals.append t s)
theorem Vals.take:∀ {xs:List V} {us:List Value} (n:Nat),Vals xs us->Vals (xs.take n) (us.take n)
 | _,_,0,_=>.nil
 | _,_,_+1,.nil=>.nil
 | _,_,n+1,.cons r t=>.cons r (Vals.take n t)
theorem Vals.drop:∀ {xs:List V} {us:List Value} (n:Nat),Vals xs us->Vals (xs.drop n) (us.drop n)
 | _,_,0,r=>r
 | _,_,_+1,.nil=>.nil
 | _,_,n+1,.cons _ t=>Vals.drop n t
noncomputable def iE:Option V->Option Value->Prop
 | some v,some u=>RelV v u
 | none,none=>True
 | _,_=>False
noncomputable def KV {κ:Type}:List (κ × V)->List (κ × Value)->Prop:=Paired fun (p:κ × V) (q:κ × Value)=>p.1=q.1/\RelV p.2 q.2
noncomputable def kV:Key->V
 | .inl i=>.int i
 | .inr x=>.str x
inductive HO where
 | lst (xs:List V)
 | tup (xs:List V)
 | dK (kvs:List (Key × V)) | dT (kvs:List (List Key × V))
 | set (S:Int->Bool) (n:Nat)
 | ins (C dx:Addr) (fs:List (Str × V))
 | own (x:Addr)
 | xd (fs:List (Str × V))
 | met (f x:Addr)
 | rng (lo hi:Int)
 | frz (o:Obj) (u:HO)
 | tbl (ps:Array Value)
 | ext (φ:Heap->Prop)
noncomputable abbrev Hp:=Addr->Option HO
noncomputable def upd (H:Hp) (a:Addr) (o:HO):Hp:=fun b=>if b=a then some o else H b
theorem ak {H:Hp} {a:Addr} {o:HO}:upd H a o a=some o:=by unfold upd; rw [if_pos rfl]
theorem ah {H:Hp} {a b:Addr} {o:HO} (h:b≠a):upd H a o b=H b:=by unfold upd; rw [if_neg h]
theorem AE {H:Hp} {a b:Addr} {o u:HO} (h:H a=some o) (h':H b=some u) (d:o≠u):a≠b:=by
 intro e; subst e; rw [h] at h'; exact d (Option.some.inj h')
theorem az {H:Hp} {a b:Addr} {o:HO} (h:H a=some o) (h':H b=none):a≠b:=by
 intro e; subst e; rw [h] at h'; cases h'
section
variable (P:Program) (w:World)
noncomputable def aE (H:Hp) (h:Heap) (a:Addr):HO->Prop
 | .lst xs=>xs.length<=sizeLine/\∃ (its:List Value) (n:Nat),Vals xs its/\h.get? a=some { cls:=.type "list",data:=.seq its.toArray n }
 | .tup xs=>xs.length<=sizeLine/\∃ its:List Value,Vals xs its/\IsTup h a its.toArray
 | .dK kvs=>kvs.length<=sizeLine/\(a == sysModules)=false/\∃ vs,KV kvs vs/\h.DictOf (aQ P w) a vs
 | .dT kvs=>kvs.length<=sizeLine/\(a == sysModules)=false/\∃ xs:List (List Key × Addr × Value),
   Paired (fun (p:List Key × V) (q:List Key × Addr × Value)=>p.1=q.1/\H q.2.1=some (.tup (p.1.map kV))/\RelV p.2 q.2.2) kvs xs /\
   ∃ o es ep,h.get? a=some o/\o.ExactDict/\o.data=.dict es ep/\es.toList=xs.map (entryOfKey (tupleKind (aQ P w)))/\(xs.map (·.1)).Nodup
 | .set S n=>h.SetOf (intKind P w) a S n
 | .ins C dx fs=>H dx=some (.own a)/\fs.length<=1000/\dx≠a/\h.get? a=some (PySem.W.instObj C dx) /\
   ∃ mA,h.Ns1 dx mA/\(∀ f,iE (fs.lookup f) (mA f))/\PySem.Within mA (fs.map (·.1))
 | .own _=>∃ o,h.get? a=some o
 | .xd fs=>∃ mA,h.Ns1 a mA/\∀ f,iE (fs.lookup f) (mA f)
 | .rng lo hi=>∃ t u v,h.get? a=some { cls:=.type "range",data:=.fields #[.int lo t,.int hi u,.int 1 v] }
 | .frz o u=>h.get? a=some o/\aE H h a u
 | .tbl ps=>h.get? a=some { cls:=.none,data:=.fields ps }
 | .met f x=>h.get? a=some (PySem.W.methodObj (.ref f) (.ref x))
 | .ext φ=>φ h/\(∃ o,h.get? a=some o)/\∀ h1 h2:Heap,φ h1->(∀ o,h1.get? a=some o->h2.get? a=some o)->φ h2
noncomputable def HOk (H:Hp) (h:Heap):Prop:=∀ a o,H a=some o->aE P w H h a o
end
section
variable {P:Program} {w:World} {H H':Hp} {h h':Heap} {a:Addr} {o:HO}
theorem aE.lt (x:aE P w H h a o):a<h.objs.size:=by
 cases o with
 | lst xs=>obtain ⟨_,_,_,_,e⟩:=x; exact Heap.lt_size e
 | tup xs=>obtain ⟨_,_,_,p⟩:=x; exact p.lt
 | dK kvs=>obtain ⟨_,_,_,_,o,_,_,e,_⟩:=x; exact Heap.lt_size e
 | dT kvs=>obtain ⟨_,_,_,_,o,_,_,e,_⟩:=x; exact Heap.lt_size e
 | set S n=>obtain ⟨o,_,_,_,e,_⟩:=x; exact Heap.lt_size e
 | ins C dx fs=>obtain ⟨_,_,_,e,_⟩:=x; exact Heap.lt_size e
 | own y=>obtain ⟨_,e⟩:=x; exact Heap.lt_size e
 | xd fs=>obtain ⟨_,⟨_,_,_,e,_⟩,_⟩:=x; exact Heap.lt_size e
 | rng lo hi=>obtain ⟨_,_,_,e⟩:=x; exact Heap.lt_size e
 | frz ob u=>obtain ⟨e,_⟩:=x; exact Heap.lt_size e
 | tbl ps=>exact Heap.lt_size (show h.get? a=some _ from x)
 | met f y=>exact Heap.lt_size (show h.get? a=some _ from x)
 | ext φ=>obtain ⟨_,⟨_,e⟩,_⟩:=x; exact Heap.lt_size e
theorem Paired.zU {α β:Type} {F G:α->β->Prop}:∀ {l₁:List α} {l₂:List β},Paired F l₁ l₂->(∀ a b,F a b->G a b)->Paired G l₁ l₂
 | _,_,.nil,_=>.nil
 | _,_,.cons r t,f=>.cons (f _ _ r) (Paired.zU t f)
theorem aE.aX (x:aE P w H h a o) (k:∀ b u,(b=a\/H b=some (.own a))->h.get? b=some u->h'.get? b=some u)
  (ho:∀ b,H b=some (.own a)->H' b=some (.own a)) (ht:∀ b xs,H b=some (.tup xs)->H' b=some (.tup xs)):aE P w H' h' a o:=by
 induction o with
 | lst xs=>obtain ⟨z,its,n,r,e⟩:=x; exact ⟨z,its,n,r,k _ _ (.inl rfl) e⟩
 | tup xs=>obtain ⟨z,its,r,ob,e,c⟩:=x; exact ⟨z,its,r,ob,k _ _ (.inl rfl) e,c⟩
 | dK kvs=>obtain ⟨z,y,vs,r,ob,es,ep,e,c⟩:=x; exact ⟨z,y,vs,r,ob,es,ep,k _ _ (.inl rfl) e,c⟩
 | dT kvs =>
  obtain ⟨z,y,xs,r,ob,es,ep,e,c⟩:=x
  exact ⟨z,y,xs,Paired.zU r fun p q z=>⟨z.1,ht _ _ z.2.1,z.2.2⟩,ob,es,ep,k _ _ (.inl rfl) e,c⟩
 | set S n=>obtain ⟨ob,es,ep,t,e,c⟩:=x; exact ⟨ob,es,ep,t,k _ _ (.inl rfl) e,c⟩
 | ins C dx fs =>
  obtain ⟨d,z,ne,e,mA,⟨od,es,ep,e2,c⟩,r⟩:=x
  exact ⟨ho _ d,z,ne,k _ _ (.inl rfl) e,mA,⟨od,es,ep,k _ _ (.inr d) e2,c⟩,r⟩
 | own y=>obtain ⟨ob,e⟩:=x; exact ⟨ob,k _ _ (.inl rfl) e⟩
 | xd fs=>obtain ⟨mA,⟨od,es,ep,e,c⟩,r⟩:=x; exact ⟨mA,⟨od,es,ep,k _ _ (.inl rfl) e,c⟩,r⟩
 | rng lo hi=>obtain ⟨t,u,v,e⟩:=x; exact ⟨t,u,v,k _ _ (.inl rfl) e⟩
 | frz ob u ih=>obtain ⟨e,q⟩:=x; exact ⟨k _ _ (.inl rfl) e,ih q⟩
 | tbl ps =>
  have e:h.get? a=some { cls:=.none,data:=.fields ps }:=x
  show h'.get? a=some { cls:=.none,data:=.fields ps }
  exact k a _ (.inl rfl) e
 | met f y =>
  have e:h.get? a=some (PySem.W.methodObj (.ref f) (.ref y)):=x
  show h'.get? a=some (PySem.W.methodObj (.ref f) (.ref y))
  exact k a _ (.inl rfl) e
 | ext φ=>obtain ⟨p,⟨o,e⟩,st⟩:=x; exact ⟨st _ _ p fun o q=>k _ _ (.inl rfl) q,⟨o,k _ _ (.inl rfl) e⟩,st⟩
theorem HOk.lt (x:HOk P w H h) (e:H a=some o):a<h.objs.size:=(x a o e).lt
theorem HOk.fresh (x:HOk P w H h) (e:h.objs.size<=a):H a=none:=by
 cases q:H a with
 | none=>rfl
 | some u=>exact absurd (Nat.lt_of_lt_of_le (x.lt q) e) (Nat.lt_irrefl _)
theorem HOk.kept (x:HOk P w H h) (k:∀ b u,h.get? b=some u->h'.get? b=some u):HOk P w H h':=fun a o e =>
 (x a o e).aX (fun b u _ q=>k b u q) (fun _ q=>q) fun _ _ q=>q
theorem HOk.laid (x:HOk P w H h) (k:∀ b u,h.get? b=some u->h'.get? b=some u) (hp:h.objs.size<=a) (new:aE P w (upd H a o) h' a o):HOk P w (upd H a o) h':=fun b u e=>by
 have hn:=x.fresh hp
 by_cases hb:b=a
 ·subst hb; rw [ak] at e; cases e; exact new
 ·rw [ah hb] at e
  exact (x b u e).aX (fun c v _ q=>k c v q) (fun c q=>by rw [ah (az q hn)]; exact q) fun c xs q=>by rw [ah (az q hn)]; exact q
end
noncomputable def Rd (H:Hp) (a:Addr) (u:HO):Prop:=H a=some u\/∃ o,H a=some (.frz o u)
theorem Rd.ok {P:Program} {w:World} {H:Hp} {h:Heap} {a:Addr} {u:HO} (r:Rd H a u) (x:HOk P w H h):aE P w H h a u:=by
 rcases r with r | ⟨o,r⟩
 ·exact x a u r
 ·obtain ⟨_,q⟩:=x a _ r
  exact q
noncomputable def Mut:Option HO->Prop
 | some (.lst _)=>True
 | some (.dK _)=>True
 | some (.dT _)=>True
 | some (.set _ _)=>True
 | some (.ins _ _ _)=>True
 | some (.ext _)=>True
 | _=>False
section
variable {P:Program} {w:World} {H:Hp} {h h':Heap} {x e:Addr} {o':HO}
theorem HOk.write (ok:HOk P w H h) (mu:Mut (H x)) (he:e=x\/H e=some (.own x)) (k:∀ b u,b≠e->h.get? b=some u->h'.get? b=some u) (heo:∃ u,h'.get? e=some u)
  (new:aE P w (upd H x o') h' x o'):HOk P w (upd H x o') h':=fun b u q=>by
 have nown:∀ c y,H c=some (.own y)->c≠x:=fun c y r z=>by subst z; rw [r] at mu; exact mu
 have ntup:∀ c xs,H c=some (.tup xs)->c≠x:=fun c xs r z=>by subst z; rw [r] at mu; exact mu
 by_cases hb:b=x
 ·subst hb; rw [ak] at q; cases q; exact new
 ·rw [ah hb] at q
  by_cases hbe:b=e
  ·have q':H b=some (.own x):=by
    rcases he with z | z
    ·exact absurd (hbe.trans z) hb
    ·rw [hbe]; exact z
   rw [q] at q'; cases q'
   obtain ⟨v,hv⟩:=heo
   exact ⟨v,by rw [hbe]; exact hv⟩
  ·refine (ok b u q).aX (fun c v hc r=>k c v ?_ r) (fun c r=>by rw [ah (nown c b r)]; exact r) fun c xs r=>by rw [ah (ntup c xs r)]; exact r
   rcases hc with rfl | hc
   ·exact hbe
   ·rintro rfl
    rcases he with z | z
    ·exact nown c b hc z
    ·rw [hc] at z; cases z; exact hb rfl
end
structure Un (fs ex:List Addr) (H H':Hp) (h h':Heap):Prop where
 keep:∀ b o,h.get? b=some o->H b=none->b ∉ fs->b ∉ ex->h'.get? b=some o
 slot:∀ b o,h.get? b=some o->H b=none->b∈fs->b ∉ ex->∃ sl,h'.get? b=some { o with slots:=sl }
 free:∀ b o,h.get? b=some o->H b=none->b ∉ ex->H' b=none
 there:∀ b o,h.get? b=some o->b ∉ ex->∃ o',h'.get? b=some o'
 tups:∀ b xs,H b=some (.tup xs)->H' b=some (.tup xs)
 frzs:∀ b o u,H b=some (.frz o u)->H' b=some (.frz o u)
 tbls:∀ b ps,H b=some (.tbl ps)->∃ more,H' b=some (.tbl (ps++more))
section
variable {fs fs' ex ex':List Addr} {H H1 H2:Hp} {h h1 h2 h':Heap} {a x e:Addr} {o:HO}
theorem Un.any (u:Un fs ex H H1 h h1) {b:Addr} {ob:Obj} (q:h.get? b=some ob) (n:H b=none) (hx:b ∉ ex):∃ sl,h1.get? b=some { ob with slots:=sl }:=by
 by_cases hb:b∈fs
 ·exact u.slot b ob q n hb hx
 ·exact ⟨ob.slots,u.keep b ob q n hb hx⟩
theorem Un.kept (k:∀ b u,h.get? b=some u->h'.get? b=some u):Un fs ex H H h h' :=
 ⟨fun b ob q _ _ _=>k b ob q,fun b ob q _ _ _=>⟨ob.slots,k b ob q⟩,fun _ _ _ n _=>n,fun b ob q _=>⟨ob,k b ob q⟩,fun _ _ q=>q,fun _ _ _ q=>q,fun _ ps q=>⟨#[],by rw [q]; simp⟩⟩
theorem Un.refl:Un fs ex H H h h:=Un.kept fun _ _ q=>q
theorem Un.laid (k:∀ b u,h.get? b=some u->h'.get? b=some u) (hp:h.objs.size<=a) (hn:H a=none):Un fs ex H (upd H a o) h h' where
 keep:=fun b u q _ _ _=>k b u q
 slot:=fun b u q _ _ _=>⟨u.slots,k b u q⟩
 free:=fun b u q n _=>by rw [ah (Nat.ne_of_lt (Nat.lt_of_lt_of_le (Heap.lt_size q) hp))]; exact n
 there:=fun b u q _=>⟨u,k b u q⟩
 tups:=fun b xs q=>by rw [ah (az q hn)]; exact q
 frzs:=fun b u xs q=>by rw [ah (az q hn)]; exact q
 tbls:=fun b ps q=>⟨#[],by rw [ah (az q hn),q]; simp⟩
theorem Un.write (mu:Mut (H x)) (he:e=x\/H e=some (.own x)) (k:∀ b u,b≠e->h.get? b=some u->h'.get? b=some u) (heo:∃ u,h'.get? e=some u):Un fs ex H (upd H x o) h h':=by
 have hx:∀ b,H b=none->b≠x:=fun b n z=>by subst z; rw [n] at mu; exact mu
 have hb:∀ b,H b=none->b≠e:=fun b n z=>by
  subst z
  rcases he with r | r
  ·exact hx b n r
  ·rw [n] at r; cases r
 have hm:∀ b u,H b=some u->¬ Mut (some u)->b≠x:=fun b u q nm z=>by subst z; rw [q] at mu; exact nm mu
 refine ⟨fun b u q n _ _=>k b u (hb b n) q,fun b u q n _ _=>⟨u.slots,k b u (hb b n) q⟩,fun b u q n _=>by rw [ah (hx b n)]; exact n,fun b u q _ => ?_,
  fun b xs q=>by rw [ah (hm b _ q fun z=>z)]; exact q,fun b u xs q=>by rw [ah (hm b _ q fun z=>z)]; exact q,fun b ps q=>⟨#[],by rw [ah (hm b _ q fun z=>z),q]; simp⟩⟩
 by_cases hbe:b=e
 ·subst hbe; exact heo
 ·exact ⟨u,k b u hbe q⟩
end
noncomputable def trk (h:Heap) (H:Hp):List Addr:=(List.range h.objs.size).filter fun a=>(H a).isSome
noncomputable def eE (h:Heap) (H:Hp):Heap:=PySem.W.hideAll h (trk h H)
theorem iV (h:Heap) (H:Hp):(eE h H).objs.size=h.objs.size:=PySem.W.hideAll_size _ _
theorem kZ {h:Heap} {H:Hp} {b:Addr} {o:Obj} (e:h.get? b=some o) (n:H b=none):(eE h H).get? b=some o :=
 PySem.W.hideAll_get _ e fun hm=>by
  have q:(H b).isSome=true:=(List.mem_filter.mp hm).2
  rw [n] at q; simp at q
theorem oi {h:Heap} {H:Hp} {b:Addr} {o:Obj} (e:(eE h H).get? b=some o):h.get? b=some o/\H b=none:=by
 have e':h.get? b=some o:=PySem.W.of_hideAll (trk h H) e
 refine ⟨e',?_⟩
 cases q:H b with
 | none=>rfl
 | some x =>
  have hm:b∈trk h H:=List.mem_filter.mpr ⟨List.mem_range.mpr (Heap.lt_size e'),by simp [q]⟩
  have z:(eE h H).get? b=none:=PySem.W.hideAll_none (trk h H) hm
  rw [z] at e; cases e
noncomputable def gJ (g h:Heap) (L:Addr):List (Addr × Obj):=(List.range h.objs.size).filterMap fun a=>if a=L\/(g.get? a).isSome=true then none else (h.get? a).map fun o=>(a,o)
theorem lL {g h:Heap} {L a:Addr} {o:Obj} (h1:a≠L) (h2:g.get? a=none) (h3:h.get? a=some o):(a,o)∈gJ g h L :=
 List.mem_filterMap.mpr ⟨a,List.mem_range.mpr (Heap.lt_size h3),by simp [h1,h2,h3]⟩
theorem ir {g h:Heap} {L:Addr} {p:Addr × Obj} (hp:p∈gJ g h L):p.1≠L/\g.get? p.1=none/\h.get? p.1=some p.2:=by
 obtain ⟨b,_,e⟩:=List.mem_filterMap.mp hp
 split at e
 ·cases e
 ·rename_i hn
  cases q:h.get? b with
  | none=>rw [q] at e; simp at e
  | some u =>
   rw [q] at e
   simp only [Option.map_some,Option.some.injEq] at e
   subst e
   refine ⟨fun z=>hn (.inl z),?_,q⟩
   show g.get? b=none
   cases r:g.get? b with
   | none=>rfl
   | some v=>exact (hn (.inr (by simp [r]))).elim
theorem qb {g h:Heap} {L:Addr}:News g L h (gJ g h L):=fun p hp=>let ⟨a,b,c⟩:=ir hp; ⟨c,a,b⟩
end L2
namespace L2
open PySem PySem.Spec PyProof.Rows
structure Mod (K:PySem.W.Frag) (mg:Str->Option Value) (base:Heap):Prop where
 kin:K.In base
 glob:base.Ns mainGlobals mg
 blt:∃ mb,base.Ns builtinsNs mb/\∀ x:Str,x ≠ "__name__"->mb x=bootBuiltins x
 nolimit:base.NoLimit
structure Cx where
 prog:Program
 w:World
 K:PySem.W.Frag
 mg:Str->Option Value
 base:Heap
 A:Around
 N:List Str
 s₀:Shared
 H₀:Hp
 env:Env
 outer:List Env
 stack:List Env
 ex:List Addr
 fn:Str->Bool
 calm:Bool
 pn:List (Addr × Obj)
 xe:Value->Shared->Prop
noncomputable def frs (l:List Env):List Addr:=l.filterMap (·.frame)
noncomputable abbrev Cx.fs (X:Cx):List Addr:=frs X.outer
noncomputable def Vis (sc:Scope) (x:Str):Prop:=sc.names.lookup x=some .local\/sc.names.lookup x=some .cell\/sc.names.lookup x=some .free
noncomputable def Loc (sc:Scope) (x:Str):Prop:=sc.names.lookup x=some .local\/sc.names.lookup x=some .cell
noncomputable def Look (env:Env) (h:Heap) (m:Str->Option Value) (x:Str) (u:Value):Prop :=
 (env.kindOf x=some .local/\m x=some u)\/((env.kindOf x=some .cell\/env.kindOf x=some .free)/\∃ c,env.cells.lookup x=some c/\h.IsCell c (some u))
structure Cx.Ok (X:Cx):Prop where
 mod:Mod X.K X.mg X.base
 kind:X.env.scope.kind=.function
 glob:X.env.globals=mainGlobals
 blt:X.env.builtins=builtinsNs
 above:X.s₀.heap.objs.size<=X.env.locals
 inj:∀ x y c,X.env.cells.lookup x=some c->X.env.cells.lookup y=some c->x=y
 has:∀ x,(X.env.kindOf x=some .cell\/X.env.kindOf x=some .free)->∃ c,X.env.cells.lookup x=some c
 cab:∀ x c,X.fn x=true->X.env.cells.lookup x=some c->X.s₀.heap.objs.size<=c
 hd:X.calm=true->X.A.handled=none
 frames:X.A.frames=some X.stack
 stk:X.stack=X.outer\/(X.stack=X.env::X.outer/\X.env.frame=some X.env.locals)
 exf:∀ b∈X.ex,b≠X.env.locals/\∀ x c,X.env.cells.lookup x=some c->c≠b
 bs:∀ b o,X.base.get? b=some o->X.s₀.heap.get? b=some o/\X.H₀ b=none
 bsz:X.base.objs.size<=X.s₀.heap.objs.size
 noex:∀ b o,X.base.get? b=some o->b ∉ X.ex
 exfs:∀ b∈X.ex,b ∉ X.fs
 iG:X.s₀.heap.FunFrames X.base X.outer
 frf:∀ b∈X.fs,X.H₀ b=none
structure Inv (X:Cx) (pins:List (Addr × Obj)) (σ:List (Option V)) (H:Hp) (s:Shared):Prop where
 ok:X.Ok
 os:s.os=X.s₀.os
 bare:AllBare s.gens
 base:Un X.fs X.ex X.H₀ H X.s₀.heap s.heap
 loc:∃ m,s.heap.Ns X.env.locals m/\∀ (i:Nat) (x:Str) (v:V),X.N[i]?=some x->σ[i]?=some (some v)->Vis X.env.scope x->∃ u,RelV v u/\Look X.env s.heap m x u
 cell:∀ x c,X.env.cells.lookup x=some c->∃ v,s.heap.IsCell c v
 free:H X.env.locals=none
 freeC:∀ x c,X.env.cells.lookup x=some c->H c=none
 pin:∀ p∈X.pn++pins,s.heap.get? p.1=some p.2/\H p.1=none/\p.1≠X.env.locals/\p.1 ∉ X.fs/\∀ v,p.2.data≠.cell v
 hok:HOk X.prog X.w H s.heap
 len:σ.length=X.N.length
section
variable {X:Cx} {pins:List (Addr × Obj)} {σ:List (Option V)} {H H':Hp} {s:Shared} {h':Heap}
theorem Cx.Ok.E6 (ok:X.Ok) {b:Addr} {o:Obj} (e:X.base.get? b=some o):b ∉ X.fs:=fun hb=>by
 have:=(ok.iG.mem hb).1
 rw [e] at this; cases this
theorem Inv.bs (I:Inv X pins σ H s):∀ b o,X.base.get? b=some o->s.heap.get? b=some o/\H b=none:=fun b o e =>
 ⟨I.base.keep b o (I.ok.bs b o e).1 (I.ok.bs b o e).2 (I.ok.E6 e) (I.ok.noex b o e),I.base.free b o (I.ok.bs b o e).1 (I.ok.bs b o e).2 (I.ok.noex b o e)⟩
theorem Inv.bk (I:Inv X pins σ H s):∀ b o,X.base.get? b=some o->s.heap.get? b=some o:=fun b o e=>(I.bs b o e).1
theorem Inv.mod (I:Inv X pins σ H s):Mod X.K X.mg X.base:=I.ok.mod
theorem Inv.kIn (I:Inv X pins σ H s):X.K.In s.heap:=I.ok.mod.kin.keeps I.bk
theorem Inv.lt (I:Inv X pins σ H s):X.env.locals<s.heap.objs.size:=let ⟨_,hn,_⟩:=I.loc; hn.lt
theorem Inv.sz (I:Inv X pins σ H s):X.s₀.heap.objs.size<=s.heap.objs.size:=Nat.le_trans I.ok.above (Nat.le_of_lt I.lt)
theorem Inv.EU (I:Inv X pins σ H s) {a:Addr} (h:s.heap.objs.size<=a):a ∉ X.fs:=fun hb=>by
 obtain ⟨_,o,ho,_⟩:=I.ok.iG.mem hb
 exact absurd (Nat.lt_of_lt_of_le (Heap.lt_size ho) (Nat.le_trans I.sz h)) (Nat.lt_irrefl _)
theorem Inv.cne (I:Inv X pins σ H s):∀ x c,X.env.cells.lookup x=some c->c≠X.env.locals:=fun x c e z=>by
 obtain ⟨v,o,ho,hd⟩:=I.cell x c e
 obtain ⟨m,⟨o',es,ep,ho',hd',_⟩,_⟩:=I.loc
 rw [z,ho'] at ho; cases ho; rw [hd'] at hd; cases hd
theorem Inv.iG (I:Inv X pins σ H s):s.heap.FunFrames X.base X.outer:=by
 have all:∀ (l:List Env),(∀ b∈frs l,b∈X.fs)->X.s₀.heap.FunFrames X.base l->s.heap.FunFrames X.base l:=by
  intro l
  induction l with
  | nil=>intro _ _; trivial
  | cons env r ih =>
   intro hs hl
   obtain ⟨hk,⟨L,o,hf,hn,ho,hd⟩,hr⟩:=hl
   have hL:L∈X.fs:=hs L (by unfold frs; rw [List.filterMap_cons,hf]; exact List.mem_cons_self)
   obtain ⟨sl,e⟩:=I.base.slot L o ho (I.ok.frf L hL) hL fun z=>I.ok.exfs L z hL
   exact ⟨hk,⟨L,_,hf,hn,e,hd⟩,ih (fun b hb=>hs b (by unfold frs; rw [List.filterMap_cons,hf]; exact List.mem_cons_of_mem _ hb)) hr⟩
 exact all X.outer (fun _ hb=>hb) I.ok.iG
theorem Inv.stack (I:Inv X pins σ H s):s.heap.FunFrames X.base X.stack:=by
 rcases I.ok.stk with e | ⟨e,hf⟩
 ·rw [e]; exact I.iG
 ·rw [e]
  obtain ⟨m,hn,_⟩:=I.loc
  refine .cons (by rw [I.ok.kind]; decide) hf hn ?_ I.iG
  exact Heap.get?_none_of_le (Nat.le_trans I.ok.bsz I.ok.above)
theorem Inv.jP (I:Inv X pins σ H s):∀ b∈frs X.stack,b∈X.env.locals::X.fs:=fun b hb=>by
 rcases I.ok.stk with e | ⟨e,hf⟩
 ·rw [e] at hb; exact List.mem_cons_of_mem _ hb
 ·rw [e] at hb
  unfold frs at hb
  rw [List.filterMap_cons,hf] at hb
  exact hb
theorem Inv.j0 (I:Inv X pins σ H s):∀ b∈frs X.stack,H b=none:=fun b hb=>by
 rcases List.mem_cons.mp (I.jP b hb) with e | hb
 ·rw [e]; exact I.free
 ·obtain ⟨_,o,ho,_⟩:=I.ok.iG.mem hb
  exact I.base.free b o ho (I.ok.frf b hb) fun z=>I.ok.exfs b z hb
theorem Inv.step {g':Array GenState} {t':Nat} {d':Drawn} {ch:List Addr} (I:Inv X pins σ H s)
  (hch:∀ b∈ch,(b∈X.ex\/X.s₀.heap.objs.size<=b)/\b≠X.env.locals/\(∀ x c,X.env.cells.lookup x=some c->c≠b)/\∀ p∈X.pn++pins,p.1≠b)
  (keep:∀ b o,b≠X.env.locals->b ∉ X.fs->b ∉ ch->s.heap.get? b=some o->H b=none->h'.get? b=some o)
  (slot:∀ b o,b≠X.env.locals->b∈X.fs->b ∉ ch->s.heap.get? b=some o->H b=none->∃ sl,h'.get? b=some { o with slots:=sl }) (free:∀ b o,b ∉ ch->s.heap.get? b=some o->H b=none->H' b=none)
  (there:∀ b o,b ∉ ch->s.heap.get? b=some o->∃ o',h'.get? b=some o')
  (tups:∀ b xs,H b=some (.tup xs)->H' b=some (.tup xs)) (frzs:∀ b o u,H b=some (.frz o u)->H' b=some (.frz o u)) (tbls:∀ b ps,H b=some (.tbl ps)->∃ more,H' b=some (.tbl (ps++more)))
  (ns:∀ m,s.heap.Ns X.env.locals m->h'.Ns X.env.locals m) (hok:HOk X.prog X.w H' h') (hg:AllBare g') :
  Inv X pins σ H' { s with heap:=h',gens:=g',drawn:=d',toks:=t' }:=by
 have neL:∀ b o,X.s₀.heap.get? b=some o->b≠X.env.locals:=fun b o e=>Nat.ne_of_lt (Nat.lt_of_lt_of_le (Heap.lt_size e) I.ok.above)
 have neC:∀ b o,X.s₀.heap.get? b=some o->b ∉ X.ex->b ∉ ch:=fun b o e hx hb=>by
  rcases (hch b hb).1 with z | z
  ·exact hx z
  ·exact absurd (Nat.lt_of_lt_of_le (Heap.lt_size e) z) (Nat.lt_irrefl _)
 have cellK:∀ x c,X.env.cells.lookup x=some c->∀ v,s.heap.IsCell c v->h'.IsCell c v:=fun x c e v ⟨o,ho,hd⟩=>by
  have nch:c ∉ ch:=fun z=>(hch c z).2.2.1 x c e rfl
  by_cases hc:c∈X.fs
  ·obtain ⟨sl,q⟩:=slot c o (I.cne x c e) hc nch ho (I.freeC x c e)
   exact ⟨_,q,hd⟩
  ·exact ⟨o,keep c o (I.cne x c e) hc nch ho (I.freeC x c e),hd⟩
 refine ⟨I.ok,I.os,hg,⟨fun b o e n hb hx => ?_,fun b o e n hb hx => ?_,fun b o e n hx => ?_,fun b o e hx => ?_,fun b xs e=>tups b xs (I.base.tups b xs e),fun b o xs e=>frzs b o xs (I.base.frzs b o xs e),fun b ps e => ?_⟩,?_,fun x c e => ?_,?_,fun x c e => ?_,fun p hp => ?_,hok,I.len⟩
 ·exact keep b o (neL b o e) hb (neC b o e hx) (I.base.keep b o e n hb hx) (I.base.free b o e n hx)
 ·obtain ⟨sl,e1⟩:=I.base.slot b o e n hb hx
  obtain ⟨sl',e2⟩:=slot b _ (neL b o e) hb (neC b o e hx) e1 (I.base.free b o e n hx)
  exact ⟨sl',e2⟩
 ·obtain ⟨o',e1⟩:=I.base.there b o e hx
  exact free b o' (neC b o e hx) e1 (I.base.free b o e n hx)
 ·obtain ⟨o',e1⟩:=I.base.there b o e hx
  exact there b o' (neC b o e hx) e1
 ·obtain ⟨m1,e1⟩:=I.base.tbls b ps e
  obtain ⟨m2,e2⟩:=tbls b _ e1
  exact ⟨m1++m2,by rw [e2,Array.append_assoc]⟩
 ·obtain ⟨m,hn,hl⟩:=I.loc
  refine ⟨m,ns m hn,fun i x v e1 e2 e3 => ?_⟩
  obtain ⟨u,r,l⟩:=hl i x v e1 e2 e3
  refine ⟨u,r,?_⟩
  rcases l with l | ⟨k,c,e,z⟩
  ·exact .inl l
  ·exact .inr ⟨k,c,e,cellK x c e _ z⟩
 ·obtain ⟨v,z⟩:=I.cell x c e
  exact ⟨v,cellK x c e v z⟩
 ·obtain ⟨m,⟨o,_,_,ho,_⟩,_⟩:=I.loc
  exact free _ o (fun z=>(hch _ z).2.1 rfl) ho I.free
 ·obtain ⟨v,o,ho,hd⟩:=I.cell x c e
  exact free c o (fun z=>(hch c z).2.2.1 x c e rfl) ho (I.freeC x c e)
 ·obtain ⟨e,n,ne,nf,d⟩:=I.pin p hp
  have nch:p.1 ∉ ch:=fun z=>(hch p.1 z).2.2.2 p hp rfl
  exact ⟨keep p.1 p.2 ne nf nch e n,free p.1 p.2 nch e n,ne,nf,d⟩
theorem Inv.un {t':Nat} (I:Inv X pins σ H s) (u:Un X.fs [] H H' s.heap h') (hok:HOk X.prog X.w H' h'):Inv X pins σ H' { s with heap:=h',toks:=t' }:=by
 obtain ⟨m,⟨o,es,ep,ho,r⟩,_⟩:=id I.loc
 obtain ⟨sl,hL⟩:=u.any ho I.free (by simp)
 exact I.step (g':=s.gens) (d':=s.drawn) (ch:=[]) (fun _ z=>nomatch z) (fun b o _ hb _ e n=>u.keep b o e n hb (by simp)) (fun b o _ hb _ e n=>u.slot b o e n hb (by simp)) (fun b o _ e n=>u.free b o e n (by simp)) (fun b o _ e=>u.there b o e (by simp)) u.tups u.frzs u.tbls (fun m' hm=>by
  obtain ⟨o',es',ep',ho',r'⟩:=hm
  rw [ho] at ho'; cases ho'
  exact ⟨_,es',ep',hL,r'⟩) hok I.bare
theorem Inv.call {g':Array GenState} {t':Nat} {d':Drawn} {ch:List Addr} (I:Inv X pins σ H s) (u:Un (frs X.stack) ch H H' s.heap h') (hok:HOk X.prog X.w H' h') (hg:AllBare g')
  (hch:∀ b∈ch,(b∈X.ex\/X.s₀.heap.objs.size<=b)/\b≠X.env.locals/\(∀ x c,X.env.cells.lookup x=some c->c≠b)/\∀ p∈X.pn++pins,p.1≠b) :
  Inv X pins σ H' { s with heap:=h',gens:=g',drawn:=d',toks:=t' }:=by
 obtain ⟨m,⟨o,es,ep,ho,r⟩,_⟩:=id I.loc
 obtain ⟨sl,hL⟩:=u.any ho I.free fun z=>(hch _ z).2.1 rfl
 exact I.step (ch:=ch) hch (fun b o hL hb hc e n=>u.keep b o e n (fun z=>(List.mem_cons.mp (I.jP b z)).elim hL hb) hc) (fun b o _ _ hc e n=>u.any e n hc) (fun b o hc e n=>u.free b o e n hc) (fun b o hc e=>u.there b o e hc) u.tups u.frzs u.tbls (fun m' hm=>by
  obtain ⟨o',es',ep',ho',r'⟩:=hm
  rw [ho] at ho'; cases ho'
  exact ⟨_,es',ep',hL,r'⟩) hok hg
theorem Inv.turned {t':Nat} {it:Addr} (I:Inv X pins σ H s) (k:∀ b o,b≠it->s.heap.get? b=some o->h'.get? b=some o) (hn:H it=none) (hL:it≠X.env.locals)
  (h1:it∈X.ex\/X.s₀.heap.objs.size<=it) (h2:∀ x c,X.env.cells.lookup x=some c->c≠it) (h3:∀ p∈X.pn++pins,p.1≠it):Inv X pins σ H { s with heap:=h',toks:=t' }:=by
 have nit:∀ b u,H b=some u->b≠it:=fun b u e z=>by rw [z,hn] at e; cases e
 refine I.step (g':=s.gens) (d':=s.drawn) (ch:=[it]) (fun b hb => ?_) (fun b o _ _ hc e _=>k b o (fun z=>hc (by simp [z])) e) (fun b o _ _ hc e _=>⟨o.slots,k b o (fun z=>hc (by simp [z])) e⟩) (fun _ _ _ _ n=>n)
  (fun b o hc e=>⟨o,k b o (fun z=>hc (by simp [z])) e⟩) (fun _ _ e=>e) (fun _ _ _ e=>e) (fun b ps e=>⟨#[],by rw [e]; simp⟩) (fun m hm => ?_) (fun b u e => ?_) I.bare
 ·have e:b=it:=by simpa using hb
  subst e
  exact ⟨h1,hL,h2,h3⟩
 ·obtain ⟨o,es,ep,ho,r⟩:=hm
  exact ⟨o,es,ep,k _ o (Ne.symm hL) ho,r⟩
 ·refine (I.hok b u e).aX (fun c v hc q=>k c v ?_ q) (fun _ q=>q) fun _ _ q=>q
  rcases hc with z | z
  ·rw [z]; exact nit b u e
  ·exact nit c _ z
theorem Inv.tok (I:Inv X pins σ H s) (t:Nat):Inv X pins σ H { s with toks:=t }:=I.un (h':=s.heap) (t':=t) Un.refl I.hok
theorem Inv.kept {t':Nat} (I:Inv X pins σ H s) (k:∀ b u,s.heap.get? b=some u->h'.get? b=some u):Inv X pins σ H { s with heap:=h',toks:=t' }:=I.un (Un.kept k) (I.hok.kept k)
theorem Inv.laid {a:Addr} {o:HO} {t':Nat} (I:Inv X pins σ H s) (k:∀ b u,s.heap.get? b=some u->h'.get? b=some u) (hp:s.heap.objs.size<=a) (new:aE X.prog X.w (upd H a o) h' a o) :
  Inv X pins σ (upd H a o) { s with heap:=h',toks:=t' }:=I.un (Un.laid k hp (I.hok.fresh hp)) (I.hok.laid k hp new)
theorem Inv.write {x e:Addr} {o:HO} {t':Nat} (I:Inv X pins σ H s) (mu:Mut (H x)) (he:e=x\/H e=some (.own x)) (k:∀ b u,b≠e->s.heap.get? b=some u->h'.get? b=some u) (heo:∃ u,h'.get? e=some u)
  (new:aE X.prog X.w (upd H x o) h' x o):Inv X pins σ (upd H x o) { s with heap:=h',toks:=t' }:=I.un (Un.write mu he k heo) (I.hok.write mu he k heo new)
theorem Inv.eT {pins':List (Addr × Obj)} (I:Inv X pins σ H s) (h:∀ p∈pins',s.heap.get? p.1=some p.2/\H p.1=none/\p.1≠X.env.locals/\p.1 ∉ X.fs/\∀ v,p.2.data≠.cell v):Inv X pins' σ H s :=
 ⟨I.ok,I.os,I.bare,I.base,I.loc,I.cell,I.free,I.freeC,fun p hp=>(List.mem_append.mp hp).elim (fun z=>I.pin p (List.mem_append_left _ z)) (h p),I.hok,I.len⟩
theorem ie {N:List Str} (hN:N.Nodup) {i j:Nat} {x:Str} (a:N[i]?=some x) (b:N[j]?=some x):i=j:=by
 obtain ⟨h1,e1⟩:=List.getElem?_eq_some_iff.mp a
 obtain ⟨h2,e2⟩:=List.getElem?_eq_some_iff.mp b
 exact (List.getElem_inj hN).mp (e1.trans e2.symm)
theorem jh {M:Model} {A:Around} {E:Value->Shared->Prop} {i:Nat} {x:Str} {v:V} {u:Value} {Q:Unit->Shared->Prop} (I:Inv X pins σ H s) (hN:X.N.Nodup) (hi:X.N[i]?=some x) (hx:Loc X.env.scope x) (r:RelV v u)
  (h:∀ s',Inv X pins (σ.set i (some v)) H s'->(∃ a,Heap.SameBut a s.heap s'.heap/\(a=X.env.locals\/X.env.cells.lookup x=some a))->Q () s') (hf:X.fn x=true\/X.env.scope.names.lookup x=some .local:=by first | exact .inl rfl | exact .inr rfl | assumption):wpAny M A (storeName X.env x u) Q E s:=by
 obtain ⟨m,hn,hl⟩:=id I.loc
 have hcls:(X.env.scope.kind == .class||(X.env.scope.kind == .module&&X.env.locals != X.env.globals))=false:=by rw [I.ok.kind]; rfl
 have hiσ:i<σ.length:=by rw [I.len]; exact (List.getElem?_eq_some_iff.mp hi).1
 have cne:=I.cne
 have tracked:∀ {a:Addr} {h':Heap},(∃ o,s.heap.get? a=some o/\H a=none)->Heap.SameBut a s.heap h'->HOk X.prog X.w H h':=fun {a h'} ha hs b ob e=>by
  obtain ⟨_,_,hfree⟩:=ha
  refine (I.hok b ob e).aX (fun c w' hc q=>(hs.2 c ?_).trans q) (fun _ q=>q) fun _ _ q=>q
  rintro rfl
  rcases hc with rfl | hc
  ·rw [hfree] at e; cases e
  ·rw [hfree] at hc; cases hc
 rcases hx with hk | hk
 ·refine wpAny_storeName_local hk hn (fun h' hn' hs => ?_) hcls
  obtain ⟨oL,_,_,hoL,_⟩:=id hn
  refine h _ ⟨I.ok,I.os,I.bare,⟨fun b o e n hb hx => ?_,fun b o e n hb hx => ?_,I.base.free,fun b o e hx => ?_,I.base.tups,I.base.frzs,I.base.tbls⟩,⟨_,hn',fun j y v' e1 e2 e3 => ?_⟩,fun y c e => ?_,I.free,I.freeC,fun p hp => ?_,tracked ⟨oL,hoL,I.free⟩ hs,by simpa using I.len⟩ ⟨_,hs,.inl rfl⟩
  ·exact (hs.2 b (Nat.ne_of_lt (Nat.lt_of_lt_of_le (Heap.lt_size e) I.ok.above))).trans (I.base.keep b o e n hb hx)
  ·obtain ⟨sl,e1⟩:=I.base.slot b o e n hb hx
   exact ⟨sl,(hs.2 b (Nat.ne_of_lt (Nat.lt_of_lt_of_le (Heap.lt_size e) I.ok.above))).trans e1⟩
  ·obtain ⟨o',e1⟩:=I.base.there b o e hx
   exact ⟨o',(hs.2 b (Nat.ne_of_lt (Nat.lt_of_lt_of_le (Heap.lt_size e) I.ok.above))).trans e1⟩
  ·by_cases hj:j=i
   ·subst hj
    rw [hi] at e1; cases e1
    rw [List.getElem?_set_self hiσ] at e2
    cases e2
    exact ⟨u,r,.inl ⟨hk,by simp⟩⟩
   ·rw [List.getElem?_set_ne (Ne.symm hj)] at e2
    obtain ⟨u',r',q⟩:=hl j y v' e1 e2 e3
    refine ⟨u',r',?_⟩
    rcases q with ⟨k,e⟩ | ⟨k,c,e,z⟩
    ·refine .inl ⟨k,?_⟩
     have:y≠x:=fun e=>hj (ie hN e1 (e ▸ hi))
     simp [this,e]
    ·exact .inr ⟨k,c,e,z.sameBut hs (cne y c e)⟩
  ·obtain ⟨w',z⟩:=I.cell y c e
   exact ⟨w',z.sameBut hs (cne y c e)⟩
  ·obtain ⟨e,n,ne,nf,d⟩:=I.pin p hp
   exact ⟨(hs.2 p.1 ne).trans e,n,ne,nf,d⟩
 ·have hfn:X.fn x=true:=by
   rcases hf with z | z
   ·exact z
   ·rw [z] at hk; cases hk
  obtain ⟨c,hc⟩:=I.ok.has x (.inl hk)
  obtain ⟨w',z⟩:=I.cell x c hc
  refine wpAny_storeName_cell I.ok.kind hk hc z (fun h' hc' hs => ?_)
  obtain ⟨oc,hoc,hocd⟩:=id z
  refine h { s with heap:=h' } ⟨I.ok,I.os,I.bare,⟨fun b o e n hb hx => ?_,fun b o e n hb hx => ?_,I.base.free,fun b o e hx => ?_,I.base.tups,I.base.frzs,I.base.tbls⟩,⟨m,hn.sameBut hs (Ne.symm (cne x c hc)),fun j y v' e1 e2 e3 => ?_⟩,fun y c' e => ?_,I.free,I.freeC,fun p hp => ?_,tracked ⟨oc,hoc,I.freeC x c hc⟩ hs,by simpa using I.len⟩ ⟨c,hs,.inr hc⟩
  ·exact (hs.2 b (Nat.ne_of_lt (Nat.lt_of_lt_of_le (Heap.lt_size e) (I.ok.cab x c hfn hc)))).trans (I.base.keep b o e n hb hx)
  ·obtain ⟨sl,e1⟩:=I.base.slot b o e n hb hx
   exact ⟨sl,(hs.2 b (Nat.ne_of_lt (Nat.lt_of_lt_of_le (Heap.lt_size e) (I.ok.cab x c hfn hc)))).trans e1⟩
  ·obtain ⟨o',e1⟩:=I.base.there b o e hx
   exact ⟨o',(hs.2 b (Nat.ne_of_lt (Nat.lt_of_lt_of_le (Heap.lt_size e) (I.ok.cab x c hfn hc)))).trans e1⟩
  ·by_cases hj:j=i
   ·subst hj
    rw [hi] at e1; cases e1
    rw [List.getElem?_set_self hiσ] at e2
    cases e2
    exact ⟨u,r,.inr ⟨.inl hk,c,hc,hc'⟩⟩
   ·rw [List.getElem?_set_ne (Ne.symm hj)] at e2
    obtain ⟨u',r',q⟩:=hl j y v' e1 e2 e3
    refine ⟨u',r',?_⟩
    rcases q with q | ⟨k,c',e,z'⟩
    ·exact .inl q
    ·refine .inr ⟨k,c',e,z'.sameBut hs ?_⟩
     rintro rfl
     exact hj (ie hN e1 (I.ok.inj _ _ _ e hc ▸ hi))
  ·by_cases hcc:c'=c
   ·subst hcc; exact ⟨_,hc'⟩
   ·obtain ⟨w2,z2⟩:=I.cell y c' e
    exact ⟨w2,z2.sameBut hs hcc⟩
  ·obtain ⟨e,n,ne,nf,d⟩:=I.pin p hp
   refine ⟨(hs.2 p.1 ?_).trans e,n,ne,nf,d⟩
   intro q
   rw [q,hoc] at e
   have q':oc=p.2:=Option.some.inj e
   exact d w' (by rw [<-q']; exact hocd)
theorem iy {M:Model} {A:Around} {E:Value->Shared->Prop} {i:Nat} {x:Str} {v:V} {u:Value} {Q:Unit->Shared->Prop} (I:Inv X pins σ H s) (hN:X.N.Nodup) (hi:X.N[i]?=some x) (hx:Loc X.env.scope x) (r:RelV v u)
  (h:∀ s',Inv X pins (σ.set i (some v)) H s'->Q () s') (hf:X.fn x=true\/X.env.scope.names.lookup x=some .local:=by first | exact .inl rfl | exact .inr rfl | assumption):wpAny M A (storeName X.env x u) Q E s :=
 jh I hN hi hx r (fun s' I' _=>h s' I') hf
theorem Inv.xa {s':Shared} {ch:List Addr} (I:Inv X pins σ H s) (ho:s'.os=s.os) (u:Un (frs X.stack) ch H H' s.heap s'.heap) (hok:HOk X.prog X.w H' s'.heap) (hg:AllBare s'.gens)
  (hch:∀ b∈ch,(b∈X.ex\/X.s₀.heap.objs.size<=b)/\b≠X.env.locals/\(∀ x c,X.env.cells.lookup x=some c->c≠b)/\∀ p∈X.pn++pins,p.1≠b):Inv X pins σ H' s':=by
 obtain ⟨h',g',d',t',o'⟩:=s'
 have e:o'=s.os:=ho
 subst e
 exact I.call (g':=g') (t':=t') (d':=d') u hok hg hch
end
noncomputable abbrev XK:=Value->Option Addr->Hp->Prop
noncomputable abbrev St:=List (Option V)
noncomputable abbrev VK:=V->Hp->Prop
noncomputable abbrev TE:=St->Hp->VK->Prop
noncomputable abbrev TT:=St->Hp->(Bool->Hp->Prop)->Prop
noncomputable abbrev TA:=St->Hp->(List V->Hp->Prop)->Prop
structure Ends where
 nx:St->Hp->Prop
 rt:VK
 bk:St->Hp->Prop:=fun _ _=>False
 ct:St->Hp->Prop:=fun _ _=>False
noncomputable abbrev TS:=Ends->St->Hp->Prop
noncomputable def EP (X:Cx) (pins:List (Addr × Obj)) (σ:St) (Q:VK) (u:Value) (s':Shared):Prop:=∃ v H',Inv X pins σ H' s'/\RelV v u/\Q v H'
noncomputable def TP (X:Cx) (pins:List (Addr × Obj)) (σ:St) (Q:Bool->Hp->Prop) (b:Bool) (s':Shared):Prop:=∃ H',Inv X pins σ H' s'/\Q b H'
noncomputable def AP (X:Cx) (pins:List (Addr × Obj)) (σ:St) (Q:List V->Hp->Prop) (us:List Value) (s':Shared):Prop:=∃ vs H',Inv X pins σ H' s'/\Vals vs us/\Q vs H'
noncomputable def SP (X:Cx) (pins:List (Addr × Obj)) (D:Ends) (f:Flow) (s':Shared):Prop :=
 match f with
 | .next=>∃ σ' H',Inv X pins σ' H' s'/\D.nx σ' H'
 | .brk=>∃ σ' H',Inv X pins σ' H' s'/\D.bk σ' H'
 | .cont=>∃ σ' H',Inv X pins σ' H' s'/\D.ct σ' H'
 | .ret u=>∃ v σ' H',Inv X pins σ' H' s'/\RelV v u/\D.rt v H'
noncomputable def PE (X:Cx) (e:Expr) (t:TE):Prop :=
 ∀ (pins:List (Addr × Obj)) (s:Shared) (σ:St) (H:Hp) (Q:VK),Inv X pins σ H s->t σ H Q->wpAny (model X.prog X.w) X.A (eval e X.env) (EP X pins σ Q) X.xe s
noncomputable def PT (X:Cx) (e:Expr) (t:TT):Prop :=
 ∀ (pins:List (Addr × Obj)) (s:Shared) (σ:St) (H:Hp) (Q:Bool->Hp->Prop),Inv X pins σ H s->t σ H Q->wpAny (model X.prog X.w) X.A (isTrue e X.env (eval e X.env)) (TP X pins σ Q) X.xe s
noncomputable def PW (X:Cx) (e:Expr) (t:TT):Prop :=
 ∀ (whole:Sem Value) (pins:List (Addr × Obj)) (s:Shared) (σ:St) (H:Hp) (Q:Bool->Hp->Prop),Inv X pins σ H s->t σ H Q->wpAny (model X.prog X.w) X.A (isTrue e X.env whole) (TP X pins σ Q) X.xe s
theorem PW.pt {X:Cx} {e:Expr} {t:TT} (h:PW X e t):PT X e t:=h _
noncomputable def PA (X:Cx) (es:List Expr) (t:TA):Prop :=
 ∀ (pos:Pos) (pins:List (Addr × Obj)) (s:Shared) (σ:St) (H:Hp) (Q:List V->Hp->Prop),Inv X pins σ H s->t σ H Q->wpAny (model X.prog X.w) X.A (spliced (backTo pos (starEach es X.env))) (AP X pins σ Q) X.xe s
noncomputable def PS (X:Cx) (st:Stmt) (t:TS):Prop :=
 ∀ (pins:List (Addr × Obj)) (s:Shared) (σ:St) (H:Hp) (D:Ends),Inv X pins σ H s->t D σ H->wpAny (model X.prog X.w) X.A (exec st X.env) (SP X pins D) X.xe s
noncomputable def PSs (X:Cx) (st:List Stmt) (t:TS):Prop :=
 ∀ (pins:List (Addr × Obj)) (s:Shared) (σ:St) (H:Hp) (D:Ends),Inv X pins σ H s->t D σ H->wpAny (model X.prog X.w) X.A (execs st X.env) (SP X pins D) X.xe s
theorem thn {α:Type} {t:Sem α} {Q Q':α->Shared->Prop} {M:Model} {A:Around} {E:Value->Shared->Prop} {s:Shared} (h:wpAny M A t Q E s) (hQ:∀ a s,Q a s->Q' a s):wpAny M A t Q' E s:=wpAny_mono h hQ fun _ _ x=>x
end L2
namespace L2
open PySem PySem.Spec PyProof.Rows
section
variable {X:Cx}
noncomputable def DS (i:Nat):TE:=fun σ H Q=>∃ v,σ[i]?=some (some v)/\Q v H
noncomputable def tC (v:V):TE:=fun _ H Q=>Q v H
theorem jK {i:Nat} {x:Str} {pos:Pos} (hN:X.N[i]?=some x) (hv:Vis X.env.scope x) (hd:(x == ("__debug__" : Str))=false:=by decide) (hcd:(x == ("__classdict__" : Str))=false:=by decide):PE X (.Name x pos) (DS i):=by
 intro pins s σ H Q I h
 obtain ⟨v,e,h⟩:=h
 obtain ⟨m,hn,hl⟩:=I.loc
 obtain ⟨u,r,l⟩:=hl i x v hN e hv
 have fin:EP X pins σ Q u s:=⟨v,H,I,r,h⟩
 rcases l with ⟨hk,hm⟩ | ⟨hk,c,hc,hcell⟩
 ·exact wpAny_Name (wpAny_loadName_local I.ok.kind hk hn hm fin) hd
 ·rcases hk with hk | hk
  ·exact wpAny_Name (wpAny_loadName_cell I.ok.kind hk hc hcell fin) hd
  ·exact wpAny_Name (wpAny_loadName_free I.ok.kind hk hc hcell fin hcd) hd
theorem xQ {i j pos}:PE X (.Constant (.int i) j pos) (tC (.int i)):=fun _ _ _ H _ I h=>wpAny_Constant_int ⟨.int i,H,I.tok _,⟨_,rfl⟩,h⟩
theorem wI {b j pos}:PE X (.Constant (.bool b) j pos) (tC (.bl b)):=fun _ _ _ H _ I h=>Constant_bool ⟨.bl b,H,I,rfl,h⟩
theorem xn {j pos}:PE X (.Constant .none j pos) (tC .non):=fun _ _ _ H _ I h=>Constant_none ⟨.non,H,I,rfl,h⟩
theorem yS {x j pos}:PE X (.Constant (.str x) j pos) (tC (.str x)):=fun _ _ _ H _ I h=>Calls.Constant_str ⟨.str x,H,I.tok _,⟨_,rfl⟩,h⟩
noncomputable def Gl (X:Cx) (x:Str):Prop:=X.env.kindOf x=some .globalImplicit
theorem fw {E:Value->Shared->Prop} {pins:List (Addr × Obj)} {s:Shared} {σ:St} {H:Hp} {x:Str} {u:Value} {pos:Pos} {Q:Value->Shared->Prop} (I:Inv X pins σ H s) (hg:Gl X x) (hm:X.mg x=some u) (h:Q u s)
  (hd:(x == ("__debug__" : Str))=false:=by decide):wpAny (model X.prog X.w) X.A (eval (.Name x pos) X.env) Q E s :=
 Calls.Name_function_global I.ok.kind hg (Calls.loadGlobal_global (by rw [I.ok.glob]; exact I.mod.glob.keeps I.bk) hm h) hd
theorem eO {E:Value->Shared->Prop} {pins:List (Addr × Obj)} {s:Shared} {σ:St} {H:Hp} {x:Str} {u:Value} {pos:Pos} {Q:Value->Shared->Prop} (I:Inv X pins σ H s) (hg:Gl X x) (hm:X.mg x=none) (hv:bootBuiltins x=some u) (h:Q u s)
  (hn:x ≠ "__name__" := by decide) (hd:(x == ("__debug__" : Str))=false:=by decide):wpAny (model X.prog X.w) X.A (eval (.Name x pos) X.env) Q E s:=by
 obtain ⟨mb,h1,h2⟩:=I.mod.blt
 exact Calls.Name_function_global I.ok.kind hg (Calls.loadGlobal_builtin (by rw [I.ok.glob]; exact I.mod.glob.keeps I.bk) hm (by rw [I.ok.blt]; exact h1.keeps I.bk) ((h2 x hn).trans hv) h) hd
theorem jw {x:Str} {v:V} {u:Value} {pos:Pos} (hg:Gl X x) (hm:X.mg x=some u) (r:RelV v u) (hd:(x == ("__debug__" : Str))=false:=by decide):PE X (.Name x pos) (tC v) :=
 fun _ _ _ H _ I h=>fw I hg hm ⟨v,H,I,r,h⟩ hd
theorem dY {x:Str} {v:V} {u:Value} {pos:Pos} (hg:Gl X x) (hm:X.mg x=none) (hv:bootBuiltins x=some u) (r:RelV v u) (hn:x ≠ "__name__" := by decide) (hd:(x == ("__debug__" : Str))=false:=by decide):PE X (.Name x pos) (tC v) :=
 fun _ _ _ H _ I h=>eO I hg hm hv ⟨v,H,I,r,h⟩ hn hd
variable {a b:Expr} {ta tb:TE} {pos:Pos}
noncomputable def tB (t:TE):TT:=fun σ H Q=>t σ H fun x H1=>∃ c,x=.bl c/\Q c H1
theorem zI {e:Expr} {t:TE} (h:PE X e t) (he:∀ whole,isTrue e X.env whole=(do let v <-whole; standAt e.pos; holding [v] (truthy v)):=by intro _; rfl):PT X e (tB t):=by
 intro pins s σ H Q I hw
 refine isTrue_plain (thn (h pins s σ H _ I hw) fun v s1 ⟨x,H1,I1,r1,q1⟩ => ?_) (he _)
 obtain ⟨d,rfl,q⟩:=q1
 cases r1
 exact wpAny_truthy_bool ⟨H1,I1,q⟩
variable {tA tB':TT} {rest:List Expr}
noncomputable def Fb (t u:TT):TT:=fun σ H Q=>t σ H fun c H1=>if c=true then u σ H1 Q else Q false H1
noncomputable def tOr (t u:TT):TT:=fun σ H Q=>t σ H fun c H1=>if c=true then Q true H1 else u σ H1 Q
noncomputable def Ea (t:TT):TT:=fun σ H Q=>t σ H fun c H1=>Q (!c) H1
theorem vf (ha:PT X a tA):PW X (.BoolOp .And [a] pos) tA:=by
 intro wh pins s σ H Q I h
 refine isTrue_and (thn (ha pins s σ H Q I h) fun c s1 e => ?_)
 cases c with
 | true=>exact isTrue_and_nil e
 | false=>exact e
theorem zD (ha:PT X a tA):PW X (.BoolOp .Or [a] pos) tA:=by
 intro wh pins s σ H Q I h
 refine isTrue_or (thn (ha pins s σ H Q I h) fun c s1 e => ?_)
 cases c with
 | false=>exact isTrue_or_nil e
 | true=>exact e
theorem xX (ha:PT X a tA) (hb:PW X (.BoolOp .And (b::rest) pos) tB'):PW X (.BoolOp .And (a::b::rest) pos) (Fb tA tB'):=by
 intro wh pins s σ H Q I h
 refine isTrue_and (thn (ha pins s σ H _ I h) fun c s1 ⟨H1,I1,q1⟩ => ?_)
 cases c with
 | true=>exact hb wh pins s1 σ H1 Q I1 q1
 | false=>exact ⟨H1,I1,q1⟩
theorem Aj (ha:PT X a tA) (hb:PW X (.BoolOp .Or (b::rest) pos) tB'):PW X (.BoolOp .Or (a::b::rest) pos) (tOr tA tB'):=by
 intro wh pins s σ H Q I h
 refine isTrue_or (thn (ha pins s σ H _ I h) fun c s1 ⟨H1,I1,q1⟩ => ?_)
 cases c with
 | true=>exact ⟨H1,I1,q1⟩
 | false=>exact hb wh pins s1 σ H1 Q I1 q1
theorem yO (ha:PT X a tA):PT X (.UnaryOp .Not a pos) (Ea tA):=by
 intro pins s σ H Q I h
 exact isTrue_not (ha pins s σ H (fun c H1=>Q (!c) H1) I h)
noncomputable def Bq (ta tb:TE):TE:=fun σ H Q=>ta σ H fun x H1=>∃ c,x=.bl c/\if c=true then tb σ H1 Q else Q (.bl false) H1
noncomputable def D0 (ta tb:TE):TE:=fun σ H Q=>ta σ H fun x H1=>∃ c,x=.bl c/\if c=true then Q (.bl true) H1 else tb σ H1 Q
noncomputable def AF (ta:TE):TE:=fun σ H Q=>ta σ H fun x H1=>∃ c,x=.bl c/\Q (.bl (!c)) H1
theorem zb {op} {t:TE} (h:PE X a t):PE X (.BoolOp op [a] pos) t:=fun pins s σ H Q I hw=>BoolOp_one (h pins s σ H Q I hw)
theorem tu (ha:PE X a ta) (hb:PE X (.BoolOp .And (b::rest) pos) tb):PE X (.BoolOp .And (a::b::rest) pos) (Bq ta tb):=by
 intro pins s σ H Q I h
 refine BoolOp_and (thn (ha pins s σ H _ I h) fun v s1 ⟨x,H1,I1,r1,q1⟩ => ?_)
 obtain ⟨c,rfl,q1⟩:=q1
 cases r1
 refine wpAny_truthy_bool ?_
 cases c with
 | true=>exact hb pins s1 σ H1 Q I1 q1
 | false=>exact ⟨.bl false,H1,I1,rfl,q1⟩
theorem v9 (ha:PE X a ta) (hb:PE X (.BoolOp .Or (b::rest) pos) tb):PE X (.BoolOp .Or (a::b::rest) pos) (D0 ta tb):=by
 intro pins s σ H Q I h
 refine BoolOp_or (thn (ha pins s σ H _ I h) fun v s1 ⟨x,H1,I1,r1,q1⟩ => ?_)
 obtain ⟨c,rfl,q1⟩:=q1
 cases r1
 refine wpAny_truthy_bool ?_
 cases c with
 | false=>exact hb pins s1 σ H1 Q I1 q1
 | true=>exact ⟨.bl true,H1,I1,rfl,q1⟩
theorem rj (ha:PE X a ta):PE X (.UnaryOp .Not a pos) (AF ta):=by
 intro pins s σ H Q I h
 refine UnaryOp_ (thn (ha pins s σ H _ I h) fun v s1 ⟨x,H1,I1,r1,q1⟩ => ?_)
 obtain ⟨c,rfl,q1⟩:=q1
 cases r1
 exact not_of (wpAny_truthy_bool ⟨.bl (!c),H1,I1,rfl,q1⟩)
noncomputable def tIf (t:TT) (ta tb:TE):TE:=fun σ H Q=>t σ H fun c H1=>if c=true then ta σ H1 Q else tb σ H1 Q
theorem tF {c:Expr} (hc:PT X c tA) (ha:PE X a ta) (hb:PE X b tb):PE X (.IfExp c a b pos) (tIf tA ta tb):=by
 intro pins s σ H Q I h
 refine wpAny_IfExp (thn (hc pins s σ H _ I h) fun d s1 ⟨H1,I1,q1⟩ => ?_)
 cases d with
 | true=>exact ha pins s1 σ H1 Q I1 q1
 | false=>exact hb pins s1 σ H1 Q I1 q1
end
end L2
namespace L2
open PySem PySem.Spec PyProof.Rows
noncomputable def SqL (K:PySem.W.Frag) (H:Hp) (a:Addr) (xs:List V):Prop :=
 Rd H a (.lst xs) \/
  ∃ (o:Obj) (its:Array Value) (n:Nat),K.lookup a=some o/\o.cls=.type "list"/\o.dict=none/\o.data=.seq its n/\its.size<=sizeLine/\Vals xs its.toList
noncomputable def SqT (K:PySem.W.Frag) (H:Hp) (a:Addr) (xs:List V):Prop :=
 Rd H a (.tup xs) \/
  ∃ (o:Obj) (its:Array Value) (n:Nat),K.lookup a=some o/\o.cls=.type "tuple"/\o.data=.seq its n/\its.size<=sizeLine/\Vals xs its.toList
noncomputable def DI:Value->Option V
 | .none=>some .non
 | .bool b=>some (.bl b)
 | .int i _=>some (.int i)
 | .str x _=>some (.str x)
 | .bytes b _=>some (.byt b)
 | .float b _=>some (.flt b)
 | .ref a=>some (.ref a)
 | .type n=>some (.ty n)
 | _=>none
theorem RelV.abs {x:V} {u:Value} (r:RelV x u):DI u=some x:=by
 cases x with
 | non=>cases r; rfl
 | bl _=>cases r; rfl
 | int _=>obtain ⟨t,rfl⟩:=r; rfl
 | str _=>obtain ⟨t,rfl⟩:=r; rfl
 | byt _=>obtain ⟨t,rfl⟩:=r; rfl
 | flt _=>obtain ⟨t,rfl⟩:=r; rfl
 | ref _=>cases r; rfl
 | ty _=>cases r; rfl
theorem RelV.inj {x y:V} {u:Value} (r:RelV x u) (q:RelV y u):x=y:=Option.some.inj (r.abs.symm.trans q.abs)
theorem Vals.inj:∀ {xs ys:List V} {us:List Value},Vals xs us->Vals ys us->xs=ys
 | _,_,_,.nil,.nil=>rfl
 | _,_,_,.cons r t,.cons r' t'=>by rw [r.inj r',Vals.inj t t']
section
variable {X:Cx} {pins:List (Addr × Obj)} {σ:St} {H:Hp} {s:Shared} {a:Addr} {xs ys:List V}
theorem SqL.of {K:PySem.W.Frag} (h:H a=some (.lst xs)):SqL K H a xs:=.inl (.inl h)
theorem SqT.of {K:PySem.W.Frag} (h:H a=some (.tup xs)):SqT K H a xs:=.inl (.inl h)
theorem Inv.list (I:Inv X pins σ H s) (h:SqL X.K H a xs):∃ its:List Value,Vals xs its/\PlainL s.heap a its.toArray/\xs.length<=sizeLine:=by
 rcases h with h | ⟨o,its,n,hk,hc,hd,hs,hz,r⟩
 ·obtain ⟨z,its,n,r,e⟩:=h.ok I.hok
  exact ⟨its,r,⟨_,n,e,rfl,rfl,rfl⟩,z⟩
 ·refine ⟨its.toList,r,⟨o,n,I.kIn a o hk,hc,hd,by simpa using hs⟩,?_⟩
  have e:=r.length
  simp only [Array.length_toList] at e
  omega
theorem Inv.tuple (I:Inv X pins σ H s) (h:SqT X.K H a xs):∃ its:List Value,Vals xs its/\IsTup s.heap a its.toArray/\xs.length<=sizeLine:=by
 rcases h with h | ⟨o,its,n,hk,hc,hs,hz,r⟩
 ·obtain ⟨z,its,r,p⟩:=h.ok I.hok
  exact ⟨its,r,p,z⟩
 ·refine ⟨its.toList,r,⟨o,I.kIn a o hk,hc,n,by simpa using hs⟩,?_⟩
  have e:=r.length
  simp only [Array.length_toList] at e
  omega
theorem Inv.qe (I:Inv X pins σ H s) (h:SqL X.K H a xs) (h':SqL X.K H a ys):xs=ys:=by
 obtain ⟨its,r,⟨o,n,e,_,_,d⟩,_⟩:=I.list h
 obtain ⟨its',r',⟨o',n',e',_,_,d'⟩,_⟩:=I.list h'
 rw [e] at e'; cases e'
 rw [d] at d'
 injection d' with d1 _
 have:its=its':=by simpa using congrArg Array.toList d1
 subst this
 exact r.inj r'
theorem Inv.oJ (I:Inv X pins σ H s) (h:SqT X.K H a xs) (h':SqT X.K H a ys):xs=ys:=by
 obtain ⟨its,r,⟨o,e,_,n,d⟩,_⟩:=I.tuple h
 obtain ⟨its',r',⟨o',e',_,n',d'⟩,_⟩:=I.tuple h'
 rw [e] at e'; cases e'
 rw [d] at d'
 injection d' with d1 _
 have:its=its':=by simpa using congrArg Array.toList d1
 subst this
 exact r.inj r'
end
section
variable {X:Cx} {pins:List (Addr × Obj)} {σ:St} {H:Hp} {s:Shared} {E:Value->Shared->Prop}
end
section
variable {X:Cx} {st:Stmt} {rest:List Stmt} {t u:TS} {e:Expr} {te:TE} {pos:Pos}
noncomputable def Bc:TS:=fun D σ H=>D.nx σ H
noncomputable def EJ (t u:TS):TS:=fun D σ H=>t { D with nx:=u D } σ H
theorem vw:PSs X [] Bc:=fun _ _ σ H _ I h=>wpAny_execs_nil ⟨σ,H,I,h⟩
theorem tD (h1:PS X st t) (h2:PSs X rest u):PSs X (st::rest) (EJ t u):=by
 intro pins s σ H D I h
 refine wpAny_execs_cons (thn (h1 pins s σ H { D with nx:=u D } I h) fun f s1 q => ?_)
 cases f with
 | next =>
  obtain ⟨σ',H',I',q⟩:=q
  exact h2 pins s1 σ' H' D I' q
 | ret v=>exact q
 | brk=>exact q
 | cont=>exact q
theorem Inv.quiet {pins:List (Addr × Obj)} {σ:St} {H:Hp} {s:Shared} (I:Inv X pins σ H s):interactive X.env=false:=by simp [interactive,I.ok.kind]
noncomputable def A7 (te:TE):TS:=fun D σ H=>te σ H fun _ H1=>D.nx σ H1
theorem vL (he:PE X e te) (hs:swapsWith e none pos.line X.env=pure false:=by rfl):PS X (.Expr e pos) (A7 te):=by
 intro pins s σ H D I h
 exact wpAny_Expr_any (thn (he pins s σ H _ I h) fun v s1 ⟨x,H1,I1,r1,q1⟩=>⟨σ,H1,I1,q1⟩) I.quiet hs
noncomputable def EO (te:TE):TS:=fun D σ H=>te σ H D.rt
theorem rH (he:PE X e te):PS X (.Return (some e) pos) (EO te):=by
 intro pins s σ H D I h
 exact wpAny_Return_some (thn (he pins s σ H _ I h) fun v s1 ⟨x,H1,I1,r1,q1⟩=>⟨x,σ,H1,I1,r1,q1⟩)
noncomputable def EG (c:TT) (t u:TS):TS:=fun D σ H=>c σ H fun b H1=>if b=true then t D σ H1 else u D σ H1
theorem vZ {c:Expr} {a b:List Stmt} {tc:TT} (hc:PT X c tc) (ha:PSs X a t) (hb:PSs X b u):PS X (.If c a b pos) (EG tc t u):=by
 intro pins s σ H D I h
 refine wpAny_If (thn (hc pins s σ H _ I h) fun d s1 ⟨H1,I1,q1⟩ => ?_)
 cases d with
 | true=>exact ha pins s1 σ H1 D I1 q1
 | false=>exact hb pins s1 σ H1 D I1 q1
end
noncomputable abbrev TG:=V->St->Hp->(St->Hp->Prop)->Prop
noncomputable abbrev TGs:=List V->St->Hp->(St->Hp->Prop)->Prop
noncomputable def PG (X:Cx) (target:Expr) (t:TG):Prop :=
 ∀ (pins:List (Addr × Obj)) (s:Shared) (σ:St) (H:Hp) (v:V) (u:Value) (Q:St->Hp->Prop),Inv X pins σ H s->RelV v u->t v σ H Q ->
  wpAny (model X.prog X.w) X.A (assign target X.env u) (fun _ s'=>∃ σ' H',Inv X pins σ' H' s'/\Q σ' H') X.xe s
noncomputable def PGs (X:Cx) (ts:List Expr) (t:TGs):Prop :=
 ∀ (pins:List (Addr × Obj)) (s:Shared) (σ:St) (H:Hp) (vs:List V) (us:List Value) (Q:St->Hp->Prop),Inv X pins σ H s->Vals vs us->t vs σ H Q ->
  wpAny (model X.prog X.w) X.A (assignInOrder ((assignEach ts X.env).map (·.2)) us) (fun _ s'=>∃ σ' H',Inv X pins σ' H' s'/\Q σ' H') X.xe s
noncomputable abbrev uO:=V->V->V->Hp->(Hp->Prop)->Prop
noncomputable def yt (X:Cx) (t:uO):Prop :=
 ∀ (pins:List (Addr × Obj)) (s:Shared) (σ:St) (H:Hp) (o i v:V) (ov iv u:Value) (Q:Hp->Prop),Inv X pins σ H s->RelV o ov->RelV i iv->RelV v u->t o i v H Q ->
  wpAny (model X.prog X.w) X.A (setItem ov iv u) (fun _ s'=>∃ H',Inv X pins σ H' s'/\Q H') X.xe s
section
variable {X:Cx} {pos:Pos}
noncomputable def wd (i:Nat):TG:=fun v σ H Q=>Q (σ.set i (some v)) H
theorem vh {i:Nat} {x:Str} (hN:X.N.Nodup) (hi:X.N[i]?=some x) (hx:Loc X.env.scope x) (hf:X.fn x=true\/X.env.scope.names.lookup x=some .local:=by first | exact .inl rfl | exact .inr rfl | assumption):PG X (.Name x pos) (wd i):=by
 intro pins s σ H v u Q I r h
 exact wpAny_assign_Name (iy I hN hi hx r (fun s' I'=>⟨_,H,I',h⟩) hf)
noncomputable def DH:TGs:=fun vs σ H Q=>vs=[]/\Q σ H
noncomputable def CK (t:TG) (u:TGs):TGs:=fun vs σ H Q=>∃ v r,vs=v::r/\t v σ H fun σ' H'=>u r σ' H' Q
theorem u9:PGs X [] DH:=by
 intro pins s σ H vs us Q I r h
 obtain ⟨e,h⟩:=h
 subst e
 cases r
 exact assignInOrder_nil ⟨σ,H,I,h⟩
theorem tf {e:Expr} {es:List Expr} {t:TG} {u:TGs} (h1:PG X e t) (h2:PGs X es u)
  (hs:(assignEach (e::es) X.env).map (·.2)=assign e X.env::(assignEach es X.env).map (·.2):=by rfl):PGs X (e::es) (CK t u):=by
 intro pins s σ H vs us Q I r h
 obtain ⟨v,vr,e1,h⟩:=h
 subst e1
 cases r with
 | cons r rr =>
  rw [hs]
  refine assignInOrder_cons (thn (h1 pins s σ H _ _ _ I r h) fun _ s1 ⟨σ1,H1,I1,q1⟩ => ?_)
  exact h2 pins s1 σ1 H1 _ _ Q I1 rr q1
noncomputable def DV (K:PySem.W.Frag) (n:Nat) (t:TGs):TG:=fun v σ H Q=>∃ a xs,v=.ref a/\SqT K H a xs/\xs.length=n/\t xs σ H Q
theorem yb {es:List Expr} {k:Nat} {t:TGs} {n:Nat} (hc:X.calm=true) (h:PGs X es t)
  (hn:(assignEach es X.env).length=n:=by rfl) (hst:(assignEach es X.env).findIdx? (·.1)=none:=by rfl):PG X (.Tuple es k pos) (DV X.K n t):=by
 intro pins s σ H v u Q I r hw
 obtain ⟨a,xs,e1,hq,hl,hw⟩:=hw
 subst e1
 cases r
 obtain ⟨its,rv,ht,hz⟩:=I.tuple hq
 refine assign_Tuple_tuple (I.ok.hd hc) ht (by simp [hn,<-hl,rv.length]) hst fun h' hx => ?_
 have I1:Inv X pins σ H { s with heap:=h' }:=I.kept (t':=s.toks) fun b o e=>hx b o (Nat.ne_of_lt (Heap.lt_size e)) e
 exact h pins _ σ H xs _ Q I1 (by simpa using rv) hw
noncomputable def EH (to ti:TE) (t:uO):TG:=fun v σ H Q=>to σ H fun o H1=>ti σ H1 fun i H2=>t o i v H2 fun H3=>Q σ H3
theorem yj {o i:Expr} {to ti:TE} {t:uO} (ho:PE X o to) (hi:PE X i ti) (hs:yt X t)
  (ha:∀ v,assign (.Subscript o i pos) X.env v=(do
   let ov <-holding [v] (eval o X.env)
   let iv <-holding [v,ov] (eval i X.env)
   standAt pos
   holding [v,ov,iv] (setItem ov iv v)
   release [v,ov,iv] []):=by intro _; rfl):PG X (.Subscript o i pos) (EH to ti t):=by
 intro pins s σ H v u Q I r h
 rw [ha]
 refine wpAny_bind (wpAny_holding (thn (ho pins s σ H _ I h) fun ov s1 ⟨x,H1,I1,r1,q1⟩ => ?_))
 refine wpAny_bind (wpAny_holding (thn (hi pins s1 σ H1 _ I1 q1) fun iv s2 ⟨y,H2,I2,r2,q2⟩ => ?_))
 refine wpAny_bind (wpAny_standAt (wpAny_bind (wpAny_holding (thn (hs pins s2 σ H2 x y v ov iv u _ I2 r1 r2 r q2) fun _ s3 ⟨H3,I3,q3⟩ => ?_))))
 exact wpAny_release ⟨σ,H3,I3,q3⟩
noncomputable def Dh (te:TE) (g:TG):TS:=fun D σ H=>te σ H fun x H1=>g x σ H1 D.nx
theorem rT {tg e:Expr} {te:TE} {g:TG} (he:PE X e te) (hg:PG X tg g) (hs:swapsWithSole [tg] e pos.line X.env=pure false:=by rfl) (hw:swappedStores [tg] e X.env=pure none:=by rfl)
  (h1:(assignEach [tg] X.env).map (·.2)=[assign tg X.env]:=by rfl):PS X (.Assign [tg] e pos) (Dh te g):=by
 intro pins s σ H D I h
 refine wpAny_Assign_stores (thn (he pins s σ H _ I h) fun v s1 ⟨x,H1,I1,r1,q1⟩ => ?_) hs hw
 rw [h1]
 exact thn (hg pins s1 σ H1 x v _ I1 r1 q1) fun _ s2 q=>q
theorem rY {i:Nat} {x:Str} {e:Expr} {te:TE} {pos':Pos} (hN:X.N.Nodup) (hi:X.N[i]?=some x) (hx:Loc X.env.scope x) (he:PE X e te) (hs:swapsWith e (some (.Name x pos')) pos.line X.env=pure false:=by rfl) (hf:X.fn x=true\/X.env.scope.names.lookup x=some .local:=by first | exact .inl rfl | exact .inr rfl | assumption) :
  PS X (.Assign [.Name x pos'] e pos) (Dh te (wd i)):=by
 intro pins s σ H D I h
 refine wpAny_Assign_Name (thn (he pins s σ H _ I h) fun v s1 ⟨y,H1,I1,r1,q1⟩ => ?_) hs
 exact iy I1 hN hi hx r1 (fun s2 I2=>⟨_,H1,I2,q1⟩) hf
end
section
variable {X:Cx} {pos:Pos}
noncomputable def zL (c:TT) (tb:TS):TS:=fun D σ H=>∃ W:Nat->St->Hp->Prop,(∃ m,W m σ H)/\∀ m σ H,W m σ H ->
 c σ H fun b H1=>if b=true then ∃ N:St->Hp->Prop,(∀ σ' H',N σ' H'->∃ m',m'<m/\W m' σ' H')/\tb { D with nx:=N,ct:=N,bk:=D.nx } σ H1 else D.nx σ H1
theorem qA {c:Expr} {body:List Stmt} {tc:TT} {tb:TS} (hp:PassesOwn (model X.prog X.w) X.A X.env X.xe) (hc:PT X c tc) (hb:PSs X body tb):PS X (.While c body [] pos) (zL tc tb):=by
 intro pins s σ H D I h
 obtain ⟨W,⟨m0,w0⟩,turn⟩:=h
 refine wpAny_While (codeAny_whileLoop (fun n s'=>∃ σ' H',Inv X pins σ' H' s'/\W n σ' H') ?_ m0 ⟨σ,H,I,w0⟩)
 rintro n s1 ⟨σ1,H1,I1,w1⟩
 refine wpAny_passesOwn hp (thn (hc pins s1 σ1 H1 _ I1 (turn n σ1 H1 w1)) fun b s2 ⟨H2,I2,q2⟩ => ?_)
 cases b with
 | true =>
  obtain ⟨N,hN,q2⟩:=q2
  rw [if_pos rfl]
  refine wpAny_passesOwn hp (thn (hb pins s2 σ1 H2 _ I2 q2) fun f s3 q3 => ?_)
  cases f with
  | next =>
   obtain ⟨σ3,H3,I3,n3⟩:=q3
   obtain ⟨m',hm,w3⟩:=hN σ3 H3 n3
   exact ⟨m',hm,σ3,H3,I3,w3⟩
  | cont =>
   obtain ⟨σ3,H3,I3,n3⟩:=q3
   obtain ⟨m',hm,w3⟩:=hN σ3 H3 n3
   exact ⟨m',hm,σ3,H3,I3,w3⟩
  | brk=>exact q3
  | ret v=>exact q3
 | false =>
  rw [if_neg Bool.false_ne_true]
  exact wpAny_execs_nil ⟨σ1,H2,I2,q2⟩
end
structure It where
 go:Nat->Hp->Prop
 yld:Nat->Hp->V->Hp->Prop
 stop:Nat->Hp->Prop
noncomputable def iH (X:Cx) (pins:List (Addr × Obj)) (H:Hp) (b:Addr):Prop :=
 H b=none/\b≠X.env.locals/\b ∉ X.fs/\(b∈X.ex\/X.s₀.heap.objs.size<=b)/\(∀ x c,X.env.cells.lookup x=some c->c≠b)/\∀ p∈X.pn++pins,p.1≠b
theorem Inv.s9 {X:Cx} {pins:List (Addr × Obj)} {σ:St} {H H':Hp} {s:Shared} {b:Addr} (I:Inv X pins σ H s) (hb:s.heap.objs.size<=b) (hn:H' b=none):iH X pins H' b:=by
 refine ⟨hn,Nat.ne_of_gt (Nat.lt_of_lt_of_le I.lt hb),I.EU hb,.inr (Nat.le_trans I.sz hb),fun x c e z => ?_,fun p hp z => ?_⟩
 ·obtain ⟨v,q⟩:=I.cell x c e
  exact absurd (Nat.lt_of_lt_of_le q.lt (by rw [z]; exact hb)) (Nat.lt_irrefl _)
 ·exact absurd (Nat.lt_of_lt_of_le (Heap.lt_size (I.pin p hp).1) (by rw [z]; exact hb)) (Nat.lt_irrefl _)
structure Turn (P:Program) (w:World) (K:PySem.W.Frag) (tg:Expr) (J:It) (fp:List Addr) (it:Addr) (tn:Nat->Heap->Prop):Prop where
 mem:it∈fp
 obj:∀ i h,tn i h->∀ b∈fp,∃ o,h.get? b=some o/\∀ v,o.data≠.cell v
 keep:∀ i h h',tn i h->(∀ b∈fp,∀ o,h.get? b=some o->h'.get? b=some o)->tn i h'
 item:∀ (X:Cx),X.prog=P->X.w=w->X.K=K->X.calm=true->∀ (i:Nat) (pins:List (Addr × Obj)) (s:Shared) (σ:St) (H:Hp) (E:Value->Shared->Prop),Inv X pins σ H s->(∀ b∈fp,iH X pins H b)->tn i s.heap->J.go i H ->
  wpAny (model P w) X.A (pyNext (.ref it)) (fun r s1=>∃ u,r=some u /\
   wpAny (model P w) X.A (letOwnedTupleGo tg (.ref it) u) (fun _ s2=>∃ x H',Inv X pins σ H' s2/\RelV x u/\J.yld i H x H'/\tn (i+1) s2.heap/\∀ b∈fp,H' b=none) E s1) E s
 done:∀ (X:Cx),X.prog=P->X.w=w->X.K=K->X.calm=true->∀ (i:Nat) (pins:List (Addr × Obj)) (s:Shared) (σ:St) (H:Hp) (E:Value->Shared->Prop),Inv X pins σ H s->(∀ b∈fp,iH X pins H b)->tn i s.heap->J.stop i H ->
  wpAny (model P w) X.A (pyNext (.ref it)) (fun r s1=>r=none/\Inv X pins σ H s1) E s
 self:∀ (A:Around) (i:Nat) (s:Shared) (Q:Value->Shared->Prop) (E:Value->Shared->Prop),tn i s.heap->Q (.ref it) s->wpAny (model P w) A (pyIter (.ref it)) Q E s
noncomputable abbrev TI:=St->Hp->(It->Hp->Prop)->Prop
noncomputable def PIE (X:Cx) (pins:List (Addr × Obj)) (σ:St) (tg:Expr) (R:It->Hp->Prop) (itv:Value) (s2:Shared):Prop :=
 ∃ (it:Addr) (fp:List Addr) (tn:Nat->Heap->Prop) (J:It) (H':Hp),itv=.ref it/\Inv X pins σ H' s2/\Turn X.prog X.w X.K tg J fp it tn/\tn 0 s2.heap/\(∀ b∈fp,iH X pins H' b)/\R J H'
noncomputable def PI (X:Cx) (tg iter:Expr) (wi:TI):Prop :=
 ∀ (pins:List (Addr × Obj)) (s:Shared) (σ:St) (H:Hp) (R:It->Hp->Prop),Inv X pins σ H s->wi σ H R ->
  wpAny (model X.prog X.w) X.A (eval iter X.env) (fun v s1=>wpAny (model X.prog X.w) X.A (pyIter v) (PIE X pins σ tg R) X.xe s1) X.xe s
theorem gh {M:Model} {A:Around} {E:Value->Shared->Prop} {s:Shared} {tg:Expr} {it:Addr} {u:Value} {o:Obj} {n:String} {vs:Array Value} {Q:Unit->Shared->Prop} (ho:s.heap.get? it=some o) (hc:o.cls=.type n) (hd:o.data=.fields vs)
  (hn:["enumerate", "zip", "dict_itemiterator", "dict_reverseitemiterator", "odict_iterator", "itertools.zip_longest", "itertools.pairwise"].contains n=false) (hQ:Q () s):wpAny M A (letOwnedTupleGo tg (.ref it) u) Q E s:=by
 unfold letOwnedTupleGo
 cases tg <;> first
  | exact wpAny_pure hQ
  | (cases u <;> first
    | exact wpAny_pure hQ
    | (refine wpAny_bind (wpAny_load ho ?_)
       rw [hc,hd]
       show wpAny M A (if (["enumerate", "zip", "dict_itemiterator", "dict_reverseitemiterator", "odict_iterator", "itertools.zip_longest", "itertools.pairwise"].contains n&&vs[0]? == some (rawInt _))=true then _ else _) Q E s
       rw [if_neg (by intro h; rw [hn,Bool.false_and] at h; cases h)]
       exact wpAny_pure hQ))
noncomputable def Itl (K:PySem.W.Frag) (a:Addr):It :=
 ⟨fun i H=>∃ xs x,SqL K H a xs/\xs[i]?=some x,fun i H x H'=>H'=H/\∀ xs,SqL K H a xs->xs[i]?=some x,fun i H=>∃ xs,SqL K H a xs/\xs.length<=i⟩
noncomputable def Itt (K:PySem.W.Frag) (a:Addr):It :=
 ⟨fun i H=>∃ xs x,SqT K H a xs/\xs[i]?=some x,fun i H x H'=>H'=H/\∀ xs,SqT K H a xs->xs[i]?=some x,fun i H=>∃ xs,SqT K H a xs/\xs.length<=i⟩
noncomputable def Itr (lo:Int) (n:Nat):It:=⟨fun i _=>i<n,fun i H x H'=>H'=H/\x=.int (lo+i),fun i _=>n<=i⟩
theorem pP {P:Program} {w:World} {K:PySem.W.Frag} {tg:Expr} (a it:Addr):Turn P w K tg (Itl K a) [it] it (fun i h=>h.IsListIter it a i) where
 mem:=by simp
 obj:=fun i h st b hb=>by
  have e:b=it:=by simpa using hb
  subst e
  obtain ⟨o,e,c,d⟩:=st
  exact ⟨o,e,fun v z=>by rw [d] at z; cases z⟩
 keep:=fun i h h' st k=>st.at fun o e=>k it (by simp) o e
 item:=by
  intro X hP hw hK hc i pins s σ H E I hf st hg
  subst hP hw hK
  obtain ⟨xs,x,hq,hx⟩:=hg
  obtain ⟨its,rv,p,hz⟩:=I.list hq
  obtain ⟨u,hu,ru⟩:=rv.get hx
  obtain ⟨f0,f1,f2,f3,f4,f5⟩:=hf it (by simp)
  refine wpAny_pyNext_list_item st p.isList (x:=u) (by simpa using hu) fun h' st' sb => ?_
  have I1:Inv X pins σ H { s with heap:=h' }:=I.turned (t':=s.toks) (fun b o hb e=>(sb.2 b hb).trans e) f0 f1 f3 f4 f5
  obtain ⟨o,e,c,d⟩:=id st'
  exact ⟨u,rfl,gh (s:={ s with heap:=h' }) e c d (by decide) ⟨x,H,I1,ru,⟨rfl,fun ys hy=>by rw [I.qe hy hq]; exact hx⟩,st',fun b hb=>(hf b hb).1⟩⟩
 done:=by
  intro X hP hw hK hc i pins s σ H E I hf st hg
  subst hP hw hK
  obtain ⟨xs,hq,hx⟩:=hg
  obtain ⟨its,rv,p,hz⟩:=I.list hq
  obtain ⟨f0,f1,f2,f3,f4,f5⟩:=hf it (by simp)
  have hl:=rv.length
  exact wpAny_pyNext_list_end (I.ok.hd hc) st p.isList (by simp; omega) fun h' eb=>⟨rfl,I.turned (t':=s.toks) (fun b o hb e=>eb b o hb e) f0 f1 f3 f4 f5⟩
 self:=fun _ _ _ _ _ st h=>wpAny_pyIter_listiter st h
theorem mV {P:Program} {w:World} {K:PySem.W.Frag} {tg:Expr} (a it:Addr):Turn P w K tg (Itt K a) [it] it (fun i h=>h.IsTupleIter it a i) where
 mem:=by simp
 obj:=fun i h st b hb=>by
  have e:b=it:=by simpa using hb
  subst e
  obtain ⟨o,e,c,d⟩:=st
  exact ⟨o,e,fun v z=>by rw [d] at z; cases z⟩
 keep:=fun i h h' st k=>st.at fun o e=>k it (by simp) o e
 item:=by
  intro X hP hw hK hc i pins s σ H E I hf st hg
  subst hP hw hK
  obtain ⟨xs,x,hq,hx⟩:=hg
  obtain ⟨its,rv,p,hz⟩:=I.tuple hq
  obtain ⟨u,hu,ru⟩:=rv.get hx
  obtain ⟨f0,f1,f2,f3,f4,f5⟩:=hf it (by simp)
  refine wpAny_pyNext_tuple_item st (show s.heap.IsTuple a its.toArray from p) (x:=u) (by simpa using hu) fun h' st' sb => ?_
  have I1:Inv X pins σ H { s with heap:=h' }:=I.turned (t':=s.toks) (fun b o hb e=>(sb.2 b hb).trans e) f0 f1 f3 f4 f5
  obtain ⟨o,e,c,d⟩:=id st'
  exact ⟨u,rfl,gh (s:={ s with heap:=h' }) e c d (by decide) ⟨x,H,I1,ru,⟨rfl,fun ys hy=>by rw [I.oJ hy hq]; exact hx⟩,st',fun b hb=>(hf b hb).1⟩⟩
 done:=by
  intro X hP hw hK hc i pins s σ H E I hf st hg
  subst hP hw hK
  obtain ⟨xs,hq,hx⟩:=hg
  obtain ⟨its,rv,p,hz⟩:=I.tuple hq
  obtain ⟨f0,f1,f2,f3,f4,f5⟩:=hf it (by simp)
  have hl:=rv.length
  exact wpAny_pyNext_tuple_end (I.ok.hd hc) st (show s.heap.IsTuple a its.toArray from p) (by simp; omega) fun h' eb=>⟨rfl,I.turned (t':=s.toks) (fun b o hb e=>eb b o hb e) f0 f1 f3 f4 f5⟩
 self:=fun _ _ _ _ _ st h=>wpAny_pyIter_tupleiter st h
theorem mT {P:Program} {w:World} {K:PySem.W.Frag} {tg:Expr} (it:Addr) (lo:Int) (n:Nat):Turn P w K tg (Itr lo n) [it] it (fun i h=>IsRangeIter h it (lo+(i:Nat) * 1) ((n:Int) - (i:Nat)) 1) where
 mem:=by simp
 obj:=fun i h st b hb=>by
  have e:b=it:=by simpa using hb
  subst e
  exact ⟨_,st,fun v z=>by
   have z':Data.fields _=Data.cell v:=z
   cases z'⟩
 keep:=fun i h h' st k=>k it (by simp) _ st
 item:=by
  intro X hP hw hK hc i pins s σ H E I hf st hg
  subst hP hw hK
  obtain ⟨f0,f1,f2,f3,f4,f5⟩:=hf it (by simp)
  have W:=Walks.range (prog:=X.prog) (w:=X.w) (I.ok.hd hc) it lo 1 n
  refine W.item i s _ _ hg st fun v h' tk hv st' kk => ?_
  obtain ⟨t,rfl⟩:=hv
  have I1:Inv X pins σ H { s with heap:=h',toks:=tk }:=I.turned (fun b o hb e=>kk b o (by simpa using hb) e) f0 f1 f3 f4 f5
  refine ⟨_,rfl,gh (s:={ s with heap:=h',toks:=tk }) (n := "range_iterator") st' rfl rfl (by decide) ⟨.int (lo+i),H,I1,⟨t,?_⟩,⟨rfl,rfl⟩,st',fun b hb=>(hf b hb).1⟩⟩
  rw [Int.mul_one]
 done:=by
  intro X hP hw hK hc i pins s σ H E I hf st hg
  subst hP hw hK
  obtain ⟨f0,f1,f2,f3,f4,f5⟩:=hf it (by simp)
  exact wpAny_pyNext_range_end (I.ok.hd hc) st (by have:n<=i:=hg; omega) fun h' eb=>⟨rfl,I.turned (t':=s.toks) (fun b o hb e=>eb b o hb e) f0 f1 f3 f4 f5⟩
 self:=fun _ _ _ _ _ st h=>wpAny_pyIter_rangeiter st h
end L2
namespace L2
open PySem PySem.Spec PyProof.Rows
section
variable {X:Cx} {tg:Expr}
theorem kR {pins:List (Addr × Obj)} {σ:St} {H:Hp} {s:Shared} {R:It->Hp->Prop} {E:Value->Shared->Prop} {lo hi:Int} {t u v:Tok} {tk:Nat} (I:Inv X pins σ H s) (h1:-(2 ^ 62)<=lo) (h2:lo<2 ^ 62) (h3:-(2 ^ 62)<=hi) (h4:hi<2 ^ 62)
  (q:R (Itr lo (hi - lo).toNat) H):wpAny (model X.prog X.w) X.A (pyIter (.ref s.heap.objs.size)) (PIE X pins σ tg R) E { s with heap:=s.heap.push { cls:=.type "range",data:=.fields #[.int lo t,.int hi u,.int 1 v] },toks:=tk }:=by
 refine wpAny_pyIter_range (IsRange.new ..) (small_one h1 h2 h3 h4) ?_
 have I1:Inv X pins σ H { s with heap:=s.heap.push { cls:=.type "range",data:=.fields #[.int lo t,.int hi u,.int 1 v] },toks:=tk }:=I.kept fun b o e=>Heap.get?_push_of_some _ e
 refine ⟨(s.heap.push { cls:=.type "range",data:=.fields #[.int lo t,.int hi u,.int 1 v] }).objs.size,[(s.heap.push { cls:=.type "range",data:=.fields #[.int lo t,.int hi u,.int 1 v] }).objs.size],_,_,H,rfl,
  I1.kept (t':=tk) fun b o e=>Heap.get?_push_of_some _ e,mT _ lo (hi - lo).toNat,?_,fun b hb => ?_,q⟩
 ·have e1:lo+((0:Nat):Int) * 1=lo:=by simp
  have e2:(((hi - lo).toNat:Nat):Int) - ((0:Nat):Int)=Builtin.Range.rangeSize lo hi 1:=by rw [rangeSize_one]; split <;> omega
  show IsRangeIter _ _ (lo+((0:Nat):Int) * 1) ((((hi - lo).toNat:Nat):Int) - ((0:Nat):Int)) 1
  rw [e1,e2]
  exact Heap.get?_push_size _ rfl
 ·have e:b=(s.heap.push { cls:=.type "range",data:=.fields #[.int lo t,.int hi u,.int 1 v] }).objs.size:=by simpa using hb
  subst e
  exact I1.s9 (Nat.le_refl _) (I1.hok.fresh (Nat.le_refl _))
noncomputable def Dq (ta:TA):TI:=fun σ H R=>ta σ H fun vs H1=>∃ j:Int,vs=[.int j]/\-(2 ^ 62)<=j/\j<2 ^ 62/\R (Itr 0 j.toNat) H1
noncomputable def CW (ta:TA):TI:=fun σ H R=>ta σ H fun vs H1=>∃ i j:Int,vs=[.int i,.int j]/\(-(2 ^ 62)<=i/\i<2 ^ 62/\-(2 ^ 62)<=j/\j<2 ^ 62)/\R (Itr i (j - i).toNat) H1
theorem oO {a:Expr} {ta:TA} {p pos:Pos} (hg:Gl X "range") (hm:X.mg "range" = none) (ha:PA X [a] ta) (hs:starEach [a] X.env=[(false,eval a X.env)]:=by rfl):PI X tg (.Call (.Name "range" p) [a] [] pos) (Dq ta):=by
 intro pins s σ H R I h
 refine Call_ (eO I hg hm boot_range (PyProof.Rows.callWith_type1 (thn (ha pos pins s σ H _ I h) fun us s1 ⟨vs,H1,I1,r1,q1⟩ => ?_) hs rfl))
 obtain ⟨j,e,q1,q2,q⟩:=q1
 subst e
 cases r1 with
 | cons r rr =>
  cases rr
  obtain ⟨t,rfl⟩:=r
  exact call_range_1 (kR I1 (by omega) (by omega) q1 q2 (by simpa using q))
theorem pI {a b:Expr} {ta:TA} {p pos:Pos} (hg:Gl X "range") (hm:X.mg "range" = none) (ha:PA X [a,b] ta) (hs:starEach [a,b] X.env=[(false,eval a X.env),(false,eval b X.env)]:=by rfl) (hs2:starEach [b] X.env=[(false,eval b X.env)]:=by rfl) :
  PI X tg (.Call (.Name "range" p) [a,b] [] pos) (CW ta):=by
 intro pins s σ H R I h
 refine Call_ (eO I hg hm boot_range (PyProof.Rows.callWith_type1 (thn (ha pos pins s σ H _ I h) fun us s1 ⟨vs,H1,I1,r1,q1⟩ => ?_) (by rw [hs,hs2]) (by rw [hs2]; rfl)))
 obtain ⟨i,j,e,⟨q1,q2,q3,q4⟩,q⟩:=q1
 subst e
 cases r1 with
 | cons r rr =>
  cases rr with
  | cons r' rr =>
   cases rr
   obtain ⟨t,rfl⟩:=r
   obtain ⟨t',rfl⟩:=r'
   exact call_range_2 (kR I1 q1 q2 q3 q4 q)
noncomputable def DY (wi:TI) (g:TG) (tb:TS):TS:=fun D σ H=>wi σ H fun J H1=>∃ W:Nat->Nat->St->Hp->Prop,(∃ m,W 0 m σ H1)/\∀ i m σ H,W i m σ H ->
 (J.stop i H/\D.nx σ H)\/(J.go i H/\∃ N:St->Hp->Prop,(∀ σ' H',N σ' H'->∃ m',m'<m/\W (i+1) m' σ' H')/\∀ x H',J.yld i H x H'->g x σ H' fun σ2 H2=>tb { D with nx:=N,ct:=N,bk:=D.nx } σ2 H2)
noncomputable def dO (fp:List Addr) (h:Heap):List (Addr × Obj):=fp.filterMap fun b=>(h.get? b).map fun o=>(b,o)
theorem dq {fp:List Addr} {h:Heap} {b:Addr} {o:Obj} (hb:b∈fp) (e:h.get? b=some o):(b,o)∈dO fp h:=List.mem_filterMap.mpr ⟨b,hb,by rw [e]; rfl⟩
theorem jb {fp:List Addr} {h:Heap} {p:Addr × Obj} (hp:p∈dO fp h):p.1∈fp/\h.get? p.1=some p.2:=by
 obtain ⟨b,hb,e⟩:=List.mem_filterMap.mp hp
 cases q:h.get? b with
 | none=>rw [q] at e; cases e
 | some o =>
  rw [q] at e
  have e':(b,o)=p:=Option.some.inj e
  subst e'
  exact ⟨hb,q⟩
theorem Inv.pinned {pins:List (Addr × Obj)} {σ:St} {H:Hp} {s:Shared} {fp:List Addr} (I:Inv X pins σ H s) (hf:∀ b∈fp,iH X pins H b) (ho:∀ b∈fp,∃ o,s.heap.get? b=some o/\∀ v,o.data≠.cell v):Inv X (pins++dO fp s.heap) σ H s :=
 I.eT fun p hp=>(List.mem_append.mp hp).elim (fun z=>I.pin p (List.mem_append_right _ z)) fun z=>by
  obtain ⟨hb,e⟩:=jb z
  obtain ⟨f0,f1,f2,_⟩:=hf p.1 hb
  obtain ⟨o,e',d⟩:=ho p.1 hb
  rw [e] at e'; cases e'
  exact ⟨e,f0,f1,f2,d⟩
theorem Inv.iD {pins pl:List (Addr × Obj)} {σ:St} {H:Hp} {s:Shared} (I:Inv X (pins++pl) σ H s):Inv X pins σ H s:=I.eT fun p hp=>I.pin p (List.mem_append_right _ (List.mem_append_left _ hp))
theorem y2 {iter:Expr} {body:List Stmt} {wi:TI} {g:TG} {tb:TS} {pos:Pos} (hp:PassesOwn (model X.prog X.w) X.A X.env X.xe) (hc:X.calm=true) (hi:PI X tg iter wi) (hg:PG X tg g) (hb:PSs X body tb)
  (hs:∀ x,foldedSetIterable iter X.env x=pure x:=by intro _; rfl):PS X (.For tg iter body [] pos) (DY wi g tb):=by
 intro pins s σ H D I h
 refine wpAny_For (thn (hi pins s σ H _ I h) fun v s1 h1=>thn h1 fun itv s2 h2 => ?_) hs
 obtain ⟨it,fp,tn,J,H2,e,I2,T,st2,f2,W,⟨m0,w0⟩,turn⟩:=h2
 subst e
 have stat:∀ {H':Hp},(∀ b∈fp,H' b=none)->∀ b∈fp,iH X pins H' b:=fun hn b hb=>⟨hn b hb,(f2 b hb).2⟩
 refine codeAny_forLoop_any (fun n s'=>∃ i σ' H',Inv X pins σ' H' s'/\tn i s'.heap/\(∀ b∈fp,H' b=none)/\W i n σ' H') ?_ m0 ⟨0,σ,H2,I2,st2,fun b hb=>(f2 b hb).1,w0⟩
 rintro n s3 ⟨i,σ3,H3,I3,st3,fr3,w3⟩
 rcases turn i n σ3 H3 w3 with ⟨stop,qn⟩ | ⟨go,N,hN,step⟩
 ·refine wpAny_passesOwn hp (thn (T.done X rfl rfl rfl hc i pins s3 σ3 H3 X.xe I3 (stat fr3) st3 stop) fun r s4 ⟨hr,I4⟩ => ?_)
  subst hr
  exact wpAny_execs_nil ⟨σ3,H3,I4,qn⟩
 ·refine wpAny_passesOwn hp (thn (T.item X rfl rfl rfl hc i pins s3 σ3 H3 X.xe I3 (stat fr3) st3 go) fun r s4 ⟨u,hr,h4⟩ => ?_)
  subst hr
  refine wpAny_passesOwn hp (thn h4 fun _ s5 ⟨x,H5,I5,r5,y5,st5,fr5⟩ => ?_)
  have I5':=I5.pinned (stat fr5) (T.obj _ _ st5)
  refine wpAny_passesOwn hp (thn (hg _ s5 σ3 H5 x u _ I5' r5 (step x H5 y5)) fun _ s6 ⟨σ6,H6,I6,q6⟩ => ?_)
  refine wpAny_passesOwn hp (thn (hb _ s6 σ6 H6 _ I6 q6) fun f s7 q7 => ?_)
  have again:∀ {σ7:St} {H7:Hp},Inv X (pins++dO fp s5.heap) σ7 H7 s7->N σ7 H7->∃ m,m<n/\∃ i σ' H',Inv X pins σ' H' s7/\tn i s7.heap/\(∀ b∈fp,H' b=none)/\W i m σ' H':=fun {σ7 H7} I7 n7=>by
   obtain ⟨m',hm,w7⟩:=hN σ7 H7 n7
   refine ⟨m',hm,i+1,σ7,H7,I7.iD,T.keep _ _ _ st5 fun b hb o e=>(I7.pin (b,o) (List.mem_append_right _ (List.mem_append_right _ (dq hb e)))).1,fun b hb => ?_,w7⟩
   obtain ⟨o,e,d⟩:=T.obj _ _ st5 b hb
   exact (I7.pin (b,o) (List.mem_append_right _ (List.mem_append_right _ (dq hb e)))).2.1
  cases f with
  | next=>obtain ⟨σ7,H7,I7,n7⟩:=q7; exact again I7 n7
  | cont=>obtain ⟨σ7,H7,I7,n7⟩:=q7; exact again I7 n7
  | brk=>obtain ⟨σ7,H7,I7,q7⟩:=q7; exact ⟨σ7,H7,I7.iD,q7⟩
  | ret v=>obtain ⟨x7,σ7,H7,I7,r7,q7⟩:=q7; exact ⟨x7,σ7,H7,I7.iD,r7,q7⟩
end
end L2
namespace L2
open PySem PySem.Spec PyProof.Rows
noncomputable abbrev R2:=V->V->Hp->VK->Prop
noncomputable def OpR (X:Cx) (f:Value->Value->Sem Value) (r:R2):Prop :=
 ∀ (pins:List (Addr × Obj)) (s:Shared) (σ:St) (H:Hp) (x y:V) (v u:Value) (Q:VK),Inv X pins σ H s->RelV x v->RelV y u->r x y H Q ->
  wpAny (model X.prog X.w) X.A (f v u) (EP X pins σ Q) X.xe s
noncomputable def UnR (X:Cx) (f:Value->Sem Value) (r:V->Hp->VK->Prop):Prop :=
 ∀ (pins:List (Addr × Obj)) (s:Shared) (σ:St) (H:Hp) (x:V) (v:Value) (Q:VK),Inv X pins σ H s->RelV x v->r x H Q ->
  wpAny (model X.prog X.w) X.A (f v) (EP X pins σ Q) X.xe s
noncomputable def bR (X:Cx) (f:Value) (r:List V->Hp->VK->Prop):Prop :=
 ∀ (pins:List (Addr × Obj)) (s:Shared) (σ:St) (H:Hp) (xs:List V) (us:List Value) (Q:VK),Inv X pins σ H s->Vals xs us->r xs H Q ->
  wpAny (model X.prog X.w) X.A (call f us) (EP X pins σ Q) X.xe s
noncomputable def D5 (X:Cx) (r:V->Hp->(Bool->Hp->Prop)->Prop):Prop :=
 ∀ (pins:List (Addr × Obj)) (s:Shared) (σ:St) (H:Hp) (x:V) (v:Value) (Q:Bool->Hp->Prop),Inv X pins σ H s->RelV x v->r x H Q ->
  wpAny (model X.prog X.w) X.A (truthy v) (TP X pins σ Q) X.xe s
noncomputable def tOp (r:R2) (ta tb:TE):TE:=fun σ H Q=>ta σ H fun x H1=>tb σ H1 fun y H2=>r x y H2 Q
noncomputable def tUn (r:V->Hp->VK->Prop) (ta:TE):TE:=fun σ H Q=>ta σ H fun x H1=>r x H1 Q
noncomputable def rI (C:Int->Int->Prop) (g:Int->Int->V):R2:=fun x y H Q=>∃ i j,x=.int i/\y=.int j/\C i j/\Q (g i j) H
noncomputable def rI0 (g:Int->Int->V):R2:=fun x y H Q=>∃ i j,x=.int i/\y=.int j/\Q (g i j) H
noncomputable def rU (g:Int->V):V->Hp->VK->Prop:=fun x H Q=>∃ i,x=.int i/\Q (g i) H
section
variable {X:Cx} {a b c:Expr} {ta tb tc:TE} {pos:Pos}
theorem yH (ha:PE X a ta) (hb:PE X b tb) {pins:List (Addr × Obj)} {s:Shared} {σ:St} {H:Hp} {R:V->V->Hp->Prop} (I:Inv X pins σ H s)
  (h:ta σ H fun x H1=>tb σ H1 fun y H2=>R x y H2) {Q:Value->Shared->Prop} {f:Value->Value->Sem Value}
  (hf:∀ v u s2 x y H2,Inv X pins σ H2 s2->RelV x v->RelV y u->R x y H2->wpAny (model X.prog X.w) X.A (f v u) Q X.xe s2) :
  wpAny (model X.prog X.w) X.A (eval a X.env) (fun v s₁=>wpAny (model X.prog X.w) X.A (eval b X.env) (fun u s₂=>wpAny (model X.prog X.w) X.A (f v u) Q X.xe s₂) X.xe s₁) X.xe s:=by
 refine thn (ha pins s σ H _ I h) fun v s1 ⟨x,H1,I1,r1,q1⟩ => ?_
 refine thn (hb pins s1 σ H1 _ I1 q1) fun u s2 ⟨y,H2,I2,r2,q2⟩ => ?_
 exact hf v u s2 x y H2 I2 r1 r2 q2
theorem wU {op:Operator} {r:R2} (ho:OpR X (binaryOp op) r) (ha:PE X a ta) (hb:PE X b tb):PE X (.BinOp a op b pos) (tOp r ta tb):=by
 intro pins s σ H Q I h
 exact wpAny_BinOp (yH ha hb I h fun v u s2 x y H2 I2 rx ry q=>ho pins s2 σ H2 x y v u Q I2 rx ry q)
theorem Ap {op:UnaryOp} {r:V->Hp->VK->Prop} (ho:UnR X (unaryOp op) r) (ha:PE X a ta):PE X (.UnaryOp op a pos) (tUn r ta):=by
 intro pins s σ H Q I h
 exact UnaryOp_ (thn (ha pins s σ H _ I h) fun v s1 ⟨x,H1,I1,r1,q1⟩=>ho pins s1 σ H1 x v Q I1 r1 q1)
theorem opI {f:Value->Value->Sem Value} {C:Int->Int->Prop} {g:Int->Int->Int}
  (rule:∀ (i j:Int) (t u:Tok) (s:Shared) (Q:Value->Shared->Prop) (E:Value->Shared->Prop),C i j->Q (.int (g i j) s.toks) { s with toks:=s.toks+1 }->wpAny (model X.prog X.w) X.A (f (.int i t) (.int j u)) Q E s) :
  OpR X f (rI C fun i j=>.int (g i j)):=by
 intro pins s σ H x y v u Q I rx ry h
 obtain ⟨i,j,rfl,rfl,hc,q⟩:=h
 obtain ⟨t,rfl⟩:=rx
 obtain ⟨t',rfl⟩:=ry
 exact rule i j t t' s _ _ hc ⟨.int (g i j),H,I.tok _,⟨_,rfl⟩,q⟩
theorem sF {f:Value->Value->Sem Value} {g:Int->Int->Int}
  (rule:∀ (i j:Int) (t u:Tok) (s:Shared) (Q:Value->Shared->Prop) (E:Value->Shared->Prop),Q (.int (g i j) s.toks) { s with toks:=s.toks+1 }->wpAny (model X.prog X.w) X.A (f (.int i t) (.int j u)) Q E s) :
  OpR X f (rI0 fun i j=>.int (g i j)):=by
 intro pins s σ H x y v u Q I rx ry h
 obtain ⟨i,j,rfl,rfl,q⟩:=h
 obtain ⟨t,rfl⟩:=rx
 obtain ⟨t',rfl⟩:=ry
 exact rule i j t t' s _ _ ⟨.int (g i j),H,I.tok _,⟨_,rfl⟩,q⟩
theorem t5 {f:Value->Value->Sem Value} {g:Int->Int->Bool}
  (rule:∀ (i j:Int) (t u:Tok) (s:Shared) (Q:Value->Shared->Prop) (E:Value->Shared->Prop),Q (.bool (g i j)) s->wpAny (model X.prog X.w) X.A (f (.int i t) (.int j u)) Q E s) :
  OpR X f (rI0 fun i j=>.bl (g i j)):=by
 intro pins s σ H x y v u Q I rx ry h
 obtain ⟨i,j,rfl,rfl,q⟩:=h
 obtain ⟨t,rfl⟩:=rx
 obtain ⟨t',rfl⟩:=ry
 exact rule i j t t' s _ _ ⟨.bl (g i j),H,I,rfl,q⟩
noncomputable def CB (i j:Int):Prop:=0<=j/\j<=1000000/\i.natAbs<2 ^ 64
theorem mP (k:Nat):(0:Int)<=2 ^ k:=by
 rw [two_pow_cast]
 exact Int.natCast_nonneg _
theorem yC:OpR X (binaryOp .Add) (rI0 fun i j=>.int (i+j)):=sF fun _ _ _ _ _ _ _ q=>add_int q
theorem Af:OpR X (binaryOp .Sub) (rI0 fun i j=>.int (i - j)):=sF fun _ _ _ _ _ _ _ q=>sub_int q
theorem xK:OpR X (binaryOp .Mod) (rI (fun _ j=>0<j) fun i j=>.int (i % j)):=opI fun i j _ _ _ _ _ hc q=>by
 have h1:(0:Int)<j:=hc
 exact mod_int' (by omega) (by rw [Int.fmod_eq_emod_of_nonneg i (by omega)]; exact q)
theorem zv:OpR X (binaryOp .Pow) (rI CB fun i j=>.int (i ^ j.toNat)):=opI fun _ _ _ _ _ _ _ hc q=>pow_int_small hc.1 hc.2.1 hc.2.2 q
theorem zk:OpR X (binaryOp .RShift) (rI (fun _ j=>0<=j) fun i j=>.int (i / 2 ^ j.toNat)):=opI fun i j _ _ _ _ _ hc q =>
 rshift_int hc (by rw [Int.fdiv_eq_ediv_of_nonneg i (mP _)]; exact q)
theorem xM:OpR X (binaryOp .BitAnd) (rI0 fun i j=>.int (Builtin.bitAnd i j)):=sF fun _ _ _ _ _ _ _ q=>and_int q
theorem Bi:OpR X (binaryOp .BitOr) (rI0 fun i j=>.int (Builtin.bitOr i j)):=sF fun _ _ _ _ _ _ _ q=>or_int q
theorem xj:OpR X (binaryOp .BitXor) (rI0 fun i j=>.int (Builtin.bitXor i j)):=sF fun _ _ _ _ _ _ _ q=>xor_int q
theorem unI {f:Value->Sem Value} {g:Int->Int}
  (rule:∀ (i:Int) (t:Tok) (s:Shared) (Q:Value->Shared->Prop) (E:Value->Shared->Prop),Q (.int (g i) s.toks) { s with toks:=s.toks+1 }->wpAny (model X.prog X.w) X.A (f (.int i t)) Q E s) :
  UnR X f (rU fun i=>.int (g i)):=by
 intro pins s σ H x v Q I rx h
 obtain ⟨i,rfl,q⟩:=h
 obtain ⟨t,rfl⟩:=rx
 exact rule i t s _ _ ⟨.int (g i),H,I.tok _,⟨_,rfl⟩,q⟩
theorem xV:UnR X (unaryOp .USub) (rU fun i=>.int (-i)):=unI fun _ _ _ _ _ q=>neg_int q
end
section
variable {X:Cx} {a b c:Expr} {ta tb tc:TE} {pos:Pos}
theorem BF:OpR X (compareOp .Lt) (rI0 fun i j=>.bl (decide (i<j))):=t5 fun _ _ _ _ _ _ _ q=>lt_int q
theorem BP:OpR X (compareOp .LtE) (rI0 fun i j=>.bl (decide (i<=j))):=t5 fun _ _ _ _ _ _ _ q=>le_int q
theorem An:OpR X (compareOp .Gt) (rI0 fun i j=>.bl (decide (j<i))):=t5 fun _ _ _ _ _ _ _ q=>gt_int q
theorem BB:OpR X (compareOp .GtE) (rI0 fun i j=>.bl (decide (j<=i))):=t5 fun _ _ _ _ _ _ _ q=>ge_int q
theorem dR (b:Expr) {op:CmpOp} (h:op≠.In:=by decide) (h2:op≠.NotIn:=by decide):behindInMarks op b=false:=by
 have e1:(op == CmpOp.In)=false:=by cases op <;> first | rfl | exact absurd rfl h
 have e2:(op == CmpOp.NotIn)=false:=by cases op <;> first | rfl | exact absurd rfl h2
 cases b <;> simp [behindInMarks,e1,e2]
theorem t8 {op:CmpOp} {r:R2} (ho:OpR X (compareOp op) r) (ha:PE X a ta) (hb:PE X b tb) (hm:behindInMarks op b=false):PE X (.Compare a [op] [b] pos) (tOp r ta tb):=by
 intro pins s σ H Q I h
 exact wpAny_Compare1 (yH ha hb I h fun v u s2 x y H2 I2 rx ry q=>ho pins s2 σ H2 x y v u Q I2 rx ry q) hm
noncomputable def AR (t:TE):TT:=fun σ H Q=>t σ H fun x H'=>∃ k,x=.bl k/\Q k H'
theorem vj {op:CmpOp} {r:R2} (ho:OpR X (compareOp op) r) (ha:PE X a ta) (hb:PE X b tb) (hm:behindInMarks op b=false):PT X (.Compare a [op] [b] pos) (AR (tOp r ta tb)):=by
 intro pins s σ H Q I h
 refine wpAny_isTrue_Compare1 (thn (ha pins s σ H _ I h) fun v s1 ⟨x,H1,I1,r1,q1⟩=>thn (hb pins s1 σ H1 _ I1 q1) fun u s2 ⟨y,H2,I2,r2,q2⟩ =>
  thn (ho pins s2 σ H2 x y v u _ I2 r1 r2 q2) fun c s3 ⟨z,H3,I3,r3,k,e,q3⟩ => ?_) hm
 subst e
 cases r3
 exact wpAny_truthy_bool ⟨H3,I3,q3⟩
noncomputable def zS (K:PySem.W.Frag) (x:V) (H:Hp) (k:Bool):Prop :=
 match x with
 | .non=>k=false
 | .bl b=>k=b
 | .int i=>k=(i != 0)
 | .str y=>y.length<=sizeLine/\k=((y.length:Int) != 0)
 | .byt y=>y.size<=sizeLine/\k=((y.size:Int) != 0)
 | .ref p=>(∃ xs,SqL K H p xs/\k = !xs.isEmpty)\/(∃ xs,SqT K H p xs/\k = !xs.isEmpty)\/∃ kvs,H p=some (.dK kvs)/\k = !kvs.isEmpty
 | _=>False
theorem mW {κ:Type} {kvs:List (κ × V)} {vs:List (κ × Value)} (r:KV kvs vs):(!vs.isEmpty) = !kvs.isEmpty:=by
 cases r <;> rfl
theorem iL {xs:List V} {its:List Value} (r:Vals xs its):(!its.toArray.isEmpty) = !xs.isEmpty:=by
 cases r <;> simp
theorem eK:(sizeLine:Nat)<2 ^ 63:=by rw [sizeLine_eq]; decide
theorem yk:D5 X (fun x H Q=>∃ k,zS X.K x H k/\Q k H):=by
 intro pins s σ H x v Q I rx h
 obtain ⟨k,e,q⟩:=h
 have hl:=eK
 have hs:sizeLine=16777216:=sizeLine_eq
 cases x with
 | non =>
  cases rx
  have e':k=false:=e
  subst e'
  exact truthy_none ⟨H,I,q⟩
 | bl b =>
  cases rx
  have e':k=b:=e
  subst e'
  exact wpAny_truthy_bool ⟨H,I,q⟩
 | int i =>
  obtain ⟨t,rfl⟩:=rx
  have e':k=(i != 0):=e
  subst e'
  exact PySem.P.truthy_int ⟨H,I,q⟩
 | str y =>
  obtain ⟨t,rfl⟩:=rx
  obtain ⟨hy,e'⟩:y.length<=sizeLine/\k=((y.length:Int) != 0):=e
  subst e'
  exact PySem.P.truthy_str (by omega) ⟨H,I.tok _,q⟩
 | byt y =>
  obtain ⟨t,rfl⟩:=rx
  obtain ⟨hy,e'⟩:y.size<=sizeLine/\k=((y.size:Int) != 0):=e
  subst e'
  exact PySem.W.truthy_bytes (by omega) ⟨H,I.tok _,q⟩
 | ref p =>
  cases rx
  have e':(∃ xs,SqL X.K H p xs/\k = !xs.isEmpty)\/(∃ xs,SqT X.K H p xs/\k = !xs.isEmpty)\/∃ kvs,H p=some (.dK kvs)/\k = !kvs.isEmpty:=e
  rcases e' with ⟨xs,hx,e'⟩ | ⟨xs,hx,e'⟩ | ⟨kvs,hx,e'⟩
  ·subst e'
   obtain ⟨its,r,pl,hz⟩:=I.list hx
   have hlen:=r.length
   exact wpAny_truthy_list pl.isList (by simp only [List.size_toArray]; omega) ⟨H,I.tok _,by rw [iL r]; exact q⟩
  ·subst e'
   obtain ⟨its,r,pl,hz⟩:=I.tuple hx
   have hlen:=r.length
   exact truthy_tuple pl (by simp only [List.size_toArray]; omega) ⟨H,I.tok _,by rw [iL r]; exact q⟩
  ·subst e'
   obtain ⟨hz,hS,vs,r,m⟩:kvs.length<=sizeLine/\(p == sysModules)=false/\∃ vs,KV kvs vs/\s.heap.DictOf (aQ X.prog X.w) p vs:=I.hok p _ hx
   have hlen:kvs.length=vs.length:=Paired.length r
   exact wpAny_truthy_dict hS m (by omega) ⟨H,I.tok _,by rw [mW r]; exact q⟩
 | _=>exact (show False from e).elim
theorem qF (ha:PE X a ta) (he:∀ whole,isTrue a X.env whole=(do let v <-whole; standAt a.pos; holding [v] (truthy v))) :
  PT X a (fun σ H Q=>ta σ H fun x H'=>∃ k,zS X.K x H' k/\Q k H'):=by
 intro pins s σ H Q I h
 exact isTrue_plain (thn (ha pins s σ H _ I h) fun v s1 ⟨x,H1,I1,r1,q1⟩=>yk pins s1 σ H1 x v Q I1 r1 q1) (he _)
theorem vals1 {x:V} {us:List Value} (r:Vals [x] us):∃ u,us=[u]/\RelV x u:=by
 cases r with
 | cons r1 r2=>cases r2; exact ⟨_,rfl,r1⟩
theorem vals2 {x y:V} {us:List Value} (r:Vals [x,y] us):∃ u w',us=[u,w']/\RelV x u/\RelV y w':=by
 cases r with
 | cons r1 r2 =>
  cases r2 with
  | cons r3 r4=>cases r4; exact ⟨_,_,rfl,r1,r3⟩
noncomputable def By (K:PySem.W.Frag) (x:V) (H:Hp) (n:Nat):Prop :=
 match x with
 | .str y=>y.length<=sizeLine/\n=y.length
 | .byt y=>y.size<=sizeLine/\n=y.size
 | .ref p=>(∃ xs,SqL K H p xs/\n=xs.length)\/∃ xs,SqT K H p xs/\n=xs.length
 | _=>False
theorem rR:bR X (.builtin "len") (fun xs H Q=>∃ x n,xs=[x]/\By X.K x H n/\Q (.int n) H):=by
 intro pins s σ H xs us Q I r h
 obtain ⟨x,n,rfl,e,q⟩:=h
 obtain ⟨u,rfl,rx⟩:=vals1 r
 have hl:=eK
 have hs:sizeLine=16777216:=sizeLine_eq
 cases x with
 | str y =>
  obtain ⟨t,rfl⟩:=rx
  obtain ⟨hy,e'⟩:y.length<=sizeLine/\n=y.length:=e
  subst e'
  exact len_str (by omega) ⟨.int _,H,I.tok _,⟨_,rfl⟩,q⟩
 | byt y =>
  obtain ⟨t,rfl⟩:=rx
  obtain ⟨hy,e'⟩:y.size<=sizeLine/\n=y.size:=e
  subst e'
  exact PySem.W.len_bytes (by omega) ⟨.int _,H,I.tok _,⟨_,rfl⟩,q⟩
 | ref p =>
  cases rx
  have e':(∃ xs,SqL X.K H p xs/\n=xs.length)\/∃ xs,SqT X.K H p xs/\n=xs.length:=e
  rcases e' with ⟨xs,hx,e'⟩ | ⟨xs,hx,e'⟩
  ·subst e'
   obtain ⟨its,r',pl,hz⟩:=I.list hx
   have hlen:=r'.length
   exact Calls.call_len_list pl.isList (by simp only [List.size_toArray]; omega) ⟨.int xs.length,H,I.tok _,⟨_,by simp only [List.size_toArray]; rw [hlen]⟩,q⟩
  ·subst e'
   obtain ⟨its,r',pl,hz⟩:=I.tuple hx
   have hlen:=r'.length
   exact len_tuple pl (by simp only [List.size_toArray]; omega) ⟨.int xs.length,H,I.tok _,⟨_,by simp only [List.size_toArray]; rw [hlen]⟩,q⟩
 | _=>exact (show False from e).elim
end
end L2
namespace L2
open PySem PySem.Spec PyProof.Rows
structure zG (h:Heap) (x dx C:Addr) (mA:Str->Option Value):Prop where
 obj:h.get? x=some (PySem.W.instObj C dx)
 ns:h.Ns1 dx mA
 ne:dx≠x
theorem oM {h:Heap} {dx:Addr} {mA:Str->Option Value} (n:h.Ns1 dx mA):∃ od,h.get? dx=some od/\∀ name,PySem.W.lookIn name od=some (mA name):=by
 obtain ⟨o,es,ep,ho,hd,hk,_,hm⟩:=n
 refine ⟨o,ho,fun name => ?_⟩
 have e:=hm name
 unfold nsFind findBy at e
 rw [<-Array.find?_toList] at e
 unfold PySem.W.lookIn
 rw [hd]
 dsimp only
 split
 ·rename_i y q
  rw [q] at e
  exact congrArg some e
 ·rename_i q
  rw [q] at e
  have a:es.toList.any (·.refKey)=false:=by
   rw [List.any_eq_false]
   intro y hy
   obtain ⟨z,t,hkey⟩:=hk y (Array.mem_toList_iff.mp hy)
   simp [DictEntry.refKey,hkey]
  have a':¬ es.toList.any (·.refKey)=true:=by rw [a]; exact Bool.false_ne_true
  rw [if_neg a']
  exact congrArg some e
theorem zG.look {h:Heap} {x dx C:Addr} {mA:Str->Option Value} (I:zG h x dx C mA):∃ od,PySem.W.InstAt h x (PySem.W.instObj C dx) C (some od)/\∀ name,PySem.W.lookIn name od=some (mA name) :=
 let ⟨od,ho,hl⟩:=oM I.ns
 ⟨od,⟨I.obj,rfl,rfl,ho⟩,hl⟩
section
variable {prog:Program} {w:World} {A:Around} {E:Value->Shared->Prop} {s:Shared} {K:PySem.W.Frag} {x dx C f:Addr} {mA:Str->Option Value} {name:Str} {v:Value}
end
theorem iE.some_of {v:V} {o:Option Value} (r:iE (some v) o):∃ u,o=some u/\RelV v u:=by
 cases o with
 | none=>exact (show False from r).elim
 | some u=>exact ⟨u,rfl,r⟩
section
variable {P:Program} {w:World} {H H':Hp} {h h':Heap} {a C dx:Addr} {fs fs':List (Str × V)}
theorem vt (hok:HOk P w H h) (e:H a=some (.ins C dx fs)):∃ mA,zG h a dx C mA/\(∀ f,iE (fs.lookup f) (mA f))/\PySem.Within mA (fs.map (·.1))/\fs.length<=1000/\H dx=some (.own a):=by
 obtain ⟨d,z,ne,ob,mA,n,r,q⟩:=(show aE P w H h a (.ins C dx fs) from hok a _ e)
 exact ⟨mA,⟨ob,n,ne⟩,r,q,z,d⟩
end
structure Cls (K:PySem.W.Frag) (C:Addr):Prop where
 pg:PySem.W.plainGet K C Str.empty=true
 hd:PySem.W.hasDictIn K C=true
 po:PySem.W.plainOver K C=true
 sa:PySem.W.findIn K (.ref C) "__setattr__" = some (some (.builtin "object.__setattr__"))
theorem Cls.get {K:PySem.W.Frag} {C:Addr} (c:Cls K C) (f:Str):PySem.W.plainGet K C f=true:=c.pg
noncomputable def zQ (K:PySem.W.Frag) (C:Addr) (f:Str):Prop:=PySem.W.findIn K (.ref C) f=some none
structure Meth (K:PySem.W.Frag) (C:Addr) (m:Str) (f:Addr):Prop where
 at_:PySem.W.findIn K (.ref C) m=some (some (.ref f))
 fn:PySem.W.isFn K (.ref f)=true
 kp:PySem.W.keepIn K (.ref f)=true
section
variable {X:Cx} {pins:List (Addr × Obj)} {σ:St} {H:Hp} {s:Shared} {a C dx:Addr} {fs:List (Str × V)} {f:Str} {v:V} {A:Around} {E:Value->Shared->Prop}
end
section
variable {X:Cx} {o e value:Expr} {f:Str} {pos pos' tpos:Pos} {ta tv:TE}
end
section
variable {X:Cx} {pins:List (Addr × Obj)} {σ:St} {H:Hp} {s:Shared} {A:Around} {E:Value->Shared->Prop} {Q:Value->Shared->Prop} {c:Value} {b:Bool}
inductive eM (K:PySem.W.Frag) (H:Hp):V->Value->Prop where
 | non:eM K H .non (.type "NoneType")
 | bl (x:Bool):eM K H (.bl x) (.type "bool")
 | int (i:Int):eM K H (.int i) (.type "int")
 | str (x:Str):eM K H (.str x) (.type "str")
 | flt (x:UInt64):eM K H (.flt x) (.type "float")
 | lst {a:Addr} {xs:List V} (e:H a=some (.lst xs)):eM K H (.ref a) (.type "list")
 | frz {a:Addr} {o:Obj} {xs:List V} (e:H a=some (.frz o (.lst xs))):eM K H (.ref a) (.type "list")
 | tup {a:Addr} {xs:List V} (e:H a=some (.tup xs)):eM K H (.ref a) (.type "tuple")
 | dK {a:Addr} {kvs:List (Key × V)} (e:H a=some (.dK kvs)):eM K H (.ref a) (.type "dict")
 | dT {a:Addr} {kvs:List (List Key × V)} (e:H a=some (.dT kvs)):eM K H (.ref a) (.type "dict")
 | ins {a C dx:Addr} {fs:List (Str × V)} (e:H a=some (.ins C dx fs)) (cl:Cls K C) (ha:PySem.W.findIn K (.ref C) "__class__" = some (some (.builtin "object.__class__")))
   (hn:PySem.W.specialIn K (.builtin "object.__class__") "__get__" = some (some (.builtin "getset_descriptor.__get__"))) (htk:PySem.W.takesIn K (.builtin "object.__class__")=some true)
   (hm:PySem.W.mroIn K C (.type "object")=some true):eM K H (.ref a) (.ref C)
theorem pG {x:V} {u t:Value} (I:Inv X pins σ H s) (rx:RelV x u) (ty:eM X.K H x t) (e:PySem.W.kitOne X.K t c=some b) (h:∀ tk,Q (.bool b) { s with toks:=tk }) :
  wpAny (model X.prog X.w) A (call (.builtin "isinstance") [u,c]) Q E s:=by
 cases ty with
 | non=>cases (show u=Value.none from rx); exact PySem.W.kia_one PySem.W.kitx_none I.kIn True.intro e (fun z=>nomatch z) h
 | bl y=>cases (show u=Value.bool y from rx); exact PySem.W.kia_one PySem.W.kitx_bool I.kIn True.intro e (fun z=>nomatch z) h
 | int i=>obtain ⟨t,q⟩:=(show ∃ t,u=Value.int i t from rx); cases q; exact PySem.W.kia_one PySem.W.kitx_int I.kIn True.intro e (fun z=>nomatch z) h
 | str y=>obtain ⟨t,q⟩:=(show ∃ t,u=Value.str y t from rx); cases q; exact PySem.W.kia_one PySem.W.kitx_str I.kIn True.intro e (fun z=>nomatch z) h
 | flt y=>obtain ⟨t,q⟩:=(show ∃ t,u=Value.float y t from rx); cases q; exact PySem.W.kia_one PySem.W.kitx_float I.kIn True.intro e (fun z=>nomatch z) h
 | @lst a xs ea =>
  cases (show u=Value.ref a from rx)
  obtain ⟨_,_,n,_,h1⟩:=(show aE X.prog X.w H s.heap a (.lst xs) from I.hok a _ ea)
  exact PySem.W.kia_one PySem.W.kitx_list I.kIn ⟨_,h1,rfl⟩ e (fun z=>nomatch z) h
 | @frz a ob xs ea =>
  cases (show u=Value.ref a from rx)
  obtain ⟨_,_,_,n,_,h1⟩:=(show aE X.prog X.w H s.heap a (.frz ob (.lst xs)) from I.hok a _ ea)
  exact PySem.W.kia_one PySem.W.kitx_list I.kIn ⟨_,h1,rfl⟩ e (fun z=>nomatch z) h
 | @tup a xs ea =>
  cases (show u=Value.ref a from rx)
  obtain ⟨_,_,_,p⟩:=(show aE X.prog X.w H s.heap a (.tup xs) from I.hok a _ ea)
  obtain ⟨o,h1,h2,_⟩:=p
  exact PySem.W.kia_one PySem.W.kitx_tuple I.kIn ⟨o,h1,h2⟩ e (fun z=>nomatch z) h
 | @dK a kvs ea =>
  cases (show u=Value.ref a from rx)
  obtain ⟨_,_,vs,_,p⟩:=(show aE X.prog X.w H s.heap a (.dK kvs) from I.hok a _ ea)
  obtain ⟨o,es,ep,h1,h2,_⟩:=p
  exact PySem.W.kia_one PySem.W.kitx_dict I.kIn ⟨o,h1,h2.1⟩ e (fun z=>nomatch z) h
 | @dT a kvs ea =>
  cases (show u=Value.ref a from rx)
  obtain ⟨_,_,xs,_,o,es,ep,h1,h2,_⟩:=(show aE X.prog X.w H s.heap a (.dT kvs) from I.hok a _ ea)
  exact PySem.W.kia_one PySem.W.kitx_dict I.kIn ⟨o,h1,h2.1⟩ e (fun z=>nomatch z) h
 | @ins a C dx fs ea cl ha hn htk hm =>
  cases (show u=Value.ref a from rx)
  obtain ⟨mA,O,_⟩:=vt I.hok ea
  obtain ⟨od,J,_⟩:=O.look
  exact PySem.W.kia_one (PySem.W.kitx_own (cl.get _) cl.hd ha hn htk hm) I.kIn J e (fun z=>nomatch z) h
end
end L2
namespace L2
open PySem PySem.Spec PyProof.Rows
structure bS (k:Nat) (A:Around):Prop where
 hd:A.handled=none
 dp:A.depth+3 * k+5<recursionLimit
 un:A.units+16 * k+200<cLine
theorem bS.mono {j k:Nat} {A:Around} (r:bS k A) (h:j<=k):bS j A:=⟨r.hd,by have:=r.dp; omega,by have:=r.un; omega⟩
theorem bS.deeper {k:Nat} {A:Around} (r:bS (k+1) A) (env:Env):bS k (A.deeper env) :=
 ⟨r.hd,by have:=r.dp; show A.depth+1+3 * k+5<_; omega,by have:=r.un; show A.units+3+16 * k+200<_; omega⟩
theorem bS.depth {k:Nat} {A:Around} (r:bS k A):A.depth<recursionLimit:=by have:=r.dp; omega
theorem bS.units {k:Nat} {A:Around} (r:bS k A):A.units+64<cLine:=by have:=r.un; omega
noncomputable def Fe:TA:=fun _ H Q=>Q [] H
noncomputable def AH (ta:TE) (tr:TA):TA:=fun σ H Q=>ta σ H fun x H1=>tr σ H1 fun xs H2=>Q (x::xs) H2
section
variable {X:Cx} {e:Expr} {es:List Expr} {te:TE} {t:TA} {pos:Pos}
theorem fH:PA X [] Fe:=fun _ _ _ _ H Q I h=>Calls.spliced_nil ⟨[],H,I,.nil,h⟩
theorem bV (ha:PE X e te) (hr:PA X es t) (hs:starEach (e::es) X.env=(false,eval e X.env)::starEach es X.env:=by rfl):PA X (e::es) (AH te t):=by
 intro pos pins s σ H Q I h
 rw [hs]
 show wpAny _ _ (spliced ((false,eval e X.env)::backTo pos (starEach es X.env))) _ _ s
 refine Calls.spliced_cons (thn (ha pins s σ H _ I h) fun u s1 ⟨x,H1,I1,r1,q1⟩ => ?_)
 exact thn (hr pos pins s1 σ H1 _ I1 q1) fun us s2 ⟨xs,H2,I2,r2,q2⟩=>⟨x::xs,H2,I2,.cons r1 r2,q2⟩
noncomputable def ER (t:TA):TE:=fun σ H Q=>t σ H fun xs H1=>xs.length<=sizeLine/\∀ p,H1 p=none->Q (.ref p) (upd H1 p (.tup xs))
noncomputable def Ew (t:TA):TE:=fun σ H Q=>t σ H fun xs H1=>xs.length<=sizeLine/\∀ p,H1 p=none->Q (.ref p) (upd H1 p (.lst xs))
theorem tK {x1} (h:PA X es t):PE X (.Tuple es x1 pos) (ER t):=by
 intro pins s σ H Q I hq
 refine wpAny_Tuple_spliced (thn (h pos pins s σ H _ I hq) fun us s1 ⟨xs,H1,I1,r,z,q⟩=>⟨by rw [<-r.length]; exact z,?_⟩)
 have hf:H1 s1.heap.objs.size=none:=I1.hok.fresh (Nat.le_refl _)
 refine ⟨.ref s1.heap.objs.size,upd H1 s1.heap.objs.size (.tup xs),I1.laid (t':=s1.toks) (fun b u e=>Heap.get?_push_of_some _ e) (Nat.le_refl _) ?_,rfl,q _ hf⟩
 exact ⟨z,us,r,⟨_,Heap.get?_push_size _ rfl,rfl,_,rfl⟩⟩
theorem zM (h:PA X es t):PE X (.List es pos) (Ew t):=by
 intro pins s σ H Q I hq
 refine wpAny_List_spliced (thn (h pos pins s σ H _ I hq) fun us s1 ⟨xs,H1,I1,r,z,q⟩=>⟨by rw [<-r.length]; exact z,?_⟩)
 have hf:H1 s1.heap.objs.size=none:=I1.hok.fresh (Nat.le_refl _)
 refine ⟨.ref s1.heap.objs.size,upd H1 s1.heap.objs.size (.lst xs),I1.laid (t':=s1.toks) (fun b u e=>Heap.get?_push_of_some _ e) (Nat.le_refl _) ?_,rfl,q _ hf⟩
 exact ⟨z,us,0,r,Heap.get?_push_size _ rfl⟩
end
noncomputable abbrev Sp:=List V->Hp->VK->XK->Prop
noncomputable abbrev CXT:=List Env->Hp->Shared->XK->Value->Shared->Prop
structure q9 (P:Program) (w:World) (K:PySem.W.Frag) (mg:Str->Option Value) (base:Heap) (A:Around) (outer:List Env) (s:Shared) (H:Hp):Prop where
 frames:A.frames=some outer
 mod:Mod K mg base
 bs:∀ b o,base.get? b=some o->s.heap.get? b=some o/\H b=none
 bsz:base.objs.size<=s.heap.objs.size
 iG:s.heap.FunFrames base outer
 frf:∀ b∈frs outer,H b=none
 hok:HOk P w H s.heap
 bare:AllBare s.gens
noncomputable def CE (outer:List Env) (P:Program) (w:World) (H:Hp) (s:Shared) (Q:VK) (u:Value) (s':Shared):Prop :=
 ∃ v H',s'.os=s.os/\AllBare s'.gens/\Un (frs outer) [] H H' s.heap s'.heap/\HOk P w H' s'.heap/\RelV v u/\Q v H'
noncomputable def CR (CX:CXT) (outer:List Env) (P:Program) (w:World) (H:Hp) (s:Shared) (Q:VK) (E:XK) (r:Result) (s':Shared):Prop :=
 match r with
 | .ok (.ret u)=>CE outer P w H s Q u s'
 | .ok _=>False
 | .error e=>CX outer H s E e s'
structure cV (P:Program) (w:World) (K:PySem.W.Frag) (mg:Str->Option Value) (base:Heap) (CX:CXT) (k:Nat) (f:Addr) (fd:FuncData) (ps:List Str) (sp:Sp):Prop where
 len:∀ vs H Q E,sp vs H Q E->vs.length=ps.length
 run:∀ (A:Around) (outer:List Env) (s:Shared) (H:Hp) (args:Args) (us:List Value) (vs:List V) (Q:VK) (E:XK),bS k A->q9 P w K mg base A outer s H->BindsTo s fd args (ps.zip us)->Vals vs us->sp vs H Q E ->
  codeAny (model P w) A (.call (.ref f) args) (CR CX outer P w H s Q E) s
theorem cV.imp {P:Program} {w:World} {K:PySem.W.Frag} {mg:Str->Option Value} {base:Heap} {CX:CXT} {k:Nat} {f:Addr} {fd:FuncData} {ps:List Str} {sp sp':Sp} (F:cV P w K mg base CX k f fd ps sp)
  (h:∀ vs H Q E,sp' vs H Q E->sp vs H Q E):cV P w K mg base CX k f fd ps sp' :=
 ⟨fun vs H Q E q=>F.len vs H Q E (h _ _ _ _ q),fun A outer s H args us vs Q E hr he hb hv hs=>F.run A outer s H args us vs Q E hr he hb hv (h _ _ _ _ hs)⟩
section
variable {X:Cx} {pins:List (Addr × Obj)} {σ:St} {H:Hp} {s s':Shared}
theorem Inv.C2 (I:Inv X pins σ H s):q9 X.prog X.w X.K X.mg X.base X.A X.stack s H :=
 ⟨I.ok.frames,I.ok.mod,I.bs,Nat.le_trans I.ok.bsz I.sz,I.stack,I.j0,I.hok,I.bare⟩
theorem Inv.after {Q:VK} {u:Value} (I:Inv X pins σ H s) (h:CE X.stack X.prog X.w H s Q u s'):EP X pins σ Q u s':=by
 obtain ⟨v,H',os,bare,un,hok,r,q⟩:=h
 obtain ⟨hh,g,d,t,os'⟩:=s'
 obtain rfl:os'=s.os:=os
 exact ⟨v,H',I.call (h':=hh) (g':=g) (d':=d) (t':=t) (ch:=[]) un hok bare (fun b z=>absurd z (by simp)),r,q⟩
end
noncomputable def jt (sp:Sp) (dvs:List V) (E:XK) (t:TA):TE:=fun σ H Q=>t σ H fun vs H1=>sp (vs++dvs) H1 Q E
noncomputable def Binds (K:PySem.W.Frag) (fd:FuncData) (ps:List Str) (ds:List Value):Prop :=
 ∀ (s:Shared) (us:List Value),K.In s.heap->(us++ds).length=ps.length->BindsTo s fd ⟨us,[]⟩ (ps.zip (us++ds))
theorem Binds.all {K:PySem.W.Frag} {fd:FuncData} {ps:List Str} (h:∀ us:List Value,us.length=ps.length->bindArgs fd ⟨us,[]⟩=pure (ps.zip us)):Binds K fd ps []:=fun s us _ hl=>by
 rw [List.append_nil] at hl ⊢
 exact .of_eq (h us hl)
noncomputable def Passes (CX:CXT) (X:Cx) (E:XK):Prop:=∀ (pins:List (Addr × Obj)) (σ:St) (H:Hp) (s:Shared) (e:Value) (s':Shared),Inv X pins σ H s->CX X.stack H s E e s'->X.xe e s'
section
variable {X:Cx} {CX:CXT} {k:Nat} {f C:Addr} {fd:FuncData} {ps:List Str} {sp:Sp} {dvs:List V} {ds:List Value} {E:XK} {x m:Str} {p pos apos:Pos} {e o:Expr} {es:List Expr} {ta:TE} {t:TA}
theorem xA {pins:List (Addr × Obj)} {σ:St} {H:Hp} {s:Shared} {Q:VK} {us:List Value} {vs:List V} (F:cV X.prog X.w X.K X.mg X.base CX k f fd ps sp) (hr:bS k X.A) (hb:Binds X.K fd ps ds) (hd:Vals dvs ds) (hx:Passes CX X E)
  (I:Inv X pins σ H s) (r:Vals vs us) (h:sp (vs++dvs) H Q E):wpAny (model X.prog X.w) X.A (call (.ref f) us) (EP X pins σ Q) X.xe s:=by
 have r2:Vals (vs++dvs) (us++ds):=r.append hd
 have hl:(us++ds).length=ps.length:=by rw [<-r2.length]; exact F.len _ _ _ _ h
 refine wpAny_call (codeAny_mono (F.run X.A X.stack s H ⟨us,[]⟩ (us++ds) (vs++dvs) Q E hr I.C2 (hb s us I.kIn hl) r2 h) fun r s' hq => ?_)
 cases r with
 | error e=>exact hx pins σ H s e s' I hq
 | ok fl =>
  cases fl with
  | ret u=>exact I.after hq
  | next=>exact False.elim hq
  | brk=>exact False.elim hq
  | cont=>exact False.elim hq
theorem ug (F:cV X.prog X.w X.K X.mg X.base CX k f fd ps sp) (hr:bS k X.A) (hg:Gl X x) (hm:X.mg x=some (.ref f)) (hk:PySem.W.keepIn X.K (.ref f)=true) (hb:Binds X.K fd ps ds) (hd:Vals dvs ds) (hx:Passes CX X E)
  (ha:PA X (e::es) t) (hdb:(x == ("__debug__" : Str))=false:=by decide) (he:starEach (e::es) X.env=(false,eval e X.env)::starEach es X.env:=by rfl) (hpl:(backTo pos (starEach es X.env)).any (·.1)=false:=by rfl) :
  PE X (.Call (.Name x p) (e::es) [] pos) (jt sp dvs E t):=by
 intro pins s σ H Q I h
 refine wpAny_Call_Name_kw (fw I hg hm ?_ hdb)
 refine PySem.W.callWith_K (h₀:=X.base) I.ok.mod.kin hk (thn (ha pos pins s σ H _ I h) fun us s1 ⟨vs,H1,I1,r,q⟩=>⟨I1.kIn,?_⟩) he hpl
 exact xA F hr hb hd hx I1 r q
structure Mk (K:PySem.W.Frag) (C f:Addr):Prop where
 makes:PySem.W.makesIn K C=true
 init:PySem.W.findIn K (.ref C) "__init__" = some (some (.ref f))
 fn:PySem.W.isFn K (.ref f)=true
 kp:PySem.W.keepIn K (.ref C)=true
end
section
variable {X:Cx} {CX:CXT} {k:Nat} {f C:Addr} {fd:FuncData} {ps ks:List Str} {sp:Sp} {E:XK} {x m:Str} {p pos apos kpos:Pos} {e o:Expr} {es:List Expr} {kws:List Keyword} {te ta:TE} {t tk:TA} {nm:Option Str}
variable {g:List Value->List Value->List Value} {gV:List V->List V->List V}
end
structure gE (N P:List Str) (sc:Scope):Prop where
 kind:sc.kind=.function
 co:sc.isCoroutine=false
 gen:sc.isGenerator=false
 nd:N.Nodup
 pre:N.take P.length=P
 par:∀ x∈P,sc.names.lookup x=some .local\/sc.names.lookup x=some .cell
 nofree:∀ y∈sc.names,y.2≠.free
theorem iZ {kindOf:Str->Option NameKind} {x:Str}:∀ {binds:List (Str × Value)} {m:Str->Option Value},(∀ v,(x,v) ∉ binds)->bindL kindOf binds m x=m x
 | [],_,_=>rfl
 | (n,v)::r,m,h=>by
  unfold bindL
  rw [iZ fun w hw=>h w (List.mem_cons_of_mem _ hw)]
  split
  ·have:x≠n:=by rintro rfl; exact h v List.mem_cons_self
   simp [this]
  ·rfl
theorem jq {kindOf:Str->Option NameKind} {x:Str}:∀ {binds:List (Str × Value)} {m:Str->Option Value},(∀ v,(x,v) ∉ binds)->bindC kindOf binds m x=m x
 | [],_,_=>rfl
 | (n,v)::r,m,h=>by
  unfold bindC
  rw [jq fun w hw=>h w (List.mem_cons_of_mem _ hw)]
  split
  ·rfl
  ·have:x≠n:=by rintro rfl; exact h v List.mem_cons_self
   simp [this]
theorem iX {kindOf:Str->Option NameKind} {x:Str} {v:Value}:∀ {P:List Str} {vs:List Value} {i:Nat} {m:Str->Option Value},P.Nodup->P[i]?=some x->vs[i]?=some v->kindOf x=some .local ->
  bindL kindOf (P.zip vs) m x=some v
 | [],_,_,_,_,h,_,_=>by simp at h
 | _::_,[],_,_,_,_,h,_=>by simp at h
 | p::P,w::vs,0,m,nd,h1,h2,hk=>by
  simp at h1 h2; subst h1; subst h2
  show bindL kindOf ((p,w)::P.zip vs) m p=_
  unfold bindL
  rw [iZ fun v hv=>(List.nodup_cons.mp nd).1 (List.of_mem_zip hv).1,if_pos hk]
  simp
 | p::P,w::vs,i+1,m,nd,h1,h2,hk=>by
  show bindL kindOf ((p,w)::P.zip vs) m x=_
  unfold bindL
  exact iX (i:=i) (List.nodup_cons.mp nd).2 (by simpa using h1) (by simpa using h2) hk
theorem jk {kindOf:Str->Option NameKind} {x:Str} {v:Value}:∀ {P:List Str} {vs:List Value} {i:Nat} {m:Str->Option Value},P.Nodup->P[i]?=some x->vs[i]?=some v->kindOf x≠some .local ->
  bindC kindOf (P.zip vs) m x=some v
 | [],_,_,_,_,h,_,_=>by simp at h
 | _::_,[],_,_,_,_,h,_=>by simp at h
 | p::P,w::vs,0,m,nd,h1,h2,hk=>by
  simp at h1 h2; subst h1; subst h2
  show bindC kindOf ((p,w)::P.zip vs) m p=_
  unfold bindC
  rw [jq fun v hv=>(List.nodup_cons.mp nd).1 (List.of_mem_zip hv).1,if_neg hk]
  simp
 | p::P,w::vs,i+1,m,nd,h1,h2,hk=>by
  show bindC kindOf ((p,w)::P.zip vs) m x=_
  unfold bindC
  exact jk (i:=i) (List.nodup_cons.mp nd).2 (by simpa using h1) (by simpa using h2) hk
noncomputable def start (N:List Str) (vs:List V):St:=vs.map some++List.replicate (N.length - vs.length) none
noncomputable def eP (CX:CXT) (P:Program) (w:World) (K:PySem.W.Frag) (mg:Str->Option Value) (base:Heap) (N:List Str) (qual:Str) (scope:Scope) (f:Addr) (cd:Value) (A:Around) (outer:List Env) (s:Shared) (H:Hp) (E:XK):Cx where
 prog:=P
 w:=w
 K:=K
 mg:=mg
 base:=base
 A:=A.deeper (envOfC qual scope s.heap.objs.size f cd)
 N:=N
 s₀:=s
 H₀:=H
 env:=envOfC qual scope s.heap.objs.size f cd
 outer:=outer
 stack:=envOfC qual scope s.heap.objs.size f cd::outer
 ex:=[]
 calm:=true
 fn:=fun _=>true
 pn:=[]
 xe:=fun e s'=>wpAny (model P w) (A.deeper (envOfC qual scope s.heap.objs.size f cd)) (leaving (envOfC qual scope s.heap.objs.size f cd) e) (fun _ s''=>CX outer H s E e s'') (fun e' s''=>CX outer H s E e' s'') s'
theorem kQ {sc:Scope} {n:Nat} {x:Str} (h:sc.names.lookup x=some .cell):∃ c,(cellsFrom n sc.names []).lookup x=some c:=by
 have q:=PySem.W.cellsFrom_some sc.names n [] (.inl h)
 exact Option.isSome_iff_exists.mp q
theorem oH {CX:CXT} {P:Program} {w:World} {K:PySem.W.Frag} {mg:Str->Option Value} {base:Heap} {N ps:List Str} {qual:Str} {scope:Scope} {f:Addr} {cd:Value} {A:Around} {outer:List Env} {s s1:Shared} {H:Hp} {E:XK} {us:List Value} {vs:List V}
  (S:gE N ps scope) (hd:A.handled=none) (e0:q9 P w K mg base A outer s H) (hl:vs.length=ps.length) (r:Vals vs us)
  (x:InCallC s s.heap.objs.size (bindL (envOfC qual scope s.heap.objs.size f cd).kindOf (ps.zip us) fun _=>none) (cellsFrom (s.heap.objs.size+1) scope.names []) (bindC (envOfC qual scope s.heap.objs.size f cd).kindOf (ps.zip us) fun _=>none) s1) :
  Inv (eP CX P w K mg base N qual scope f cd A outer s H E) [] (start N vs) H s1:=by
 have hpl:ps.length<=N.length:=by have:=congrArg List.length S.pre; rw [List.length_take] at this; omega
 obtain ⟨h1,tk,rfl,hk⟩:=x.done
 have noA:∀ b:Addr,b ∉ (eP CX P w K mg base N qual scope f cd A outer s H E).ex:=fun b z=>absurd (show b∈([]:List Addr) from z) (by simp)
 refine ⟨⟨e0.mod,S.kind,rfl,rfl,Nat.le_refl _,fun y z c h1 h2 => ?_,fun y hy => ?_,fun y c _ h => ?_,fun _=>hd,Around.frames_deeper e0.frames,.inr ⟨rfl,rfl⟩,fun b z=>absurd z (noA b),e0.bs,e0.bsz,fun b _ _=>noA b,fun b z=>absurd z (noA b),e0.iG,e0.frf⟩,
  rfl,e0.bare,Un.kept hk,⟨_,x.toInCall.ns,fun i y v h1 h2 h3 => ?_⟩,fun y c h=>⟨_,x.cell y c h⟩,e0.hok.fresh (Nat.le_refl _),fun y c h => ?_,fun p hp=>absurd (show p∈([]:List (Addr × Obj)) from hp) (by simp),e0.hok.kept hk,?_⟩
 ·exact name_of_addr x.apart (PySem.mem_of_lookup h1) (PySem.mem_of_lookup h2)
 ·have hy:scope.names.lookup y=some .cell\/scope.names.lookup y=some .free:=hy
  rcases hy with hy | hy
  ·exact kQ hy
  ·exact absurd rfl (S.nofree _ (PySem.mem_of_lookup hy))
 ·exact Nat.le_of_lt (x.above y c (PySem.mem_of_lookup h))
 ·have hi:i<vs.length:=by
   unfold start at h2
   by_cases hi:i<vs.length
   ·exact hi
   ·rw [List.getElem?_append_right (by simpa using hi)] at h2
    rw [List.getElem?_replicate] at h2
    split at h2 <;> cases h2
  have ha:vs[i]?=some v:=by
   unfold start at h2
   rw [List.getElem?_append_left (by simpa using hi),List.getElem?_map] at h2
   cases e:vs[i]? with
   | none=>rw [e] at h2; cases h2
   | some a=>rw [e] at h2; cases h2; rfl
  obtain ⟨u,hu,rv⟩:=r.get ha
  have hp:ps[i]?=some y:=by
   rw [<-S.pre,List.getElem?_take_of_lt (by omega)]; exact h1
  have ndP:ps.Nodup:=by rw [<-S.pre]; exact S.nd.sublist (List.take_sublist _ _)
  refine ⟨u,rv,?_⟩
  rcases S.par y (List.mem_of_getElem? hp) with k | k
  ·exact .inl ⟨k,iX ndP hp hu k⟩
  ·obtain ⟨c,e⟩:=kQ (n:=s.heap.objs.size+1) k
   refine .inr ⟨.inl k,c,e,?_⟩
   have q:=x.cell y c e
   rw [jk ndP hp hu (by show scope.names.lookup y≠_; rw [k]; decide)] at q
   exact q
 ·exact e0.hok.fresh (Nat.le_of_lt (x.above y c (PySem.mem_of_lookup h)))
 ·unfold start
  show _=N.length
  rw [List.length_append,List.length_map,List.length_replicate]
  omega
theorem A4 {CX:CXT} {P:Program} {w:World} {K:PySem.W.Frag} {mg:Str->Option Value} {base:Heap} {k:Nat} {f:Addr} {name qual:Str} {params:Arguments} {body:List Stmt} {scope:Scope} {dV kV doc pm cdv ct oc:Value} {an od:Option Addr}
  {osl:Array (Option Value)} {N ps:List Str} {sp:Sp} (lk:K.lookup f=some ⟨oc,od,.func (PySem.W.fnOf name qual params body scope dV kV doc pm an cdv ct),osl⟩) (hcd:PySem.W.codeIn K cdv qual=true) (S:gE N ps scope)
  (len:∀ vs H Q E,sp vs H Q E->vs.length=ps.length)
  (hbody:∀ (A:Around) (outer:List Env) (s:Shared) (H:Hp) (vs:List V) (Q:VK) (E:XK),bS k (A.deeper (envOfC qual scope s.heap.objs.size f cdv))->sp vs H Q E ->
   ∃ t,PSs (eP CX P w K mg base N qual scope f cdv A outer s H E) body t/\t { nx:=fun _ H'=>Q .non H',rt:=Q } (start N vs) H) :
  cV P w K mg base CX (k+1) f (PySem.W.fnOf name qual params body scope dV kV doc pm an cdv ct) ps sp:=by
 refine ⟨len,fun A outer s H args us vs Q E hr e0 hb r hsp => ?_⟩
 have hl:=len _ _ _ _ hsp
 have KX:K.In s.heap:=e0.mod.kin.keeps fun b o e=>(e0.bs b o e).1
 have lim:s.heap.NoLimit:=e0.mod.nolimit.keeps fun b o e=>(e0.bs b o e).1
 have hkind:∀ y∈ps.zip us,scope.names.lookup y.1=some .local\/(scope.names.lookup y.1=some .cell/\((cellsFrom (s.heap.objs.size+1) scope.names []).lookup y.1).isSome=true):=fun ⟨n,v⟩ hy=>by
  rcases S.par n (List.of_mem_zip hy).1 with q | q
  ·exact .inl q
  ·exact .inr ⟨q,PySem.W.cellsFrom_some _ _ _ (.inl q)⟩
 refine codeAny_call_function hr.depth (KX _ _ lk) rfl S.co S.gen rfl (PySem.W.codeRec_of KX hcd) (hb _ _ _ _ ?_)
 refine wpAny_newFunctionEnv_cells S.kind hkind fun env he s1 x => ?_
 subst he
 refine ⟨lim.keeps x.toInCall.keep,codeAny_func ?_⟩
 obtain ⟨t,ht,hq⟩:=hbody A outer s H vs Q E (hr.deeper _) hsp
 have I:Inv (eP CX P w K mg base N qual scope f cdv A outer s H E) [] (start N vs) H s1:=oH S hr.hd e0 hl r x
 refine wpAny_mono (ht [] s1 (start N vs) H _ I hq) (fun fl s' hs => ?_) fun e s' hs=>hs
 have fin:∀ {σ':St} {H':Hp} {v:V} {u:Value},Inv (eP CX P w K mg base N qual scope f cdv A outer s H E) [] σ' H' s'->RelV v u->Q v H'->CE outer P w H s Q u s' :=
  fun {σ' H' v u} J rv q=>⟨v,H',J.os,J.bare,J.base,J.hok,rv,q⟩
 cases fl with
 | ret u =>
  obtain ⟨v,σ',H',J,rv,q⟩:=hs
  exact fin J rv q
 | next =>
  obtain ⟨σ',H',J,q⟩:=hs
  exact fin (v:=V.non) (u:=Value.none) J rfl q
 | brk =>
  obtain ⟨_,_,_,q⟩:=hs
  exact False.elim q
 | cont =>
  obtain ⟨_,_,_,q⟩:=hs
  exact False.elim q
end L2
namespace L2
open PySem PySem.Spec PyProof.Rows
section
variable {X:Cx} {x:Str} {p pos:Pos} {e:Expr} {es:List Expr} {t:TA} {id T:String} {r:List V->Hp->VK->Prop}
noncomputable def tCB (r:List V->Hp->VK->Prop) (t:TA):TE:=fun σ H Q=>t σ H fun vs H1=>r vs H1 Q
theorem cS (hc:bR X (.builtin id) r) (hg:Gl X x) (hm:X.mg x=none) (hv:bootBuiltins x=some (.builtin id)) (ha:PA X (e::es) t) (hn:x ≠ "__name__" := by decide) (hdb:(x == ("__debug__" : Str))=false:=by decide)
  (he:starEach (e::es) X.env=(false,eval e X.env)::starEach es X.env:=by rfl) (hpl:(backTo pos (starEach es X.env)).any (·.1)=false:=by rfl):PE X (.Call (.Name x p) (e::es) [] pos) (tCB r t):=by
 intro pins s σ H Q I h
 refine wpAny_Call_Name_kw (eO I hg hm hv ?_ hn hdb)
 exact PyProof.Rows.callWith_builtin1 (thn (ha pos pins s σ H _ I h) fun us s1 ⟨vs,H1,I1,r1,q1⟩=>hc pins s1 σ H1 vs us Q I1 r1 q1) he hpl
theorem o9 (hc:bR X (.type T) r) (hg:Gl X x) (hm:X.mg x=none) (hv:bootBuiltins x=some (.type T)) (ha:PA X (e::es) t) (hn:x ≠ "__name__" := by decide) (hdb:(x == ("__debug__" : Str))=false:=by decide)
  (he:starEach (e::es) X.env=(false,eval e X.env)::starEach es X.env:=by rfl) (hpl:(backTo pos (starEach es X.env)).any (·.1)=false:=by rfl):PE X (.Call (.Name x p) (e::es) [] pos) (tCB r t):=by
 intro pins s σ H Q I h
 refine wpAny_Call_Name_kw (eO I hg hm hv ?_ hn hdb)
 exact PyProof.Rows.callWith_type1 (thn (ha pos pins s σ H _ I h) fun us s1 ⟨vs,H1,I1,r1,q1⟩=>hc pins s1 σ H1 vs us Q I1 r1 q1) he hpl
end
end L2
namespace HT
open PySem PyProof.Rows
section
open PySem.SeqAt
open PySem.AutoSeq1 (wpAny_loadPart')
open PySem.MeetsSeq PySem.MeetsSeq2 PySem.MeetsSeq3
end
section
variable {prog:Program} {w:World} {A:Around} {E:Value->Shared->Prop} {s:Shared}
theorem uy {t b:Addr} {vs ws:List Value} {Q:Value->Shared->Prop} (ht:IsTup s.heap t vs.toArray) (hb:IsTup s.heap b ws.toArray) (hv:vs≠[])
  (h1:ws=[]->Q (.ref t) s) (h2:ws≠[]->Q (.ref s.heap.objs.size) { s with heap:=s.heap.push { cls:=.type "tuple",data:=.seq (vs++ws).toArray } })
  (hsz:vs.length+ws.length<=sizeLine):wpAny (model prog w) A (binaryOp .Add (.ref t) (.ref b)) Q E s:=by
 obtain ⟨⟨cls,dd,data,sl⟩,ho,hc,n,hd⟩:=id ht
 obtain ⟨⟨cls2,dd2,data2,sl2⟩,ho2,hc2,n2,hd2⟩:=id hb
 simp only at hc hd hc2 hd2
 subst hc hd hc2 hd2
 have e:vs.toArray++ws.toArray=(vs++ws).toArray:=by simp
 by_cases hw:ws=[]
 ·exact concat_meets ⟨_,ho,rfl⟩ ⟨_,ho2,rfl⟩ noFill_tuple_add seq_tuple_add PySem.F.slot_tuple_add PySem.F.entry_tuple_add (PySem.F.args_tuple_add_2 _ _)
   (tuple_addW1 t b vs.toArray ws.toArray n n2 dd dd2 sl sl2 (by simpa using hv) (by simp [hw])) ⟨ho,ho2,h1 hw⟩
 ·refine concat_meets ⟨_,ho,rfl⟩ ⟨_,ho2,rfl⟩ noFill_tuple_add seq_tuple_add PySem.F.slot_tuple_add PySem.F.entry_tuple_add (PySem.F.args_tuple_add_2 _ _)
   (tuple_addW2 t b vs.toArray ws.toArray n n2 dd dd2 sl sl2 (by simpa using hv) (by simpa using hw) (by rw [List.size_toArray,List.size_toArray]; exact hsz)) ⟨ho,ho2,?_⟩
  rw [e]
  exact h2 hw
noncomputable def sIx (n d:Nat):Option Int->Nat
 | none=>d
 | some v=>if v<0 then (v+(n:Int)).toNat else min v.toNat n
theorem Ah (n d:Nat) (hd:d<=n) (o:Option Int):sIx n d o<=n:=by
 cases o with
 | none=>exact hd
 | some v =>
  show (if v<0 then (v+(n:Int)).toNat else min v.toNat n)<=n
  by_cases hv:v<0
  ·rw [if_pos hv]; omega
  ·rw [if_neg hv]; exact Nat.min_le_right _ _
theorem nM (v:Int) (n d:Nat):(if v<0 then max (v+(n:Int)) 0 else min v (n:Int))=((sIx n d (some v):Nat):Int):=by
 show (if v<0 then max (v+(n:Int)) 0 else min v (n:Int))=(((if v<0 then (v+(n:Int)).toNat else min v.toNat n):Nat):Int)
 by_cases hv:v<0
 ·simp only [if_pos hv]; omega
 ·simp only [if_neg hv]; omega
theorem mI (lo hi:Option Int) (n:Nat):Builtin.Slice.sliceAdjust lo hi 1 (n:Int)=(((sIx n 0 lo:Nat):Int),((sIx n n hi:Nat):Int)):=by
 have h1:¬ ((1:Int)<0):=by omega
 unfold Builtin.Slice.sliceAdjust
 simp only [h1,if_false]
 refine Prod.ext ?_ ?_
 ·cases lo with
  | none=>rfl
  | some v=>exact nM v n 0
 ·cases hi with
  | none=>rfl
  | some v=>exact nM v n n
theorem mK (i j:Nat):Builtin.Slice.slicePlaces (i:Int) (j:Int) 1=j - i:=by
 unfold Builtin.Slice.slicePlaces
 have h1:(1:Int) > 0:=by omega
 simp only [h1,if_true,Int.ediv_one]
 split <;> omega
theorem gR {v:Value} {o:Option Int} {Q:Option Int->Shared->Prop} (p:IsPart v o) (h:Q o s):wpAny (model prog w) A (Builtin.Slice.slicePartIndex v) Q E s:=by
 cases p with
 | none=>exact slicePart_none h
 | int i t=>exact slicePart_int h
theorem fD {sl:Addr} {vl vu:Value} {lo hi:Option Int} {n:Nat} {Q:Int × Int × Nat->Shared->Prop} (hs:s.heap.IsSliceOf sl vl vu .none) (pl:IsPart vl lo) (pu:IsPart vu hi)
  (h:Q (((sIx n 0 lo:Nat):Int),1,sIx n n hi - sIx n 0 lo) s):wpAny (model prog w) A (Builtin.Slice.sliceApplied (.ref sl) (pure (n:Int))) Q E s:=by
 obtain ⟨os,hos,hcs,hds⟩:=id hs
 unfold Builtin.Slice.sliceApplied Builtin.Slice.sliceFields
 refine wpAny_bind (wpAny_bind (wpAny_field hos hds (x:=vl) rfl (wpAny_bind (wpAny_field hos hds (x:=vu) rfl (wpAny_bind (wpAny_field hos hds (x:=.none) rfl (wpAny_pure ?_)))))))
 refine wpAny_bind (slicePart_none ?_)
 show wpAny _ _ (if ((1:Int) == 0)=true then _ else _) _ _ s
 rw [if_neg (by decide)]
 refine wpAny_bind (gR pl (wpAny_bind (gR pu (wpAny_bind (wpAny_pure ?_)))))
 show wpAny _ _ (match Builtin.Slice.sliceAdjust lo hi 1 (n:Int) with | (lo,hi)=>pure (lo,(1:Int),Builtin.Slice.slicePlaces lo hi 1)) _ _ s
 rw [mI lo hi n]
 show wpAny _ _ (pure (((sIx n 0 lo:Nat):Int),(1:Int),Builtin.Slice.slicePlaces ((sIx n 0 lo:Nat):Int) ((sIx n n hi:Nat):Int) 1)) _ _ s
 rw [mK]
 exact wpAny_pure h
theorem rO (xs:Array Value) (i k:Nat):((List.range k).filterMap fun (m:Nat)=>xs[((i:Int)+(m:Int) * 1).toNat]?).toArray=((xs.toList.drop i).take k).toArray:=by
 have e:(fun (m:Nat)=>xs[((i:Int)+(m:Int) * 1).toNat]?)=fun m=>xs[i+m]?:=by
  funext m
  have:((i:Int)+(m:Int) * 1).toNat=i+m:=by omega
  rw [this]
 rw [e]
 have:=pick_run xs i k
 rw [List.filterMap_map] at this
 have e2:((fun x=>xs[x]?) ∘ fun x=>i+x)=fun m=>xs[i+m]?:=rfl
 rw [e2] at this
 rw [this]
theorem eZ {t sl:Addr} {items:Array Value} {vl vu:Value} {lo hi:Option Int} {Q:Value->Shared->Prop} (ht:IsTup s.heap t items) (hs:s.heap.IsSliceOf sl vl vu .none) (pl:IsPart vl lo) (pu:IsPart vu hi)
  (hw:¬ (sIx items.size 0 lo=0/\sIx items.size items.size hi=items.size))
  (h:Q (.ref s.heap.objs.size) { s with heap:=s.heap.push { cls:=.type "tuple",data:=.seq ((items.toList.drop (sIx items.size 0 lo)).take (sIx items.size items.size hi - sIx items.size 0 lo)).toArray } })
  (hsz:items.size<=sizeLine):wpAny (model prog w) A (getItem (.ref t) (.ref sl)) Q E s:=by
 have htake:sizeOk (.seq ((items.toList.drop (sIx items.size 0 lo)).take (sIx items.size items.size hi - sIx items.size 0 lo)).toArray):=by
  show ((items.toList.drop (sIx items.size 0 lo)).take (sIx items.size items.size hi - sIx items.size 0 lo)).toArray.size<=sizeLine
  rw [List.size_toArray,List.length_take,List.length_drop,Array.length_toList]
  omega
 have hj:sIx items.size items.size hi<=items.size:=Ah _ _ (Nat.le_refl _) hi
 obtain ⟨os,hos,hcs,hds⟩:=id hs
 have hTs:s.TypeIs (.ref sl) "slice" := ⟨os,hos,hcs⟩
 unfold getItem
 try with_reducible refine wpAny_holding ?_
 first | refine wpAny_bind (wpAny_pure ?_) | skip
 refine wpAny_bind (wpAny_sequenceKey ht.typeIs (by decide) ?_)
 refine wpAny_bind (wpAny_callSpecial?_slot (name:=Str.ofString "__getitem__") ht.typeIs PyProof.Rows.slot_tuple_getitem
  (wpAny_call_entry PyProof.Rows.slot_tuple_getitem ht.typeIs entry_tuple_getitem ?_ (args_tuple_getitem _ _)))
 show wpAny _ _ (Builtin.Tuple.tupleItemsOf (.ref t) >>= _) _ _ s
 refine wpAny_bind (tupleItemsOf_ ht ?_)
 refine wpAny_bind (wpAny_typeOf hTs ?_)
 rw [if_pos (by decide)]
 refine wpAny_bind (fD hs pl pu ?_)
 have hno:¬ ((((sIx items.size 0 lo:Nat):Int) == 0&&(1:Int) == 1&&(sIx items.size items.size hi - sIx items.size 0 lo) == items.size)=true):=by
  intro q
  rw [Bool.and_eq_true,Bool.and_eq_true] at q
  have q1:((sIx items.size 0 lo:Nat):Int)=0:=eq_of_beq q.1.1
  have q2:sIx items.size items.size hi - sIx items.size 0 lo=items.size:=eq_of_beq q.2
  exact hw ⟨by omega,by omega⟩
 show wpAny _ _ (if (((sIx items.size 0 lo:Nat):Int) == 0&&(1:Int) == 1&&(sIx items.size items.size hi - sIx items.size 0 lo) == items.size)=true then _ else _) _ _ s
 rw [if_neg hno,rO]
 first
  | exact wpAny_bind (m:=Builtin.Tuple.tupleExact _) (wpAny_newObj_type (wpAny_pure ⟨_,rfl,wpAny_pure h⟩) htake)
  | exact wpAny_bind (m:=Builtin.Tuple.tupleExact _) (wpAny_newObj_type (wpAny_bind (wpAny_pure (wpAny_pure ⟨_,rfl,wpAny_pure h⟩))) htake)
  | exact wpAny_bind (wpAny_bind (m:=Builtin.Tuple.tupleExact _) (wpAny_newObj_type (wpAny_pure (wpAny_pure ⟨_,rfl,wpAny_pure h⟩)) htake))
  | exact wpAny_bind (wpAny_bind (m:=Builtin.Tuple.tupleExact _) (wpAny_newObj_type (wpAny_pure ⟨_,rfl,wpAny_pure h⟩) htake))
end
end HT
namespace L2
open PySem PySem.Spec PyProof.Rows
noncomputable abbrev TO:=St->Hp->(Option Int->Hp->Prop)->Prop
noncomputable def PO (X:Cx) (e:Option Expr) (t:TO):Prop :=
 ∀ (pins:List (Addr × Obj)) (s:Shared) (σ:St) (H:Hp) (Q:Option Int->Hp->Prop),Inv X pins σ H s->t σ H Q ->
  wpAny (model X.prog X.w) X.A (evalPart e X.env) (fun u s'=>∃ o H',Inv X pins σ H' s'/\IsPart u o/\Q o H') X.xe s
noncomputable def uz:TO:=fun _ H Q=>Q none H
noncomputable def Bd (t:TE):TO:=fun σ H Q=>t σ H fun x H1=>∃ i,x=.int i/\Q (some i) H1
section
variable {X:Cx} {e:Expr} {te:TE} {lo hi:Option Expr} {tl th:TO} {pos p2:Pos}
theorem cI:PO X none uz:=by
 intro pins s σ H Q I h
 rw [evalPart_none]
 exact wpAny_pure ⟨none,H,I,.none,h⟩
theorem cL (h:PE X e te):PO X (some e) (Bd te):=by
 intro pins s σ H Q I hw
 rw [evalPart_some]
 refine thn (h pins s σ H _ I hw) fun u s1 ⟨x,H1,I1,r1,q1⟩ => ?_
 obtain ⟨i,rfl,q⟩:=q1
 obtain ⟨t,rfl⟩:=r1
 exact ⟨some i,H1,I1,.int i t,q⟩
noncomputable def SlR (X:Cx) (r:V->Option Int->Option Int->Hp->VK->Prop):Prop :=
 ∀ (pins:List (Addr × Obj)) (s:Shared) (σ:St) (H:Hp) (x:V) (v vl vu:Value) (lo hi:Option Int) (sl:Addr) (Q:VK),Inv X pins σ H s->RelV x v->s.heap.IsSliceOf sl vl vu .none->IsPart vl lo->IsPart vu hi->r x lo hi H Q ->
  ∃ T id,typeLookup (.type T) "__getitem__" = pure (some (.builtin id))/\s.TypeIs v T/\wpAny (model X.prog X.w) X.A (getItem v (.ref sl)) (EP X pins σ Q) X.xe s
theorem SlR.or {r r':V->Option Int->Option Int->Hp->VK->Prop} (h:SlR X r) (h':SlR X r'):SlR X (fun x lo hi H Q=>r x lo hi H Q\/r' x lo hi H Q):=by
 intro pins s σ H x v vl vu lo hi sl Q I rx hs pl pu q
 rcases q with q | q
 ·exact h pins s σ H x v vl vu lo hi sl Q I rx hs pl pu q
 ·exact h' pins s σ H x v vl vu lo hi sl Q I rx hs pl pu q
noncomputable def tSl (r:V->Option Int->Option Int->Hp->VK->Prop) (te:TE) (tl th:TO):TE:=fun σ H Q=>te σ H fun x H1=>tl σ H1 fun l H2=>th σ H2 fun u H3=>r x l u H3 Q
theorem bJ {r:V->Option Int->Option Int->Hp->VK->Prop} (hr:SlR X r) (he:PE X e te) (hl:PO X lo tl) (hu:PO X hi th):PE X (.Subscript e (.Slice lo hi none p2) pos) (tSl r te tl th):=by
 intro pins s σ H Q I h
 refine Subscript_ (thn (he pins s σ H _ I h) fun v s1 ⟨x,H1,I1,r1,q1⟩ => ?_)
 refine wpAny_Slice (thn (hl pins s1 σ H1 _ I1 q1) fun vl s2 ⟨l,H2,I2,pl,q2⟩=>thn (hu pins s2 σ H2 _ I2 q2) fun vu s3 ⟨u,H3,I3,pu,q3⟩ => ?_)
 rw [evalPart_none]
 refine wpAny_pure ?_
 have I4:Inv X pins σ H3 { s3 with heap:=s3.heap.push { cls:=.type "slice",data:=.fields #[vl,vu,.none] } }:=I3.kept (t':=s3.toks) fun b ob q=>Heap.get?_push_of_some _ q
 obtain ⟨T,id,hT,ht,hg⟩:=hr pins { s3 with heap:=s3.heap.push { cls:=.type "slice",data:=.fields #[vl,vu,.none] } } σ H3 x v vl vu l u s3.heap.objs.size Q I4 r1 (Heap.IsSliceOf.new ..) pl pu q3
 show wpAny (model X.prog X.w) X.A (subscriptTail e (.Slice lo hi none p2) v (.ref s3.heap.objs.size)) (EP X pins σ Q) X.xe { s3 with heap:=s3.heap.push { cls:=.type "slice",data:=.fields #[vl,vu,.none] } }
 exact tail_any (ops:=[.ref s3.heap.objs.size,v]) ht hT hg (by with_unfolding_all rfl)
noncomputable def iP (xs:List V) (lo hi:Option Int):List V:=(xs.drop (HT.sIx xs.length 0 lo)).take (HT.sIx xs.length xs.length hi - HT.sIx xs.length 0 lo)
theorem bF (xs:List V) (lo hi:Option Int):(iP xs lo hi).length<=xs.length:=by
 unfold iP
 rw [List.length_take,List.length_drop]
 omega
noncomputable def C3 (K:PySem.W.Frag):V->Option Int->Option Int->Hp->VK->Prop:=fun x lo hi H Q=>∃ a xs,x=.ref a/\SqT K H a xs /\
 ¬ (HT.sIx xs.length 0 lo=0/\HT.sIx xs.length xs.length hi=xs.length)/\∀ p,H p=none->Q (.ref p) (upd H p (.tup (iP xs lo hi)))
theorem yn:SlR X (C3 X.K):=by
 intro pins s σ H x v vl vu lo hi sl Q I rx hs pl pu h
 obtain ⟨a,xs,rfl,hx,hw,q⟩:=h
 cases rx
 obtain ⟨its,r,ht,hz⟩:=I.tuple hx
 have hlen:its.toArray.size=xs.length:=by rw [List.size_toArray]; exact r.length.symm
 refine ⟨"tuple",_,PyProof.Rows.slot_tuple_getitem.lookup,ht.typeIs,?_⟩
 refine HT.eZ ht hs pl pu (by rw [hlen]; exact hw) ?_ (by rw [hlen]; exact hz)
 rw [hlen]
 refine ⟨.ref s.heap.objs.size,_,I.laid (t':=s.toks) (o:=.tup (iP xs lo hi)) (fun b ob q=>Heap.get?_push_of_some _ q) (Nat.le_refl _) ?_,rfl,q _ (I.hok.fresh (Nat.le_refl _))⟩
 exact ⟨Nat.le_trans (bF xs lo hi) hz,_,(r.drop (HT.sIx xs.length 0 lo)).take (HT.sIx xs.length xs.length hi - HT.sIx xs.length 0 lo),IsTup.new _ _⟩
noncomputable def wN (K:PySem.W.Frag):R2:=fun x y H Q=>∃ a b xs ys,x=.ref a/\y=.ref b/\SqT K H a xs/\SqT K H b ys/\xs≠[]/\xs.length+ys.length<=sizeLine /\
 (ys=[]->Q (.ref a) H)/\(ys≠[]->∀ p,H p=none->Q (.ref p) (upd H p (.tup (xs++ys))))
theorem Vals.jW {xs:List V} {us:List Value} (r:Vals xs us):us=[]↔xs=[]:=by
 cases r with
 | nil=>simp
 | cons _ _=>simp
theorem vM:OpR X (binaryOp .Add) (wN X.K):=by
 intro pins s σ H x y v u Q I rx ry h
 obtain ⟨a,b,xs,ys,rfl,rfl,ha,hb,hx,hz,q1,q2⟩:=h
 cases rx
 cases ry
 obtain ⟨its,r1,p1,_⟩:=I.tuple ha
 obtain ⟨its2,r2,p2,_⟩:=I.tuple hb
 refine HT.uy p1 p2 (fun z=>hx (r1.jW.mp z)) (fun z=>⟨.ref a,H,I,rfl,q1 (r2.jW.mp z)⟩) (fun z => ?_) (by rw [<-r1.length,<-r2.length]; exact hz)
 refine ⟨.ref s.heap.objs.size,_,I.laid (t':=s.toks) (o:=.tup (xs++ys)) (fun b ob q=>Heap.get?_push_of_some _ q) (Nat.le_refl _) ?_,rfl,q2 (fun w=>z (r2.jW.mpr w)) _ (I.hok.fresh (Nat.le_refl _))⟩
 exact ⟨by rw [List.length_append]; exact hz,_,r1.append r2,IsTup.new _ _⟩
end
end L2
namespace L2
open PySem PySem.Spec PyProof.Rows
noncomputable def ixN (n:Nat) (i:Int):Option Nat:=if 0<=i then (if i<n then some i.toNat else none) else if -(n:Int)<=i then some (i+n).toNat else none
noncomputable def atI {α:Type} (xs:List α) (i:Int):Option α:=(ixN xs.length i).bind fun j=>xs[j]?
theorem nG {n:Nat} {i:Int} {j:Nat} (h:ixN n i=some j):seqIndex? i n=some j/\j<n/\-(n:Int)<=i/\i<n:=by
 unfold ixN at h
 by_cases h0:0<=i
 ·rw [if_pos h0] at h
  by_cases h1:i<n
  ·rw [if_pos h1] at h
   have e:i.toNat=j:=Option.some.inj h
   exact ⟨by rw [seqIndex_of h0 h1,e],by omega,by omega,h1⟩
  ·rw [if_neg h1] at h; cases h
 ·rw [if_neg h0] at h
  by_cases h1:-(n:Int)<=i
  ·rw [if_pos h1] at h
   have e:(i+n).toNat=j:=Option.some.inj h
   exact ⟨by rw [seqIndex_neg (by omega) h1,e],by omega,h1,by omega⟩
  ·rw [if_neg h1] at h; cases h
theorem jZ {α:Type} {xs:List α} {i:Int} {v:α} (h:atI xs i=some v):∃ j,seqIndex? i xs.length=some j/\xs[j]?=some v/\j<xs.length/\-(xs.length:Int)<=i/\i<xs.length:=by
 unfold atI at h
 cases e:ixN xs.length i with
 | none=>rw [e] at h; cases h
 | some j =>
  rw [e] at h
  obtain ⟨h1,h2,h3,h4⟩:=nG e
  exact ⟨j,h1,h,h2,h3,h4⟩
noncomputable def jR (b:Expr):Prop:=∀ o i,subscripted b false o i=operate [o,i] (getItem o i)
noncomputable def IxR (X:Cx) (r:R2):Prop :=
 ∀ (value slice:Expr) (pins:List (Addr × Obj)) (s:Shared) (σ:St) (H:Hp) (x y:V) (v u:Value) (Q:VK),Inv X pins σ H s->RelV x v->RelV y u->r x y H Q ->
  subscripted slice false v u=operate [v,u] (getItem v u)->wpAny (model X.prog X.w) X.A (subscriptTail value slice v u) (EP X pins σ Q) X.xe s
noncomputable def MtR (X:Cx) (id:String) (r:V->List V->Hp->VK->Prop):Prop :=
 ∀ (pins:List (Addr × Obj)) (s:Shared) (σ:St) (H:Hp) (x:V) (xs:List V) (v:Value) (us:List Value) (Q:VK),Inv X pins σ H s->RelV x v->Vals xs us->r x xs H Q ->
  wpAny (model X.prog X.w) X.A (call (.builtin id) (v::us)) (EP X pins σ Q) X.xe s
section
variable {X:Cx} {a b:Expr} {ta tb:TE} {pos:Pos}
theorem IxR.or {r r':R2} (h:IxR X r) (h':IxR X r'):IxR X (fun x y H Q=>r x y H Q\/r' x y H Q):=by
 intro value slice pins s σ H x y v u Q I rx ry q hs
 rcases q with q | q
 ·exact h value slice pins s σ H x y v u Q I rx ry q hs
 ·exact h' value slice pins s σ H x y v u Q I rx ry q hs
theorem BZ {r:R2} (hr:IxR X r) (ha:PE X a ta) (hb:PE X b tb) (hs:jR b):PE X (.Subscript a b pos) (tOp r ta tb):=by
 intro pins s σ H Q I h
 exact Subscript_ (yH ha hb I h fun v u s2 x y H2 I2 rx ry q=>hr a b pins s2 σ H2 x y v u Q I2 rx ry q (hs _ _))
noncomputable def Df (K:PySem.W.Frag):R2:=fun x y H Q=>∃ p xs i v,x=.ref p/\y=.int i/\SqL K H p xs/\atI xs i=some v/\Q v H
noncomputable def BG (K:PySem.W.Frag):R2:=fun x y H Q=>∃ p xs i v,x=.ref p/\y=.int i/\SqT K H p xs/\atI xs i=some v/\Q v H
noncomputable def Dz:R2:=fun x y H Q=>∃ z i c,x=.str z/\y=.int i/\z.length<=sizeLine/\atI z.cps.toList i=some c/\Q (.str ⟨#[c]⟩) H
theorem uG:IxR X (Df X.K):=by
 intro value slice pins s σ H x y v u Q I rx ry h hs
 obtain ⟨p,xs,i,z,rfl,rfl,hq,he,q⟩:=h
 cases rx
 obtain ⟨t,rfl⟩:=ry
 obtain ⟨its,r,pl,hz⟩:=I.list hq
 obtain ⟨j,h1,h2,h3,h4,h5⟩:=jZ he
 obtain ⟨w,ew,rw'⟩:=r.get h2
 have hl:=r.length
 have hn:=eK
 have fin:EP X pins σ Q w s:=⟨z,H,I,rw',q⟩
 by_cases h0:0<=i
 ·have hj:i.toNat=j:=by
   rw [seqIndex_of h0 h5] at h1
   exact Option.some.inj h1
  exact item_listR pl.isList h0 (by omega) (by rw [hj]; simpa using ew) fin hs
 ·have hj:(i+(its.toArray.size:Int)).toNat=j:=by
   rw [seqIndex_neg (by omega) h4] at h1
   rw [List.size_toArray,<-hl]
   exact Option.some.inj h1
  exact subscriptTail_builtinR (x:=w) pl.isList.typeIs slot_list_getitem.lookup
   (wpAny_getItem_list_neg (Q:=fun r s'=>r=w/\EP X pins σ Q r s') pl.isList (by omega) (by rw [List.size_toArray] <;> omega) (by omega) (by rw [hj]; simpa using ew) ⟨rfl,fin⟩) hs
theorem zy:IxR X (BG X.K):=by
 intro value slice pins s σ H x y v u Q I rx ry h hs
 obtain ⟨p,xs,i,z,rfl,rfl,hq,he,q⟩:=h
 cases rx
 obtain ⟨t,rfl⟩:=ry
 obtain ⟨its,r,pl,hz⟩:=I.tuple hq
 obtain ⟨j,h1,h2,h3,h4,h5⟩:=jZ he
 obtain ⟨w,ew,rw'⟩:=r.get h2
 have hl:=r.length
 have hn:=eK
 have fin:EP X pins σ Q w s:=⟨z,H,I,rw',q⟩
 exact subscriptTail_builtinR (x:=w) pl.typeIs slot_tuple_getitem.lookup
  (getItem_tuple (j:=j) (Q:=fun r s'=>r=w/\EP X pins σ Q r s') pl (by omega) (by omega) (by rw [List.size_toArray,<-hl]; exact h1) (by simpa using ew) ⟨rfl,fin⟩) hs
theorem yQ:IxR X Dz:=by
 intro value slice pins s σ H x y v u Q I rx ry h hs
 obtain ⟨z,i,c,rfl,rfl,hz,he,q⟩:=h
 obtain ⟨t,rfl⟩:=rx
 obtain ⟨t',rfl⟩:=ry
 obtain ⟨j,h1,h2,h3,h4,h5⟩:=jZ he
 have hl:z.cps.toList.length=z.length:=by simp [Str.length]
 rw [hl] at h1 h4 h5
 have hn:=eK
 exact tail_any (typeIs_str s z t) slot_str_getitem.lookup (getItem_str (c:=c) (by
  have e1:decide (i < -(2 ^ 63:Int))=false:=decide_eq_false (by omega)
  have e2:decide (i >= 2 ^ 63)=false:=decide_eq_false (by omega)
  rw [e1,e2,Bool.or_false]) (by rw [h1]; simpa using h2) ⟨.str ⟨#[c]⟩,H,I.tok _,⟨_,rfl⟩,q⟩) hs
noncomputable def rIx (K:PySem.W.Frag):R2:=fun x y H Q=>Df K x y H Q\/BG K x y H Q\/Dz x y H Q
theorem zT:IxR X (rIx X.K):=uG.or (zy.or yQ)
theorem m6 (its:List Value) (n j:Nat) (u:Value):Obj.mapSeq (·.setIfInBounds j u) { cls:=.type "list",data:=.seq its.toArray n }={ cls:=.type "list",data:=.seq (its.set j u).toArray n }:=by
 simp [Obj.mapSeq]
theorem Inv.lst {pins:List (Addr × Obj)} {σ:St} {H:Hp} {s:Shared} {p:Addr} {xs:List V} (I:Inv X pins σ H s) (h:H p=some (.lst xs)) :
  ∃ (its:List Value) (n:Nat),Vals xs its/\s.heap.get? p=some { cls:=.type "list",data:=.seq its.toArray n }/\xs.length<=sizeLine:=by
 obtain ⟨z,its,n,r,e⟩:=I.hok p _ h
 exact ⟨its,n,r,e,z⟩
theorem Inv.xk {pins:List (Addr × Obj)} {σ:St} {H:Hp} {s:Shared} {p:Addr} {xs ys:List V} {its its':List Value} {n n':Nat} {f:Obj->Obj} (I:Inv X pins σ H s) (h:H p=some (.lst xs))
  (ho:s.heap.get? p=some { cls:=.type "list",data:=.seq its.toArray n }) (hf:f { cls:=.type "list",data:=.seq its.toArray n }={ cls:=.type "list",data:=.seq its'.toArray n' }) (r:Vals ys its') (hz:ys.length<=sizeLine) (t:Nat) :
  Inv X pins σ (upd H p (.lst ys)) { s with heap:=s.heap.update p f,toks:=t }:=by
 have e:(s.heap.update p f).get? p=some { cls:=.type "list",data:=.seq its'.toArray n' }:=by
  rw [Heap.get?_update_self f ho (by rw [hf] <;> rfl),hf]
 refine I.write (x:=p) (e:=p) (by rw [h]; trivial) (.inl rfl) (fun b u hb q=>(Heap.get?_update_other _ _ (Ne.symm hb)).trans q) ⟨_,e⟩ ?_
 exact ⟨hz,its',n',r,e⟩
noncomputable def wJ:V->V->V->Hp->(Hp->Prop)->Prop:=fun o i v H Q=>∃ p xs k j,o=.ref p/\i=.int k/\H p=some (.lst xs)/\ixN xs.length k=some j/\Q (upd H p (.lst (xs.set j v)))
theorem set_list:yt X wJ:=by
 intro pins s σ H o i v ov iv u Q I ro ri rv h
 obtain ⟨p,xs,k,j,rfl,rfl,hp,hj,q⟩:=h
 cases ro
 obtain ⟨t,rfl⟩:=ri
 obtain ⟨its,n,r,ho,hz⟩:=I.lst hp
 obtain ⟨h1,h2,h3,h4⟩:=nG hj
 have hl:=r.length
 have hn:=eK
 have I':Inv X pins σ (upd H p (.lst (xs.set j v))) { s with heap:=s.heap.update p (Obj.mapSeq (·.setIfInBounds j u)) } :=
  I.xk hp ho (m6 its n j u) (r.set rv j) (by rw [List.length_set]; exact hz) s.toks
 by_cases h0:0<=k
 ·have hk:k.toNat=j:=by
   rw [seqIndex_of h0 h4] at h1
   exact Option.some.inj h1
  exact PySem.W.ki_setAt ho h0 (by omega) (by rw [List.size_toArray,<-hl]; exact h4) (by rw [hk]; exact ⟨_,I',q⟩)
 ·have hk:(k+(its.toArray.size:Int)).toNat=j:=by
   rw [seqIndex_neg (by omega) h3] at h1
   rw [List.size_toArray,<-hl]
   exact Option.some.inj h1
  exact PySem.W.ki_setBack ho (by omega) (by rw [List.size_toArray,<-hl]; exact h3) (by omega) (by rw [hk]; exact ⟨_,I',q⟩)
theorem jG (lo hi:Option Int) (n:Nat):(sliceBounds lo hi none n).1=((HT.sIx n 0 lo:Nat):Int)/\(sliceBounds lo hi none n).2.1=((HT.sIx n n hi:Nat):Int)/\(sliceBounds lo hi none n).2.2=1:=by
 refine ⟨?_,?_,rfl⟩
 ·cases lo with
  | none=>simp [sliceBounds,HT.sIx]
  | some i =>
   simp only [sliceBounds,HT.sIx,Option.getD_none,show (1:Int) > 0 by decide,if_true]
   by_cases h:i<0
   ·simp only [h,if_true] <;> omega
   ·simp only [h,if_false] <;> omega
 ·cases hi with
  | none=>simp [sliceBounds,HT.sIx]
  | some i =>
   simp only [sliceBounds,HT.sIx,Option.getD_none,show (1:Int) > 0 by decide,if_true]
   by_cases h:i<0
   ·simp only [h,if_true] <;> omega
   ·simp only [h,if_false] <;> omega
theorem iN (its:List Value) (lo hi:Option Int):slicePick its.toArray lo hi none=((its.drop (HT.sIx its.length 0 lo)).take (HT.sIx its.length its.length hi - HT.sIx its.length 0 lo)).toArray:=by
 obtain ⟨h1,h2,h3⟩:=jG lo hi its.toArray.size
 unfold slicePick
 rw [h1,h2,h3]
 simp only [sliceRange_one,pick_run,List.size_toArray] <;> rfl
noncomputable def B8 (K:PySem.W.Frag):V->Option Int->Option Int->Hp->VK->Prop:=fun x lo hi H Q=>∃ a xs,x=.ref a/\SqL K H a xs/\∀ p,H p=none->Q (.ref p) (upd H p (.lst (iP xs lo hi)))
theorem uw:SlR X (B8 X.K):=by
 intro pins s σ H x v vl vu lo hi sl Q I rx hs pl pu h
 obtain ⟨a,xs,rfl,hx,q⟩:=h
 cases rx
 obtain ⟨its,r,ht,hz⟩:=I.list hx
 have hlen:=r.length
 refine ⟨"list",_,slot_list_getitem.lookup,ht.isList.typeIs,?_⟩
 refine wpAny_getItem_list_slice ht.isList hs pl pu .none (by simp) ?_ (by rw [List.size_toArray] <;> omega)
 rw [iN,<-hlen]
 refine ⟨.ref s.heap.objs.size,_,I.laid (t':=s.toks) (o:=.lst (iP xs lo hi)) (fun b ob q=>Heap.get?_push_of_some _ q) (Nat.le_refl _) ?_,rfl,q _ (I.hok.fresh (Nat.le_refl _))⟩
 exact ⟨Nat.le_trans (bF xs lo hi) hz,_,0,(r.drop (HT.sIx xs.length 0 lo)).take (HT.sIx xs.length xs.length hi - HT.sIx xs.length 0 lo),Heap.get?_push_size _ rfl⟩
noncomputable def dP:V->Bool
 | .non=>true
 | .bl _=>true
 | .int _=>true
 | .str _=>true
 | _=>false
noncomputable def eqV:V->V->Bool
 | .non,.non=>true
 | .bl a,.bl b=>a == b
 | .bl a,.int b=>(if a then 1 else 0) == b
 | .int a,.bl b=>a == (if b then 1 else 0)
 | .int a,.int b=>a == b
 | .str a,.str b=>a == b
 | _,_=>false
theorem y7 {A:Around} {s:Shared} {y x:V} {u v:Value} (ry:RelV y u) (rx:RelV x v) (fy:dP y=true) (fx:dP x=true):SeqAt.EqAt A s u v (eqV y x):=by
 cases y with
 | non =>
  cases ry
  cases x with
  | non=>cases rx; exact SeqAt.EqAt.same _
  | bl b=>cases rx; exact SeqAt.EqAt.none_bool b
  | int b=>obtain ⟨t,rfl⟩:=rx; exact SeqAt.EqAt.none_int b t
  | str b=>obtain ⟨t,rfl⟩:=rx; exact SeqAt.EqAt.none_str b t
  | _=>exact absurd (show false=true from fx) Bool.false_ne_true
 | bl a =>
  cases ry
  cases x with
  | non=>cases rx; exact SeqAt.EqAt.bool_none a
  | bl b=>cases rx; exact SeqAt.EqAt.bool_bool a b
  | int b=>obtain ⟨t,rfl⟩:=rx; exact SeqAt.EqAt.bool_int a b t
  | str b=>obtain ⟨t,rfl⟩:=rx; exact SeqAt.EqAt.bool_str a b t
  | _=>exact absurd (show false=true from fx) Bool.false_ne_true
 | int a =>
  obtain ⟨t',rfl⟩:=ry
  cases x with
  | non=>cases rx; exact SeqAt.EqAt.int_none a t'
  | bl b=>cases rx; exact SeqAt.EqAt.int_bool a t' b
  | int b=>obtain ⟨t,rfl⟩:=rx; exact SeqAt.EqAt.int_int a t' b t
  | str b=>obtain ⟨t,rfl⟩:=rx; exact SeqAt.EqAt.int_str a t' b t
  | _=>exact absurd (show false=true from fx) Bool.false_ne_true
 | str a =>
  obtain ⟨t',rfl⟩:=ry
  cases x with
  | non=>cases rx; exact SeqAt.EqAt.str_none a t'
  | bl b=>cases rx; exact SeqAt.EqAt.str_bool a t' b
  | int b=>obtain ⟨t,rfl⟩:=rx; exact SeqAt.EqAt.str_int a t' b t
  | str b=>obtain ⟨t,rfl⟩:=rx; exact SeqAt.EqAt.str_str a t' b t
  | _=>exact absurd (show false=true from fx) Bool.false_ne_true
 | _=>exact absurd (show false=true from fy) Bool.false_ne_true
noncomputable def eqU (x:V) (u:Value):Bool:=match u with
 | .none=>eqV .non x
 | .bool b=>eqV (.bl b) x
 | .int i _=>eqV (.int i) x
 | .str z _=>eqV (.str z) x
 | _=>false
theorem md {x y:V} {u:Value} (r:RelV y u) (f:dP y=true):eqU x u=eqV y x:=by
 cases y with
 | non=>cases r; rfl
 | bl b=>cases r; rfl
 | int i=>obtain ⟨t,rfl⟩:=r; rfl
 | str z=>obtain ⟨t,rfl⟩:=r; rfl
 | _=>exact absurd (show false=true from f) Bool.false_ne_true
theorem fg {x:V}:∀ {xs:List V} {us:List Value},Vals xs us->xs.all dP=true->us.any (eqU x)=xs.any fun y=>eqV y x
 | _,_,.nil,_=>rfl
 | y::xs,u::us,.cons r t,f=>by
  rw [List.all_cons,Bool.and_eq_true] at f
  rw [List.any_cons,List.any_cons,md r f.1,fg t f.2]
theorem da {A:Around} {s:Shared} {x:V} {v:Value} (rx:RelV x v) (fx:dP x=true):∀ {xs:List V} {us:List Value},Vals xs us->xs.all dP=true->∀ u∈us,SeqAt.EqAt A s u v (eqU x u)
 | _,_,.nil,_=>fun u hu=>by cases hu
 | y::xs,u::us,.cons r t,f=>fun u' hu=>by
  rw [List.all_cons,Bool.and_eq_true] at f
  rcases List.mem_cons.mp hu with rfl | hu
  ·rw [md r f.1]; exact y7 r rx f.1 fx
  ·exact da rx fx t f.2 u' hu
noncomputable def inV (x:V) (xs:List V):Bool:=xs.any fun y=>eqV y x
noncomputable def rIn (K:PySem.W.Frag) (neg:Bool):R2:=fun x y H Q=>∃ p xs,y=.ref p/\(SqL K H p xs\/SqT K H p xs)/\dP x=true/\xs.all dP=true/\Q (.bl (if neg then !inV x xs else inV x xs)) H
theorem pO:OpR X (compareOp .In) (rIn X.K false):=by
 intro pins s σ H x y v u Q I rx ry h
 obtain ⟨p,xs,rfl,hq,fx,fs,q⟩:=h
 cases ry
 rcases hq with hq | hq
 ·obtain ⟨its,r,pl,hz⟩:=I.list hq
  refine SeqAt.in_listAt (eqU x) pl.isList (fun w hw=>da rx fx r fs w (by simpa using hw)) ⟨.bl _,H,I,rfl,?_⟩
  rw [show its.toArray.any (eqU x)=its.any (eqU x) by simp,fg r fs]
  exact q
 ·obtain ⟨its,r,pl,hz⟩:=I.tuple hq
  refine SeqAt.in_tupleAt (eqU x) pl (fun w hw=>da rx fx r fs w (by simpa using hw)) ⟨.bl _,H,I,rfl,?_⟩
  rw [show its.toArray.any (eqU x)=its.any (eqU x) by simp,fg r fs]
  exact q
theorem jS:OpR X (compareOp .NotIn) (rIn X.K true):=by
 intro pins s σ H x y v u Q I rx ry h
 obtain ⟨p,xs,rfl,hq,fx,fs,q⟩:=h
 cases ry
 rcases hq with hq | hq
 ·obtain ⟨its,r,pl,hz⟩:=I.list hq
  refine SeqAt.notIn_listAt (eqU x) pl.isList (fun w hw=>da rx fx r fs w (by simpa using hw)) ⟨.bl _,H,I,rfl,?_⟩
  rw [show its.toArray.any (eqU x)=its.any (eqU x) by simp,fg r fs]
  exact q
 ·obtain ⟨its,r,pl,hz⟩:=I.tuple hq
  refine SeqAt.notIn_tupleAt (eqU x) pl (fun w hw=>da rx fx r fs w (by simpa using hw)) ⟨.bl _,H,I,rfl,?_⟩
  rw [show its.toArray.any (eqU x)=its.any (eqU x) by simp,fg r fs]
  exact q
theorem bR.or {f:Value} {r r':List V->Hp->VK->Prop} (h:bR X f r) (h':bR X f r'):bR X f (fun xs H Q=>r xs H Q\/r' xs H Q):=by
 intro pins s σ H xs us Q I rs q
 rcases q with q | q
 ·exact h pins s σ H xs us Q I rs q
 ·exact h' pins s σ H xs us Q I rs q
theorem j4:bR X (.type "list") (fun xs H Q=>∃ p ys,xs=[.ref p]/\(SqL X.K H p ys\/SqT X.K H p ys)/\∀ l,H l=none->Q (.ref l) (upd H l (.lst ys))):=by
 intro pins s σ H xs us Q I r h
 obtain ⟨p,ys,rfl,hq,q⟩:=h
 obtain ⟨u,rfl,rx⟩:=vals1 r
 cases rx
 have fin:∀ (its:List Value),Vals ys its->ys.length<=sizeLine->∀ (h':Heap) (c':Nat),(∀ b o',s.heap.get? b=some o'->h'.get? b=some o') ->
   h'.get? s.heap.objs.size=some { cls:=.type "list",dict:=none,data:=.seq its.toArray c',slots:=#[] }->EP X pins σ Q (.ref s.heap.objs.size) { s with heap:=h' }:=fun its r' hz h' c' kp e =>
  ⟨.ref s.heap.objs.size,_,I.laid (t':=s.toks) kp (Nat.le_refl _) (show aE X.prog X.w _ h' _ (.lst ys) from ⟨hz,its,c',r',e⟩),rfl,q _ (I.hok.fresh (Nat.le_refl _))⟩
 rcases hq with hq | hq
 ·obtain ⟨its,r',pl,hz⟩:=I.list hq
  have hlen:=r'.length
  obtain ⟨o,ho,hc,n,hd⟩:=pl.isList
  exact call_list_seq p (.inl rfl) ho hc hd (fun h' c' kp e=>fin its r' hz h' c' kp e) (by simp only [List.size_toArray] <;> omega)
 ·obtain ⟨its,r',pl,hz⟩:=I.tuple hq
  have hlen:=r'.length
  obtain ⟨o,ho,hc,n,hd⟩:=pl
  exact call_list_seq p (.inr rfl) ho hc hd (fun h' c' kp e=>fin its r' hz h' c' kp e) (by simp only [List.size_toArray] <;> omega)
noncomputable def tyV (K:PySem.W.Frag) (T:String) (x:V) (H:Hp):Prop:=match x with
 | .str _=>T = "str"
 | .int _=>T = "int"
 | .ref p=>(T = "list"/\∃ xs,SqL K H p xs)\/(T = "tuple"/\∃ o,K.lookup p=some o/\o.cls=.type "tuple"/\o.dict=none) \/
   (T = "dict"/\((∃ kvs,H p=some (.dK kvs))\/∃ kvs,H p=some (.dT kvs)))\/(T = "set"/\∃ S n,H p=some (.set S n))
 | _=>False
theorem rF {pins:List (Addr × Obj)} {σ:St} {H:Hp} {s:Shared} {T:String} {x:V} {v:Value} (I:Inv X pins σ H s) (r:RelV x v) (ty:tyV X.K T x H) :
  s.TypeIs v T/\∀ a,v=.ref a->∃ ob,s.heap.get? a=some ob/\ob.dict=none:=by
 cases x with
 | str z =>
  obtain ⟨t,rfl⟩:=r
  cases (show T = "str" from ty)
  exact ⟨typeIs_str s z t,fun _ e=>nomatch e⟩
 | int i =>
  obtain ⟨t,rfl⟩:=r
  cases (show T = "int" from ty)
  exact ⟨typeIs_int s i t,fun _ e=>nomatch e⟩
 | ref p =>
  cases r
  rcases ty with ⟨rfl,xs,hq⟩ | ⟨rfl,o,hk,hc,hd⟩ | ⟨rfl,hk⟩ | ⟨rfl,S,n,hk⟩
  ·obtain ⟨its,_,pl,_⟩:=I.list hq
   refine ⟨pl.isList.typeIs,fun a e => ?_⟩
   cases e
   obtain ⟨o,n,e,c,hd,_⟩:=pl
   exact ⟨o,e,hd⟩
  ·refine ⟨⟨o,I.kIn p o hk,hc⟩,fun a e => ?_⟩
   cases e
   exact ⟨o,I.kIn _ o hk,hd⟩
  ·have z:∃ o,s.heap.get? p=some o/\o.ExactDict:=by
    rcases hk with ⟨kvs,hk⟩ | ⟨kvs,hk⟩
    ·obtain ⟨_,_,_,_,o,_,_,e,ex,_⟩:=I.hok p _ hk
     exact ⟨o,e,ex⟩
    ·obtain ⟨_,_,_,_,o,_,_,e,ex,_⟩:=I.hok p _ hk
     exact ⟨o,e,ex⟩
   obtain ⟨o,e,ex⟩:=z
   refine ⟨⟨o,e,ex.1⟩,fun a e2 => ?_⟩
   cases e2
   exact ⟨o,e,ex.2.1⟩
  ·obtain ⟨o,_,_,_,e,ex,_⟩:=I.hok p _ hk
   refine ⟨⟨o,e,ex.1⟩,fun a e2 => ?_⟩
   cases e2
   exact ⟨o,e,ex.2.1⟩
 | _=>exact False.elim ty
noncomputable def A5 (K:PySem.W.Frag) (T:String) (r:V->List V->Hp->VK->Prop) (to:TE):TE:=fun σ H Q=>to σ H fun x H1=>tyV K T x H1/\r x [] H1 Q
noncomputable def tBM (K:PySem.W.Frag) (T:String) (r:V->List V->Hp->VK->Prop) (to:TE) (t:TA):TE:=fun σ H Q=>to σ H fun x H1=>tyV K T x H1/\t σ H1 fun xs H2=>r x xs H2 Q
variable {o e:Expr} {es:List Expr} {to:TE} {t:TA} {name:Str} {apos cpos:Pos} {T id:String} {r:V->List V->Hp->VK->Prop}
theorem mB (pa:PlainAttrs T) (slot:Slot T name id) (hty:typeOf (.builtin id)=pure (.type "method_descriptor")) (hm:MtR X id r) (ho:PE X o to)
  (hbase:attributeBase o name X.env (eval o X.env)=eval o X.env:=by rfl) (hline:(apos.endLine == cpos.line)=true:=by rfl):PE X (.Call (.Attribute o name apos) [] [] cpos) (A5 X.K T r to):=by
 intro pins s σ H Q I h
 refine wpAny_Call_method0_late hbase hline (thn (ho pins s σ H _ I h) fun v s1 ⟨x,H1,I1,r1,ty,q1⟩ => ?_)
 obtain ⟨h1,h2⟩:=rF I1 r1 ty
 exact ⟨T,id,pa,slot,hty,h1,h2,Calls.callWith_builtin rfl (PySem.evalArgs_none (hm pins s1 σ H1 x [] v [] Q I1 r1 .nil q1))⟩
theorem rq (pa:PlainAttrs T) (slot:Slot T name id) (hty:typeOf (.builtin id)=pure (.type "method_descriptor")) (hm:MtR X id r) (ho:PE X o to) (ha:PA X (e::es) t)
  (hbase:attributeBase o name X.env (eval o X.env)=eval o X.env:=by rfl)
  (hfew:((backTo cpos (starEach (e::es) X.env)).all (fun x => !x.1)&&(backToKw cpos (keywordEach [] X.env)).all (fun x=>x.1.isSome)
   && decide ((e::es).length+([]:List Keyword).length+(if ([]:List Keyword).isEmpty then 0 else 1)<30))=true:=by rfl)
  (hline:(apos.endLine == cpos.line)=true:=by rfl) (hs:starEach (e::es) X.env=(false,eval e X.env)::starEach es X.env:=by rfl) (hplain:(backTo cpos (starEach es X.env)).any (·.1)=false:=by rfl) :
  PE X (.Call (.Attribute o name apos) (e::es) [] cpos) (tBM X.K T r to t):=by
 intro pins s σ H Q I h
 refine wpAny_Call_method_late hbase hfew hline rfl (thn (ho pins s σ H _ I h) fun v s1 ⟨x,H1,I1,r1,ty,q1⟩ => ?_)
 obtain ⟨h1,h2⟩:=rF I1 r1 ty
 refine ⟨T,id,pa,slot,hty,h1,h2,?_⟩
 have hA:=ha cpos pins s1 σ H1 _ I1 q1
 rw [hs] at hA ⊢
 refine Calls.callWith_builtin (by show (false||(backTo cpos (starEach es X.env)).any (·.1))=false; rw [hplain] <;> rfl) (Calls.evalArgs_plain ?_)
 exact thn hA fun us s2 ⟨vs,H2,I2,r2,q2⟩=>hm pins s2 σ H2 x vs v us Q I2 r1 r2 q2
end
end L2
namespace L2
open PySem PySem.Spec PyProof.Rows
noncomputable def MtM (X:Cx) (id:String) (r:V->List V->Hp->VK->Prop):Prop :=
 ∀ (pins:List (Addr × Obj)) (s:Shared) (σ:St) (H:Hp) (x:V) (xs:List V) (v:Value) (us:List Value) (Q:VK),Inv X pins σ H s->RelV x v->Vals xs us->r x xs H Q ->
  wpAny (model X.prog X.w) X.A (call (.builtin id) (v::us)) (EP X pins σ Q) X.xe s
theorem Vals.one:∀ {x:V} {us:List Value},Vals [x] us->∃ u,us=[u]/\RelV x u
 | _,_,.cons r .nil=>⟨_,rfl,r⟩
theorem Vals.two:∀ {x y:V} {us:List Value},Vals [x,y] us->∃ u v,us=[u,v]/\RelV x u/\RelV y v
 | _,_,_,.cons r (.cons q .nil)=>⟨_,_,rfl,r,q⟩
theorem Vals.rep {xs:List V} {us:List Value} (h:Vals xs us):∀ k:Nat,Vals (List.replicate k xs).flatten (List.replicate k us).flatten
 | 0=>.nil
 | k+1=>by
  rw [List.replicate_succ,List.replicate_succ,List.flatten_cons,List.flatten_cons]
  exact Vals.append h (Vals.rep h k)
theorem foldl_rep (its:List Value):∀ (k:Nat) (acc:List Value),
  List.foldl (fun x1 x2=>x1++x2) acc.toArray (List.replicate k its.toArray)=(acc++(List.replicate k its).flatten).toArray
 | 0,acc=>by simp
 | k+1,acc=>by
  have e:acc.toArray++its.toArray=(acc++its).toArray:=by simp
  have e2:(acc++its)++(List.replicate k its).flatten=acc++(List.replicate (k+1) its).flatten:=by
   rw [List.replicate_succ,List.flatten_cons,List.append_assoc]
  rw [<-e2,<-foldl_rep its k (acc++its),<-e,List.replicate_succ,List.foldl_cons]
section
variable {X:Cx} {pins:List (Addr × Obj)} {σ:St} {H:Hp} {s:Shared} {l b:Addr} {xs ys zs:List V}
theorem Inv.Bo {its its':List Value} {n:Nat} {f:Array Value->Array Value} {t':Nat} (I:Inv X pins σ H s) (hH:H l=some (.lst xs))
  (e:s.heap.get? l=some { cls:=.type "list",data:=.seq its.toArray n }) (hf:f its.toArray=its'.toArray) (hv:Vals ys its') (hz:ys.length<=sizeLine) :
  Inv X pins σ (upd H l (.lst ys)) { s with heap:=s.heap.update l (Obj.mapSeq f),toks:=t' }:=by
 have q:=PySem.IsL.update e f
 rw [hf] at q
 refine I.write (x:=l) (e:=l) (by rw [hH]; exact trivial) (.inl rfl) (fun b' u hb hu=>(Heap.get?_update_other s.heap (Obj.mapSeq f) (Ne.symm hb)).trans hu) ⟨_,q⟩ ?_
 exact ⟨hz,its',_,hv,q⟩
theorem Inv.C0 {its:List Value} {t':Nat} (I:Inv X pins σ H s) (hv:Vals ys its) (hz:ys.length<=sizeLine) :
  Inv X pins σ (upd H s.heap.objs.size (.lst ys)) { s with heap:=s.heap.push { cls:=.type "list",data:=.seq its.toArray },toks:=t' } :=
 I.laid (fun _ _ q=>Heap.get?_push_of_some _ q) (Nat.le_refl _) ⟨hz,its,0,hv,Heap.get?_push_size _ rfl⟩
theorem Inv.fresh (I:Inv X pins σ H s):H s.heap.objs.size=none:=I.hok.fresh (Nat.le_refl _)
theorem Inv.oX (I:Inv X pins σ H s) (hH:H l=some (.lst xs)):xs.length<=sizeLine/\∃ (its:List Value) (n:Nat),Vals xs its/\xs.length=its.length/\s.heap.get? l=some { cls:=.type "list",data:=.seq its.toArray n }:=by
 obtain ⟨z,its,n,r,e⟩:=I.hok l _ hH
 exact ⟨z,its,n,r,r.length,e⟩
theorem rk {n:Nat} (h:n<=sizeLine):Builtin.List.listTooLong n=false:=by
 unfold Builtin.List.listTooLong
 exact decide_eq_false (by omega)
end
section
variable {X:Cx}
noncomputable def ny:V->List V->Hp->VK->Prop:=fun x vs H Q=>∃ l xs y,x=.ref l/\vs=[y]/\H l=some (.lst xs)/\xs.length<sizeLine/\Q .non (upd H l (.lst (xs++[y])))
theorem jc:MtM X "list.append" ny:=by
 intro pins s σ H x vs v us Q I rx rv h
 obtain ⟨l,xs,y,rfl,rfl,hH,hz,q⟩:=h
 cases rx
 obtain ⟨u,rfl,ru⟩:=rv.one
 obtain ⟨z,its,n,r,hl,e⟩:=I.oX hH
 refine call_meets F.slot_list_append ⟨_,e,rfl⟩ F.entry_list_append (F.args_list_append_2 _ _) (PySem.list_append l its.toArray n u (by rw [List.size_toArray]; omega)) ⟨e,?_⟩
 refine ⟨.non,_,I.Bo (its':=its++[u]) hH e (by simp) (r.append (.cons ru .nil)) ?_,rfl,q⟩
 rw [List.length_append,List.length_singleton]
 omega
noncomputable def Au:R2:=fun x y H Q=>∃ l b xs zs,x=.ref l/\y=.ref b/\H l=some (.lst xs)/\H b=some (.lst zs)/\xs.length+zs.length<=sizeLine/\∀ p,H p=none->Q (.ref p) (upd H p (.lst (xs++zs)))
theorem ze:OpR X (binaryOp .Add) Au:=by
 intro pins s σ H x y v u Q I rx ry h
 obtain ⟨l,b,xs,zs,rfl,rfl,hH,hB,hz,q⟩:=h
 cases rx
 cases ry
 obtain ⟨z,its,n,r,hl,e⟩:=I.oX hH
 obtain ⟨z2,its2,n2,r2,hl2,e2⟩:=I.oX hB
 refine PySem.P.add_list e e2 ?_ (by rw [List.size_toArray,List.size_toArray]; omega)
 have ea:its.toArray++its2.toArray=(its++its2).toArray:=by simp
 rw [ea]
 exact ⟨.ref _,_,I.C0 (t':=s.toks) (r.append r2) (by rw [List.length_append]; omega),rfl,q _ I.fresh⟩
noncomputable def Cc:R2:=fun x y H Q=>∃ l k xs,x=.ref l/\y=.int k/\H l=some (.lst xs)/\-(2 ^ 63)<=k/\k<2 ^ 63/\xs.length * k.toNat<=sizeLine /\
 ∀ p,H p=none->Q (.ref p) (upd H p (.lst (List.replicate k.toNat xs).flatten))
theorem len_rep {α:Type} (xs:List α) (k:Nat):(List.replicate k xs).flatten.length=k * xs.length:=by
 induction k with
 | zero=>simp
 | succ k ih=>rw [List.replicate_succ,List.flatten_cons,List.length_append,ih,Nat.succ_mul,Nat.add_comm]
theorem xC:OpR X (binaryOp .Mult) Cc:=by
 intro pins s σ H x y v u Q I rx ry h
 obtain ⟨l,k,xs,rfl,rfl,hH,h1,h2,hz,q⟩:=h
 cases rx
 obtain ⟨t,rfl⟩:=ry
 obtain ⟨z,its,n,r,hl,e⟩:=I.oX hH
 have hlen:its.toArray.size * k.toNat<=sizeLine:=by rw [List.size_toArray,<-hl]; exact hz
 have hcap:¬ its.toArray.size * k.toNat > (2 ^ 63 - 1) / 8:=by
  have:(sizeLine:Nat)<=(2 ^ 63 - 1) / 8:=by decide
  omega
 have hfit:¬ (!Builtin.List.listFitsIndex k)=true:=by
  rw [fitsIndex_both h1 h2]
  exact Bool.false_ne_true
 have hlong:¬ Builtin.List.listTooLong (its.toArray.size * k.toNat)=true:=by
  rw [rk hlen]
  exact Bool.false_ne_true
 have hnew:List.foldl (fun x1 x2=>x1++x2) #[] (List.replicate (if its.toArray.isEmpty=true then 0 else k.toNat) its.toArray)=(List.replicate k.toNat its).flatten.toArray:=by
  have f0:∀ m:Nat,List.foldl (fun x1 x2=>x1++x2) #[] (List.replicate m its.toArray)=(List.replicate m its).flatten.toArray:=fun m=>by
   have:=foldl_rep its m []
   rw [List.nil_append] at this
   exact this
  rw [f0]
  cases its with
  | nil=>simp
  | cons a r'=>rw [if_neg (by simp)]
 refine wpAny_binaryOp_repeat_ref (T := "list") (U := "int") (by decide) ⟨_,e,rfl⟩ (fun s'=>typeIs_int s' k t) noFill_list_mul F.fills_int_mul F.slot_int_rmul repeat_list F.slot_int_index.lookup
  (call_meets F.slot_int_rmul (typeIs_int s k t) F.entry_int_rmul (F.args_int_rmul_2 _ _) (int___rmul___int_list k t l its.toArray n)
   ⟨e,rfl,⟨_,e,rfl⟩,call_meets F.slot_list_mul ⟨_,e,rfl⟩ F.entry_list_mul (F.args_list_mul_2 _ _) (AutoListH.list___mul___list_int_3 l its.toArray n k t hfit hcap hlong) ⟨e,?_⟩⟩)
 rw [hnew]
 exact ⟨.ref _,_,I.C0 (t':=s.toks) (r.rep k.toNat) (by rw [len_rep,Nat.mul_comm]; exact hz),rfl,q _ I.fresh⟩
end
section
variable {prog:Program} {w:World} {A:Around} {E:Value->Shared->Prop} {s:Shared}
end
section
variable {X:Cx}
end
end L2
namespace Att
open PySem PySem.W PySem.Calls PyProof.Rows
theorem gu {P:Params} {h:Heap}:∀ (ns:List Int) (vs:List Value),WellAll P h vs (ns.map WData.int)->IntsAre vs ns:=by
 intro ns
 induction ns with
 | nil =>
  intro vs w
  rw [List.map_nil] at w
  cases w
  exact .nil
 | cons n ns ih =>
  intro vs w
  rw [List.map_cons] at w
  cases w with
  | cons a b =>
   cases a
   exact .cons _ _ (ih _ b)
theorem oE {l:OpenLaw} {n:Nat} (hn:l.most=some n) {P:Params} {h:Heap} {args:List WData} {vals:List Value}
  (hpre:l.row.toRowW.claim.pre args=true) (hwl:WellAll P h vals args) :
  ∃ a vs ns,vals=[Value.ref a]/\args=[WData.list (ns.map WData.int)]/\h.get? a=some { cls:=.type "list",data:=.seq vs.toArray }/\IntsAre vs ns/\ns.length<=n:=by
 have hsh:WShape.hasAll [] args [.list .int]=true:=(pre_splitW hpre).1
 have hc:l.pre.holds [] { args:=args }=true:=(pre_splitW hpre).2
 obtain ⟨d,r,rfl,h1,h2⟩:=hasAllW_cons hsh
 obtain rfl:=hasAllW_nil h2
 obtain ⟨xs,rfl,h3⟩:=hasW_list h1
 obtain ⟨ns,rfl⟩:=items_int h3
 have hlen:ns.length<=n:=by
  unfold OpenLaw.pre at hc
  have h4:(WTm.not (.lt (.lit (.int (n:Int))) (.len (.arg 0)))).holds [] { args:=[.list (ns.map .int)] }=true:=by
   have h4:=(holds_andW hc).1
   rw [hn] at h4
   exact h4
  have h5:=condW_of h4 (w_not (w_lt w_lit (w_len_list (w_arg rfl))))
  rw [List.length_map] at h5
  refine Nat.le_of_not_lt fun q => ?_
  have q':(n:Int)<((ns.length:Nat):Int):=by omega
  first
   | (rw [decide_eq_true q'] at h5; exact absurd h5 (by decide))
   | (simp at h5; omega)
 cases hwl with
 | cons w1 w2 =>
  cases w2
  cases w1 with
  | list ho hall=>exact ⟨_,_,ns,rfl,rfl,ho,gu ns _ hall,hlen⟩
theorem pM (l:OpenLaw) (args:List WData):l.row.toRowW.claim.post args (.bool true) args=true :=
 postW_of (r:=l.row.toRowW) (X:=(true == true))
  (show WShape.has [] (.bool true) .bool=true by first | rfl | decide | simp [WShape.has,WShape.arms,WShape.armsAll])
  (show (WTm.eq .res (.lit (.bool true))).value [] { args:=args,res:=some (.bool true),after:=args }=some (.bool (true == true)) from w_eq_bool (w_res rfl) w_lit) rfl
theorem gf {l:OpenLaw} {n:Nat} {q:Program} {loose:List Str} {XP:(Str->Option Value)->Heap->Prop} {YP:World->Heap->Prop} {d:DefRec}
  (hn:l.most=some n) (hdf:d.params.defaults=[])
  (call:∀ (w:World) (s₀ s₁:Shared) (mg mb:Str->Option Value) (fa:Addr) (o:Obj) (pm cd doc:Value) (a:Addr) (vs:List Value) (ns:List Int),
   Ground q loose [] XP w s₀ mg mb s₁.heap->YP w s₁.heap ->
   s₁.heap.get? fa=some o->o.data=.func (docDef d.name d.params d.body d.scope pm cd doc)->s₁.heap.CodeRec cd d.name->mg d.name=some (.ref fa) ->
   s₁.heap.get? a=some { cls:=.type "list",data:=.seq vs.toArray }->IntsAre vs ns->ns.length<=n->s₁.gens = #[] ->
   codeAny (model l.prog w) callerA (.call (.ref fa) ⟨[.ref a],[]⟩) (fun r s'=>r=.ok (.ret (.bool true))/\OldK s₁.heap s'.heap/\s'.os=s₁.os/\AllBare s'.gens) s₁) :
  WalkO q loose XP YP l.row.toRowW d [] (fun f vs=>PySem.call f vs):=by
 intro w s₀ s₁ mg mb G Y fa o pm cd doc dV kV ho hd hcd hD hmg hg args vals as hpre hlay hrd hwl hlo
 obtain rfl:dV=.none:=Dflts.none hD hdf
 obtain rfl:kV=.none:=Dflts.noKw hD
 obtain ⟨a,vs,ns,rfl,rfl,hobj,hints,hlen⟩:=oE hn hpre hwl
 refine enter_call (codeAny_mono (call w s₀ s₁ mg mb fa o pm cd doc a vs ns G Y ho (fd_plain hd) hcd hmg hobj hints hlen hg) fun r s' hq => ?_)
 obtain ⟨rfl,h2,h3,h4⟩:=hq
 exact ⟨.inl ⟨.bool true,.bool true,[],rfl,fun _=>rfl,.bool true,pM l _,fun _=>⟨List.Pairwise.nil,fun _ hm=>(nomatch hm)⟩⟩,h2,h3,h4⟩
section
variable {prog:Program} {w:World} {A:Around} {E:Value->Shared->Prop} {s:Shared} {K:Frag}
noncomputable def jN (h:Heap):Heap:={ h with objs:=#[] }
theorem ic (h:Heap) (b:Addr):(jN h).get? b=none:=by
 cases e:(jN h).get? b with
 | none=>rfl
 | some o=>exact absurd (Heap.lt_size e) (Nat.not_lt_zero _)
theorem yA {h:Heap} {L:Addr} {m:Str->Option Value} (n:h.Ns L m):Fr (jN h) L h m :=
 ⟨n,fun b o e=>(by rw [ic] at e; cases e),Nat.zero_le _⟩
end
end Att
namespace L2
open PySem PySem.Spec PyProof.Rows
theorem fV:∀ {vs:List Value} {ns:List Int},IntsAre vs ns->Vals (ns.map V.int) vs
 | _,_,.nil=>.nil
 | _,_,.cons n t h=>.cons ⟨t,rfl⟩ (fV h)
noncomputable def yZ (H:Hp):Prop:=∀ b,H b=none\/∃ o xs,H b=some (.frz o (.lst xs))
theorem tN {P:Program} {w:World} {K:PySem.W.Frag} {mg mb:Str->Option Value} {CX:CXT} {k:Nat} {fa a:Addr} {fd:FuncData} {x:Str} {sp:Sp} {s₁:Shared} {vs:List Value} {ns:List Int}
  (KX:K.In s₁.heap) (hns:s₁.heap.Ns mainGlobals mg) (hb:s₁.heap.Ns builtinsNs mb) (hbb:∀ x:Str,x ≠ "__name__"->mb x=bootBuiltins x) (hlim:s₁.heap.NoLimit) (hg:s₁.gens = #[])
  (ha:s₁.heap.get? a=some { cls:=.type "list",data:=.seq vs.toArray }) (hi:IntsAre vs ns) (hl:ns.length<=sizeLine) (hr:bS k callerA)
  (F:∀ base:Heap,K.In base->base.Ns mainGlobals mg->cV P w K mg base CX k fa fd [x] sp) (hbind:∀ (s:Shared) (u:Value),BindsTo s fd ⟨[u],[]⟩ [(x,u)])
  (hsp:∀ H:Hp,yZ H->SqL K H a (ns.map V.int)->sp [.ref a] H (fun v _=>v=.bl true) fun _ _ _=>False)
  (hCX:∀ H e s',CX [] H s₁ (fun _ _ _=>False) e s'->False) :
  codeAny (model P w) callerA (.call (.ref fa) ⟨[.ref a],[]⟩) (fun r s'=>r=.ok (.ret (.bool true))/\OldK s₁.heap s'.heap/\s'.os=s₁.os/\AllBare s'.gens) s₁:=by
 have rv:=fV hi
 have lenV:=hi.length
 have core:∀ H:Hp,yZ H->SqL K H a (ns.map V.int)->HOk P w H s₁.heap->(∀ b,H b≠none->b=a)->(H a≠none->K.lookup a=none) ->
   codeAny (model P w) callerA (.call (.ref fa) ⟨[.ref a],[]⟩) (fun r s'=>r=.ok (.ret (.bool true))/\OldK s₁.heap s'.heap/\s'.os=s₁.os/\AllBare s'.gens) s₁:=by
  intro H hO hS hok hA hK
  have aU:∀ {b:Addr} {o:Obj},s₁.heap.get? b=some o->H b=none->(eE s₁.heap H).get? b=some o:=fun e n=>kZ e n
  have noA:∀ {b:Addr} {o:Obj} {es:Array DictEntry} {ep:Nat},s₁.heap.get? b=some o->o.data=.dict es ep->H b=none:=fun {b o es ep} e d=>by
   cases q:H b with
   | none=>rfl
   | some u =>
    have e':b=a:=hA b (by rw [q]; simp)
    subst e'
    rw [ha] at e; cases e
    have d':Data.seq vs.toArray _=Data.dict es ep:=d
    cases d'
  have nsK:∀ {b:Addr} {m:Str->Option Value},s₁.heap.Ns b m->(eE s₁.heap H).Ns b m:=fun {b m} ⟨o,es,ep,e,d,r⟩=>⟨o,es,ep,aU e (noA e d),d,r⟩
  have hKb:K.In (eE s₁.heap H):=fun b o e=>aU (KX b o e) (by
   cases q:H b with
   | none=>rfl
   | some u =>
    have e':b=a:=hA b (by rw [q]; simp)
    subst e'
    rw [hK (by rw [q]; simp)] at e; cases e)
  have hM:Mod K mg (eE s₁.heap H):=⟨hKb,nsK hns,⟨mb,nsK hb,hbb⟩,let ⟨mc,h1,h2⟩:=hlim; ⟨mc,nsK h1,h2⟩⟩
  have e0:q9 P w K mg (eE s₁.heap H) callerA [] s₁ H:=⟨rfl,hM,fun b o e=>oi e,Nat.le_of_eq (iV _ _),trivial,fun b hb=>absurd (show b∈([]:List Addr) from hb) (by simp),hok,.of_eq hg⟩
  refine codeAny_mono ((F _ hKb (nsK hns)).run callerA [] s₁ H ⟨[.ref a],[]⟩ [.ref a] [.ref a] _ _ hr e0 (hbind s₁ (.ref a)) (.cons rfl .nil) (hsp H hO hS)) fun r s' h => ?_
  cases r with
  | error e=>exact (hCX H e s' h).elim
  | ok fl =>
   cases fl with
   | next=>exact False.elim h
   | brk=>exact False.elim h
   | cont=>exact False.elim h
   | ret u =>
    obtain ⟨v,H',os,bare,un,hok',r',q⟩:=h
    have q':v=.bl true:=q
    subst q'
    obtain rfl:u=Value.bool true:=r'
    refine ⟨rfl,OldK.of_keep fun b o e => ?_,os,bare⟩
    cases q:H b with
    | none=>exact un.keep b o e q (by intro z; exact absurd (show b∈([]:List Addr) from z) (by simp)) (by simp)
    | some u =>
     rcases hO b with z | ⟨ob,xs,z⟩
     ·rw [q] at z; cases z
     ·have z2:=un.frzs b ob _ z
      obtain ⟨e1,_⟩:=hok b _ z
      obtain ⟨e2,_⟩:=hok' b _ z2
      rw [e] at e1; cases e1
      exact e2
 cases hk:K.lookup a with
 | some o =>
  have e:=KX a o hk
  rw [ha] at e
  cases e
  refine core (fun _=>none) (fun _=>.inl rfl) (.inr ⟨_,vs.toArray,_,hk,rfl,rfl,rfl,by rw [List.size_toArray,lenV]; exact hl,by simpa using rv⟩) (fun b u z=>by have z':(none:Option HO)=some u:=z; cases z') (fun b z=>absurd rfl z) fun z=>absurd rfl z
 | none =>
  refine core (fun b=>if b=a then some (.frz { cls:=.type "list",data:=.seq vs.toArray } (.lst (ns.map V.int))) else none) (fun b => ?_) (.inl (.inr ⟨{ cls:=.type "list",data:=.seq vs.toArray },if_pos rfl⟩)) (fun b u z => ?_) (fun b z => ?_) fun _=>hk
  ·by_cases hb:b=a
   ·exact .inr ⟨_,_,if_pos hb⟩
   ·exact .inl (if_neg hb)
  ·by_cases hb:b=a
   ·have z':=(if_pos hb).symm.trans z
    cases z'
    subst hb
    exact ⟨ha,by rw [List.length_map]; exact hl,vs,_,rv,ha⟩
   ·have z':=(if_neg hb).symm.trans z
    cases z'
  ·by_cases hb:b=a
   ·exact hb
   ·exact absurd (if_neg hb) z
end L2
namespace L2
open PySem PySem.Spec PyProof.Rows
theorem DG {l:PySem.W.OpenLaw} {n k:Nat} {q:Program} {loose:List Str} {XP:(Str->Option Value)->Heap->Prop} {YP:World->Heap->Prop} {d:DefRec} {K:Params->PySem.W.Frag} {CX:World->CXT} {sp:World->Sp} {x:Str}
  (hn:l.most=some n) (hn2:n<=sizeLine) (hdf:d.params.defaults=[]) (hr:bS k callerA)
  (hY:∀ (w:World) (h:Heap),YP w h->(K w.params).In h)
  (F:∀ (w:World) (mg:Str->Option Value) (fa:Addr) (h:Heap),(K w.params).In h->h.Ns mainGlobals mg->mg d.name=some (.ref fa) ->
   ∃ fd:FuncData,(∀ (s:Shared) (u:Value),BindsTo s fd ⟨[u],[]⟩ [(x,u)]) /\
    ∀ base:Heap,(K w.params).In base->base.Ns mainGlobals mg->cV l.prog w (K w.params) mg base (CX w) k fa fd [x] (sp w))
  (hsp:∀ (w:World) (H:Hp) (a:Addr) (ns:List Int),ns.length<=n->yZ H->SqL (K w.params) H a (ns.map V.int)->sp w [.ref a] H (fun v _=>v=.bl true) fun _ _ _=>False)
  (hCX:∀ (w:World) (H:Hp) (s:Shared) (e:Value) (s':Shared),CX w [] H s (fun _ _ _=>False) e s'->False) :
  PySem.W.WalkO q loose XP YP l.row.toRowW d [] (fun f vs=>PySem.call f vs):=by
 refine Att.gf hn hdf fun w s₀ s₁ mg mb fa o pm cd doc a vs ns G Y ho hd hcd hmg hobj hints hlen hg => ?_
 have KX:=hY w _ Y
 obtain ⟨fd,hb,hF⟩:=F w mg fa _ KX G.T.g hmg
 exact tN KX G.T.g G.T.b G.T.builtins G.T.nolimit hg hobj hints (Nat.le_trans hlen hn2) hr hF hb (fun H hO hS=>hsp w H a ns hlen hO hS) fun H e s'=>hCX w H s₁ e s'
end L2
namespace L2
open PySem PySem.Spec PyProof.Rows
noncomputable def aL (s:Stmt):Arguments:=match s with
 | .FunctionDef _ a _ _ _ _ _ _ _ _=>a
 | _=>{ posonlyargs:=[],args:=[],vararg:=none,kwonlyargs:=[],kw_defaults:=[],kwarg:=none,defaults:=[] }
noncomputable def aD (s:Stmt):List Stmt:=match s with
 | .FunctionDef _ _ b _ _ _ _ _ _ _=>b
 | _=>[]
noncomputable def ag (s:Stmt):Scope:=match s with
 | .FunctionDef _ _ _ _ _ _ sc _ _ _=>sc
 | _=>{ kind:=.function,names:=[],isGenerator:=false,isCoroutine:=false }
noncomputable abbrev E0:XK:=fun _ _ _=>False
structure Fun (K:PySem.W.Frag) (x qual:Str) (st:Stmt) (f:Addr) (fd:FuncData):Prop where
 ex:∃ (oc:Value) (od:Option Addr) (kV doc pm:Value) (an:Option Addr) (cdv ct:Value) (osl:Array (Option Value)),
  fd=PySem.W.fnOf x qual (aL st) (aD st) (ag st) .none kV doc pm an cdv ct/\K.lookup f=some ⟨oc,od,.func fd,osl⟩/\PySem.W.codeIn K cdv qual=true
 kp:PySem.W.keepIn K (.ref f)=true
section
variable {P:Program} {w:World} {K:PySem.W.Frag} {mg:Str->Option Value} {base:Heap}
theorem Fun.binds {x qual:Str} {st:Stmt} {f:Addr} {fd:FuncData} {ps:List Str} (F:Fun K x qual st f fd)
  (h:∀ (kV doc pm:Value) (an:Option Addr) (cdv ct:Value) (us:List Value),us.length=ps.length->bindArgs (PySem.W.fnOf x qual (aL st) (aD st) (ag st) .none kV doc pm an cdv ct) ⟨us,[]⟩=pure (ps.zip us)):Binds K fd ps []:=by
 obtain ⟨oc,od,kV,doc,pm,an,cdv,ct,osl,rfl,lk,hcd⟩:=F.ex
 exact .all (h kV doc pm an cdv ct)
theorem cj {x qual:Str} {st:Stmt} {f:Addr} {oc:Value} {od an:Option Addr} {osl:Array (Option Value)} {kV doc pm cdv ct:Value} (l:K.lookup f=some ⟨oc,od,.func (PySem.W.fnOf x qual (aL st) (aD st) (ag st) .none kV doc pm an cdv ct),osl⟩)
  (c:PySem.W.codeIn K cdv qual=true) (k:PySem.W.keepIn K (.ref f)=true):Fun K x qual st f (PySem.W.fnOf x qual (aL st) (aD st) (ag st) .none kV doc pm an cdv ct):=⟨⟨oc,od,kV,doc,pm,an,cdv,ct,osl,rfl,l,c⟩,k⟩
end
theorem fL {n:Nat} (h:n<=1000):n<sizeLine:=Nat.lt_of_le_of_lt h (by decide)
section
variable {X:Cx}
end
noncomputable def aK (H H':Hp):Prop:=∀ b o,H b=some o->H' b=some o
theorem aK.refl (H:Hp):aK H H:=fun _ _ h=>h
theorem aK.trans {H H1 H2:Hp} (a:aK H H1) (b:aK H1 H2):aK H H2:=fun c o h=>b c o (a c o h)
theorem aK.free {H H':Hp} (e:aK H H') {l:Addr} (h:H' l=Option.none):H l=Option.none:=by
 cases q:H l with
 | none=>rfl
 | some o =>
  rw [e l o q] at h
  cases h
theorem aK.seq {K:PySem.W.Frag} {H H':Hp} {a:Addr} {xs:List V} (e:aK H H') (h:SqL K H a xs):SqL K H' a xs:=by
 rcases h with (h | ⟨o,h⟩) | h
 ·exact .inl (.inl (e _ _ h))
 ·exact .inl (.inr ⟨o,e _ _ h⟩)
 ·exact .inr h
end L2
namespace L2
open PySem PySem.Spec PyProof.Rows
theorem gi {α β:Type} {f:α->β->Sem (ForInStep β)} (g:β->α->β):∀ (l:List α) (c:β),(∀ x∈l,∀ c,f x c=pure (.yield (g c x)))->forIn l c f=pure (l.foldl g c)
 | [],_,_=>rfl
 | x::r,c,h=>by
  rw [List.forIn_cons,h x (.head _),pure_bind]
  exact gi g r _ fun y hy=>h y (.tail _ hy)
noncomputable def bE (env:Env) (acc:List (Str × Addr)) (p:Str × NameKind):List (Str × Addr):=if p.2=.free then (p.1,(env.cells.lookup p.1).getD 0)::acc else acc
noncomputable def dI (env:Env) (names:List (Str × NameKind)) (acc:List (Str × Addr)):List (Str × Addr):=names.foldl (bE env) acc
theorem dM {scope:Scope} {env:Env} (h:∀ p∈scope.names,p.2=.free->∃ c,env.cells.lookup p.1=some c):closureFor scope env=pure (dI env scope.names []):=by
 simp only [closureFor]
 rw [gi (bE env) scope.names [] (fun x hx c=>by
  obtain ⟨n,k⟩:=x
  unfold bE
  by_cases hk:k=.free
  ·obtain ⟨a,ha⟩:=h (n,k) hx hk
   subst hk
   have e1:cellOf env n=pure a:=by
    unfold cellOf
    rw [ha]
   have e2:(env.cells.lookup n).getD 0=a:=by rw [ha]; rfl
   simp [e1,e2]
  ·have hb:(k == NameKind.free)=false:=by simpa using hk
   simp [hb,hk])]
 rfl
theorem eI {env:Env} {x:Str} {c:Addr}:∀ (l:List (Str × NameKind)) (acc:List (Str × Addr)),(dI env l acc).lookup x=some c->acc.lookup x=some c\/((∃ p∈l,p.1=x/\p.2=.free)/\c=(env.cells.lookup x).getD 0)
 | [],_,h=>.inl h
 | p::r,acc,h=>by
  have ih:=eI r (bE env acc p) h
  rcases ih with ih | ⟨⟨q,hq,e⟩,e2⟩
  ·unfold bE at ih
   by_cases hp:p.2=.free
   ·rw [if_pos hp] at ih
    rw [List.lookup_cons] at ih
    cases hx:x == p.1 with
    | true =>
     rw [hx] at ih
     have e3:x=p.1:=eq_of_beq hx
     refine .inr ⟨⟨p,.head _,e3.symm,hp⟩,?_⟩
     rw [e3]
     exact (Option.some.inj ih).symm
    | false =>
     rw [hx] at ih
     exact .inl ih
   ·rw [if_neg hp] at ih
    exact .inl ih
  ·exact .inr ⟨⟨q,.tail _ hq,e⟩,e2⟩
theorem iT {env:Env} {x:Str}:∀ (l:List (Str × NameKind)) (acc:List (Str × Addr)),(∃ c,acc.lookup x=some c)->∃ c,(dI env l acc).lookup x=some c
 | [],_,h=>h
 | p::r,acc,h=>by
  refine iT r (bE env acc p) ?_
  unfold bE
  split
  ·rw [List.lookup_cons]
   cases x == p.1 with
   | true=>exact ⟨_,rfl⟩
   | false=>exact h
  ·exact h
theorem jV {env:Env} {x:Str}:∀ (l:List (Str × NameKind)) (acc:List (Str × Addr)),(x,NameKind.free)∈l->∃ c,(dI env l acc).lookup x=some c
 | p::r,acc,h=>by
  rcases List.mem_cons.mp h with e | h
  ·refine iT r (bE env acc p) ?_
   unfold bE
   rw [<-e,if_pos rfl,List.lookup_cons,beq_self_eq_true]
   exact ⟨_,rfl⟩
  ·exact jV r (bE env acc p) h
theorem bI {x:Str} {k:NameKind}:∀ {l:List (Str × NameKind)},l.lookup x=some k->(x,k)∈l
 | [],h=>by simp at h
 | (n,k')::r,h=>by
  rw [List.lookup_cons] at h
  cases hx:x == n with
  | true =>
   rw [hx] at h
   have e:=eq_of_beq hx
   have e2:k'=k:=Option.some.inj h
   rw [e,e2]
   exact .head _
  | false =>
   rw [hx] at h
   exact .tail _ (bI h)
noncomputable def bG (env:Env) (p:Str × NameKind):Str × NameKind:=if (p.2 == .free&&env.scope.kind == .function&&env.kindOf p.1 == some .cell)=true then (p.1,.cell) else p
theorem cO (scope:Scope) (env:Env):(relabel scope env).names=scope.names.map (bG env):=by
 show scope.names.map _=scope.names.map _
 refine List.map_congr_left fun p _ => ?_
 obtain ⟨n,k⟩:=p
 rfl
theorem fE {env:Env} {x:Str}:∀ {l:List (Str × NameKind)} {k:NameKind},(l.map (bG env)).lookup x=some k->∃ k',l.lookup x=some k'/\k=(bG env (x,k')).2
 | [],_,h=>by simp at h
 | (n,k')::r,k,h=>by
  have e1:(bG env (n,k')).1=n:=by unfold bG; split <;> rfl
  rw [List.map_cons,show bG env (n,k')=(n,(bG env (n,k')).2) from Prod.ext e1 rfl,List.lookup_cons] at h
  rw [List.lookup_cons]
  cases hx:x == n with
  | true =>
   rw [hx] at h
   have e:=eq_of_beq hx
   subst e
   exact ⟨k',rfl,(Option.some.inj h).symm⟩
  | false =>
   rw [hx] at h
   exact fE h
theorem dh {env:Env} {x:Str}:∀ {l:List (Str × NameKind)} {k':NameKind},l.lookup x=some k'->(l.map (bG env)).lookup x=some (bG env (x,k')).2
 | [],_,h=>by simp at h
 | (n,k)::r,k',h=>by
  have e1:(bG env (n,k)).1=n:=by unfold bG; split <;> rfl
  rw [List.map_cons,show bG env (n,k)=(n,(bG env (n,k)).2) from Prod.ext e1 rfl,List.lookup_cons]
  rw [List.lookup_cons] at h
  cases hx:x == n with
  | true =>
   rw [hx] at h
   have e:=eq_of_beq hx
   subst e
   rw [Option.some.inj h]
  | false =>
   rw [hx] at h
   exact dh h
noncomputable abbrev Cx.comp (X:Cx) (scope:Scope) (N':List Str) (fp:List Addr) (s2:Shared) (H2:Hp) (C:Addr):Cx :=
 { X with N:=N',s₀:=s2,H₀:=H2,env:=compEnvC scope (dI X.env scope.names []) C X.env,outer:=X.stack,ex:=fp,fn:=fun _=>false,pn:=[],xe:=fun _ _=>False }
structure di (sc:Scope) (N:List Str) (scope:Scope) (N':List Str) (nl:Nat) (fr:List Nat):Prop where
 kind:scope.kind=.function
 cell:∀ y∈scope.names,y.2≠.cell
 names:∀ y∈scope.names,y.2=.local->scope.names.lookup y.1=some .local
 free:∀ y∈scope.names,y.2=.free->sc.names.lookup y.1=some .cell\/sc.names.lookup y.1=some .free
 own:N'.length=nl+fr.length
 outs:(N'.drop nl).map some=fr.map fun j=>N[j]?
 seen:∀ x∈N'.drop nl,scope.names.lookup x=some .free
noncomputable def gT (nl:Nat) (fr:List Nat) (σ:St):St:=List.replicate nl none++fr.map fun j=>(σ[j]?).join
noncomputable def ez (ys:List Value):Obj:={ cls:=.type "list",data:=.seq ys.toArray ys.length }
theorem oW (ys:List Value) (y:Value):({ cls:=.type "list",data:=.seq (ys.toArray.push y) (ys.length+1) }:Obj)=ez (ys++[y]):=by
 unfold ez
 rw [List.length_append,List.length_singleton,List.push_toArray]
noncomputable def PTs (X:Cx) (ifs:List Expr) (t:TT):Prop :=
 ∀ (pins:List (Addr × Obj)) (s:Shared) (σ:St) (H:Hp) (Q:Bool->Hp->Prop),Inv X pins σ H s->t σ H Q ->
  wpAny (model X.prog X.w) X.A (forIn ifs true fun c r=>if r=true then do let ok <-isTrue c X.env (eval c X.env); pure (ForInStep.yield ok) else pure (ForInStep.yield r)) (TP X pins σ Q) X.xe s
noncomputable def EY:TT:=fun _ H Q=>Q true H
theorem uU {X:Cx}:PTs X [] EY:=fun _ _ _ H _ I h=>wpAny_tests_nil ⟨H,I,h⟩
theorem tX {X:Cx} {c:Expr} {t:TT} (h:PT X c t):PTs X [c] t:=fun pins s σ H Q I hw=>wpAny_tests_one (h pins s σ H Q I hw)
theorem j3 {prog:Program} {w:World} {A:Around} {R:Result->Shared->Prop} {s:Shared} {elt tg iter:Expr} {ifs:List Expr} {scope:Scope} {pos:Pos} {it acc:Value} {env:Env} (J:Nat->Shared->Prop)
  (turn:∀ n s,J n s->∀ E,wpAny (model prog w) A (pyNext it) (fun r s1=>match r with
   | none=>R (.ok .next) s1
   | some v=>wpAny (model prog w) A (letOwnedTupleGo tg it v) (fun _ s2=>wpAny (model prog w) A (assign tg env v) (fun _ s3 =>
     wpAny (model prog w) A (forIn ifs true fun c r=>if r=true then do let ok <-isTrue c env (eval c env); pure (ForInStep.yield ok) else pure (ForInStep.yield r)) (fun ok s4 =>
      if ok=true then wpAny (model prog w) A (eval elt env) (fun x s5=>wpAny (model prog w) A (call (.builtin "list.append") [acc,x]) (fun _ s6=>∃ m,m<n/\J m s6) E s5) E s4
      else ∃ m,m<n/\J m s4) E s3) E s2) E s1) E s)
  (n:Nat) (h:J n s):codeAny (model prog w) A (.compLoop (.ListComp elt [⟨tg,iter,ifs,0⟩] scope pos) 0 it acc env) R s:=by
 refine codeAny_loop rfl J (fun n s hJ => ?_) n h
 show wpAny _ A ((compTurn (.ListComp elt [⟨tg,iter,ifs,0⟩] scope pos) 0 it acc env).onRaise (fun x=>do noteFrame x env; theTreesLotGoes x)) _ _ s
 refine wpAny_noted ?_
 rw [compTurn_list]
 refine wpAny_bind (wpAny_standAt (wpAny_bind (thn (turn n s hJ _) fun r s1 h1 => ?_)))
 cases r with
 | none=>exact wpAny_pure h1
 | some v =>
  refine wpAny_bind (thn h1 fun _ s2 h2=>wpAny_bind (thn h2 fun _ s3 h3=>wpAny_bind (thn h3 fun ok s4 h4 => ?_)))
  cases ok with
  | false=>exact wpAny_pure ⟨rfl,h4⟩
  | true=>exact wpAny_bind (wpAny_bind (thn h4 fun x s5 h5=>wpAny_bind (thn h5 fun _ s6 h6=>wpAny_pure (wpAny_pure ⟨rfl,h6⟩))))
section
variable {X:Cx} {tg:Expr}
noncomputable def m7 (nl:Nat) (fr:List Nat) (wi:TI) (g:TG) (ti:TT) (te:TE) (fin:List V->Hp->Prop):St->Hp->Prop:=fun σ H=>wi σ H fun J H1=>∃ W:Nat->Nat->St->List V->Hp->Prop,(∃ m,W 0 m (gT nl fr σ) [] H1)/\∀ i m τ vs H,W i m τ vs H ->
 vs.length<=sizeLine/\((J.stop i H/\fin vs H)\/(J.go i H/\∀ x H',J.yld i H x H'->g x τ H' fun τ2 H2=>ti τ2 H2 fun b H3 =>
  if b=true then te τ2 H3 fun y H4=>∃ m',m'<m/\W (i+1) m' τ2 (vs++[y]) H4 else ∃ m',m'<m/\W (i+1) m' τ2 vs H3))
theorem Cx.Ok.comp {scope:Scope} {N':List Str} {nl:Nat} {fr:List Nat} (hK:di X.env.scope X.N scope N' nl fr) {pins:List (Addr × Obj)} {σ:St} {H2:Hp} {s2:Shared} {fp:List Addr} {C:Addr} (I2:Inv X pins σ H2 s2) (f2:∀ b∈fp,iH X pins H2 b) (fl:∀ b∈fp,b<s2.heap.objs.size)
  (hC:s2.heap.objs.size<=C):(X.comp scope N' fp s2 H2 C).Ok:=by
 have ok:=I2.ok
 have lk:∀ x c,(dI X.env scope.names []).lookup x=some c->X.env.cells.lookup x=some c:=fun x c e=>by
  rcases eI _ _ e with z | ⟨⟨p,hp,e1,e2⟩,e3⟩
  ·simp at z
  ·obtain ⟨c',hc'⟩:=ok.has x (by
    rw [<-e1]
    rcases hK.free p hp e2 with z | z
    ·exact .inl z
    ·exact .inr z)
   rw [hc'] at e3
   rw [hc',e3]
   rfl
 have cl:∀ x c,X.env.cells.lookup x=some c->c<s2.heap.objs.size:=fun x c e=>by
  obtain ⟨v,q⟩:=I2.cell x c e
  exact q.lt
 refine ⟨ok.mod,hK.kind,ok.glob,ok.blt,hC,fun x y c e1 e2=>ok.inj x y c (lk x c e1) (lk y c e2),fun x hx => ?_,fun x c z=>(by cases z),ok.hd,ok.frames,.inl rfl,fun b hb=>⟨?_,fun x c e => ?_⟩,fun b o e => ?_,?_,fun b o e hb => ?_,fun b hb z => ?_,I2.stack,I2.j0⟩
 ·have hx':((scope.names.map (bG X.env)).lookup x=some .cell\/(scope.names.map (bG X.env)).lookup x=some .free):=by
   rw [<-cO]
   exact hx
  have key:scope.names.lookup x=some .free:=by
   rcases hx' with z | z
   ·obtain ⟨k',e1,e2⟩:=fE z
    cases k' with
    | free=>exact e1
    | cell=>exact absurd rfl (hK.cell _ (bI e1))
    | _=>simp [bG] at e2
   ·obtain ⟨k',e1,e2⟩:=fE z
    cases k' with
    | free=>exact e1
    | _=>simp [bG] at e2
  exact jV _ _ (bI key)
 ·exact Nat.ne_of_lt (Nat.lt_of_lt_of_le (fl b hb) hC)
 ·exact (f2 b hb).2.2.2.2.1 x c (lk x c e)
 ·exact I2.bs b o e
 ·exact Nat.le_trans ok.bsz I2.sz
 ·rcases (f2 b hb).2.2.2.1 with z | z
  ·exact ok.noex b o e z
  ·exact absurd (Nat.lt_of_lt_of_le (Heap.lt_size e) (Nat.le_trans ok.bsz z)) (Nat.lt_irrefl _)
 ·rcases List.mem_cons.mp (I2.jP b z) with e | e
  ·exact (f2 b hb).2.1 e
  ·exact (f2 b hb).2.2.1 e
theorem sD {nl:Nat} {fr:List Nat} {σ:St} {i:Nat} {v:V} (h:(gT nl fr σ)[i]?=some (some v)):∃ k j,i=nl+k/\fr[k]?=some j/\σ[j]?=some (some v):=by
 unfold gT at h
 by_cases hi:i<nl
 ·rw [List.getElem?_append_left (by simpa using hi),List.getElem?_replicate,if_pos hi] at h
  cases h
 ·rw [List.getElem?_append_right (by simpa using Nat.le_of_not_lt hi),List.length_replicate,List.getElem?_map] at h
  cases e:fr[i - nl]? with
  | none=>rw [e] at h; cases h
  | some j =>
   rw [e] at h
   refine ⟨i - nl,j,by omega,e,?_⟩
   have h':(σ[j]?).join=some v:=Option.some.inj h
   cases e2:σ[j]? with
   | none=>rw [e2] at h'; cases h'
   | some o=>rw [e2] at h'; rw [show o=some v from h']
theorem Inv.comp {scope:Scope} {N':List Str} {nl:Nat} {fr:List Nat} (hK:di X.env.scope X.N scope N' nl fr) {pins:List (Addr × Obj)} {σ:St} {H2:Hp} {s2:Shared} {fp:List Addr} {C:Addr} {h1:Heap} {tk:Nat} {m1:Str->Option Value} (I2:Inv X pins σ H2 s2)
  (f2:∀ b∈fp,iH X pins H2 b) (fl:∀ b∈fp,b<s2.heap.objs.size) (hC:s2.heap.objs.size<=C) (old:∀ b o,s2.heap.get? b=some o->h1.get? b=some o) (hn:h1.Ns C m1) :
  Inv (X.comp scope N' fp s2 H2 C) [] (gT nl fr σ) H2 { s2 with heap:=h1,toks:=tk }:=by
 have ok:=Cx.Ok.comp hK I2 f2 fl hC
 have lk:∀ x c,(dI X.env scope.names []).lookup x=some c->X.env.cells.lookup x=some c:=fun x c e=>by
  rcases eI _ _ e with z | ⟨⟨p,hp,e1,e2⟩,e3⟩
  ·simp at z
  ·obtain ⟨c',hc'⟩:=I2.ok.has x (by
    rw [<-e1]
    rcases hK.free p hp e2 with z | z
    ·exact .inl z
    ·exact .inr z)
   rw [hc'] at e3
   rw [hc',e3]
   rfl
 have cellK:∀ c v,s2.heap.IsCell c v->h1.IsCell c v:=fun c v ⟨o,ho,hd⟩=>⟨o,old c o ho,hd⟩
 refine ⟨ok,rfl,I2.bare,Un.kept old,⟨m1,hn,fun i x v e1 e2 e3 => ?_⟩,fun x c e => ?_,I2.hok.fresh hC,fun x c e=>I2.freeC x c (lk x c e),fun p hp=>(nomatch hp),I2.hok.kept old,?_⟩
 ·obtain ⟨k,j,rfl,ej,ev⟩:=sD e2
  have e4:(N'.drop nl)[k]?=some x:=by rw [List.getElem?_drop]; exact e1
  have e5:X.N[j]?=some x:=by
   have z:=congrArg (fun l=>l[k]?) hK.outs
   simp only [List.getElem?_map,e4,ej,Option.map_some] at z
   exact (Option.some.inj z).symm
  have hx:=hK.seen x (List.mem_of_getElem? e4)
  have hk:=hK.free _ (bI hx) rfl
  obtain ⟨m,_,hl⟩:=I2.loc
  obtain ⟨u,r,l⟩:=hl j x v e5 ev (hk.elim (fun z=>.inr (.inl z)) fun z=>.inr (.inr z))
  refine ⟨u,r,.inr ⟨?_,?_⟩⟩
  ·have z:=dh (env:=X.env) hx
   rw [<-cO] at z
   have z':(bG X.env (x,NameKind.free)).2=.cell\/(bG X.env (x,NameKind.free)).2=.free:=by
    unfold bG
    split
    ·exact .inl rfl
    ·exact .inr rfl
   rcases z' with q | q
   ·rw [q] at z; exact .inl z
   ·rw [q] at z; exact .inr z
  ·obtain ⟨c,hc⟩:=jV (env:=X.env) scope.names [] (bI hx)
   refine ⟨c,hc,?_⟩
   rcases l with ⟨k1,_⟩ | ⟨_,c',hc',hv⟩
   ·have k1':X.env.scope.names.lookup x=some .local:=k1
    rcases hk with z | z
    ·rw [k1'] at z; cases z
    ·rw [k1'] at z; cases z
   ·rw [lk x c hc] at hc'
    cases hc'
    exact cellK c _ hv
 ·obtain ⟨v,q⟩:=I2.cell x c (lk x c e)
  exact ⟨v,cellK c v q⟩
 ·show (gT nl fr σ).length=N'.length
  unfold gT
  rw [hK.own,List.length_append,List.length_replicate,List.length_map]
theorem gU {elt iter:Expr} {ifs:List Expr} {scope:Scope} {pos:Pos} {N':List Str} {nl:Nat} {fr:List Nat} {g:TG} {ti:TT} {te:TE} {fin:List V->Hp->Prop} {E:Value->Shared->Prop} {RR:Value->Addr->Result->Shared->Prop}
  (hK:di X.env.scope X.N scope N' nl fr) (hc:X.calm=true) (hg:∀ fp s2 H2 C,PG (X.comp scope N' fp s2 H2 C) tg g) (ht:∀ fp s2 H2 C,PTs (X.comp scope N' fp s2 H2 C) ifs ti) (he:∀ fp s2 H2 C,PE (X.comp scope N' fp s2 H2 C) elt te)
  {pins:List (Addr × Obj)} {σ:St} {s2:Shared} {itv:Value}
  (h2:PIE X pins σ tg (fun J H1=>∃ W:Nat->Nat->St->List V->Hp->Prop,(∃ m,W 0 m (gT nl fr σ) [] H1)/\∀ i m τ vs H,W i m τ vs H ->
   vs.length<=sizeLine/\((J.stop i H/\fin vs H)\/(J.go i H/\∀ x H',J.yld i H x H'->g x τ H' fun τ2 H2=>ti τ2 H2 fun b H3 =>
    if b=true then te τ2 H3 fun y H4=>∃ m',m'<m/\W (i+1) m' τ2 (vs++[y]) H4 else ∃ m',m'<m/\W (i+1) m' τ2 vs H3))) itv s2)
  (hRR:∀ (D C:Addr) (s':Shared) (vs:List V) (H':Hp) (m:Str->Option Value),H' D=none->fin vs H'->Inv X pins σ (upd H' D (.lst vs)) s'->s'.heap.Ns C m->iH X pins (upd H' D (.lst vs)) C->RR (.ref D) C (.ok .next) s') :
  wpAny (model X.prog X.w) X.A (newList []) (fun acc s3=>wpAny (model X.prog X.w) X.A (newFunctionEnv scope X.env.globals (dI X.env scope.names []) [] X.env.qual none .none (some X.env)) (fun cenv s4 =>
   codeAny (model X.prog X.w) X.A (.compStart (.ListComp elt [⟨tg,iter,ifs,0⟩] scope pos) 0 itv acc { cenv with scope:=relabel scope X.env }) (RR acc cenv.locals) s4) E s3) E s2:=by
 obtain ⟨it,fp,tn,J,H2,e,I2,T,st2,f2,W,⟨m0,w0⟩,turn⟩:=h2
 subst e
 have fl:∀ b∈fp,b<s2.heap.objs.size:=fun b hb=>by
  obtain ⟨o,e,_⟩:=T.obj _ _ st2 b hb
  exact Heap.lt_size e
 refine wpAny_newObj_type (wpAny_newFunctionEnv hK.cell (fun y hy=>(nomatch hy)) (fun h1 hns1 hsb1 => ?_) hK.kind)
 dsimp only at hns1 hsb1 ⊢
 generalize hP:s2.heap.push { cls:=.type "list",dict:=none,data:=.seq ([]:List Value).toArray }=P1 at hns1 hsb1 ⊢
 have eC:P1.objs.size=s2.heap.objs.size+1:=by rw [<-hP,Heap.size_push]
 have hDC:s2.heap.objs.size≠P1.objs.size:=by rw [eC]; exact Nat.ne_of_lt (Nat.lt_succ_self _)
 have hCle:s2.heap.objs.size<=P1.objs.size:=by rw [eC]; exact Nat.le_succ _
 have old:∀ b o,s2.heap.get? b=some o->h1.get? b=some o:=fun b o e =>
  hsb1.extBut b o (by rw [eC]; exact Nat.ne_of_lt (Nat.lt_succ_of_lt (Heap.lt_size e))) (Heap.get?_push_of_some _ (hP ▸ Heap.get?_push_of_some _ e))
 have hacc:h1.get? s2.heap.objs.size=some (ez []):=hsb1.extBut _ _ hDC (Heap.get?_push_of_some _ (hP ▸ Heap.get?_push_size _ rfl))
 have hDH:H2 s2.heap.objs.size=none:=I2.hok.fresh (Nat.le_refl _)
 generalize hCe:P1.objs.size=C at hns1 hsb1 hDC hCle ⊢
 generalize hDe:s2.heap.objs.size=D at hDC hacc hDH ⊢
 have hDle:s2.heap.objs.size<=D:=by rw [hDe]; exact Nat.le_refl _
 have nfD:∀ b∈fp,b≠D:=fun b hb=>Nat.ne_of_lt (Nat.lt_of_lt_of_le (fl b hb) hDle)
 have I1:Inv (X.comp scope N' fp s2 H2 C) [] (gT nl fr σ) H2 { s2 with heap:=h1,toks:=s2.toks+([]:List (Str × Value)).length }:=I2.comp hK f2 fl hCle old hns1
 have okX:=I1.ok
 have fpX:∀ {H:Hp} {pl:List (Addr × Obj)},(∀ b∈fp,H b=none)->(∀ p∈pl,∀ b∈fp,p.1≠b)->∀ b∈fp,iH (X.comp scope N' fp s2 H2 C) pl H b:=fun {H pl} hn hp b hb =>
  ⟨hn b hb,(okX.exf b hb).1,okX.exfs b hb,.inl hb,(okX.exf b hb).2,fun p z=>hp p (by simpa using z) b hb⟩
 have nDs:D ∉ (X.comp scope N' fp s2 H2 C).fs:=fun z=>by
  obtain ⟨_,o,ho,_⟩:=I2.stack.mem z
  exact absurd (Nat.lt_of_lt_of_le (Heap.lt_size ho) hDle) (Nat.lt_irrefl _)
 have ndat:∀ (ys:List Value) v,(ez ys).data≠.cell v:=fun ys v z=>(nomatch z)
 have cnD:∀ x c,(X.comp scope N' fp s2 H2 C).env.cells.lookup x=some c->c≠D:=fun x c e z=>by
  obtain ⟨v,q⟩:=I1.cell x c e
  have hfc:=I1.freeC x c e
  obtain ⟨o,ho,hd⟩:=q
  rw [z] at ho
  have ho':h1.get? D=some o:=ho
  rw [hacc] at ho'
  cases ho'
  cases hd
 have pinD:∀ {pl:List (Addr × Obj)} {τ:St} {H:Hp} {s:Shared} {ys:List Value},Inv (X.comp scope N' fp s2 H2 C) pl τ H s->H D=none->s.heap.get? D=some (ez ys)->∀ pl':List (Addr × Obj),(∀ p∈pl',p∈pl)->Inv (X.comp scope N' fp s2 H2 C) (pl'++[(D,ez ys)]) τ H s :=
  fun {pl τ H s ys} I hn hd pl' hsub=>I.eT fun p hp=>(List.mem_append.mp hp).elim (fun z=>I.pin p (List.mem_append_right _ (hsub p z))) fun z=>by
   have e:=List.mem_singleton.mp z
   subst e
   exact ⟨hd,hn,hDC,nDs,ndat ys⟩
 have loop:codeAny (model X.prog X.w) X.A (.compLoop (.ListComp elt [⟨tg,iter,ifs,0⟩] scope pos) 0 (.ref it) (.ref D) (compEnvC scope (dI X.env scope.names []) C X.env)) (RR (.ref D) C) { s2 with heap:=h1,toks:=s2.toks+([]:List (Str × Value)).length }:=by
  refine j3 (fun n s'=>∃ i τ vs ys H',Inv (X.comp scope N' fp s2 H2 C) [(D,ez ys)] τ H' s'/\tn i s'.heap/\(∀ b∈fp,H' b=none)/\Vals vs ys/\W i n τ vs H') ?_ m0
   ⟨0,gT nl fr σ,[],[],H2,pinD I1 hDH hacc [] (fun _ z=>(nomatch z)),T.keep _ _ _ st2 (fun b hb o e=>old b o e),fun b hb=>(f2 b hb).1,.nil,w0⟩
  rintro n s3 ⟨i,τ,vs,ys,H3,I3,st3,fr3,rv,w3⟩ E'
  obtain ⟨hsz,alt⟩:=turn i n τ vs H3 w3
  have pD3:=I3.pin (D,ez ys) (by simp)
  have fpo:∀ b∈fp,iH (X.comp scope N' fp s2 H2 C) [(D,ez ys)] H3 b:=fpX fr3 fun p hp b hb=>by
   rw [List.mem_singleton.mp hp]
   exact (nfD b hb).symm
  rcases alt with ⟨stop,q⟩ | ⟨go,step⟩
  ·refine thn (T.done (X.comp scope N' fp s2 H2 C) rfl rfl rfl hc i [(D,ez ys)] s3 τ H3 E' I3 fpo st3 stop) fun r s4 ⟨hr,I4⟩ => ?_
   subst hr
   have pD4:=I4.pin (D,ez ys) (by simp)
   have bs:=I4.base
   have hoD:∀ b u,H3 b=some u->b≠D:=fun b u e=>az e pD4.2.1
   have I5:Inv X pins σ (upd H3 D (.lst vs)) s4:=by
    refine I2.xa (ch:=fp) I4.os ⟨bs.keep,bs.slot,fun b o e n hx => ?_,bs.there,fun b xs e => ?_,fun b o u e => ?_,fun b ps e => ?_⟩ (fun b u e => ?_) I4.bare fun b hb=>⟨(f2 b hb).2.2.2.1,(f2 b hb).2.1,(f2 b hb).2.2.2.2⟩
    ·rw [ah (Nat.ne_of_lt (Nat.lt_of_lt_of_le (Heap.lt_size e) hDle))]
     exact bs.free b o e n hx
    ·have z:=bs.tups b xs e
     rw [ah (hoD b _ z)]
     exact z
    ·have z:=bs.frzs b o u e
     rw [ah (hoD b _ z)]
     exact z
    ·obtain ⟨more,z⟩:=bs.tbls b ps e
     refine ⟨more,?_⟩
     rw [ah (hoD b _ z)]
     exact z
    ·by_cases hb:b=D
     ·subst hb
      rw [ak] at e
      cases e
      exact ⟨hsz,ys,ys.length,rv,pD4.1⟩
     ·rw [ah hb] at e
      exact (I4.hok b u e).aX (fun _ _ _ q=>q) (fun c q=>by rw [ah (hoD c _ q)]; exact q) fun c xs q=>by rw [ah (hoD c _ q)]; exact q
   obtain ⟨m4,hm4,_⟩:=I4.loc
   exact hRR D C s4 vs H3 m4 pD4.2.1 q I5 hm4 (I2.s9 hCle (by rw [ah hDC.symm]; exact I4.free))
  ·refine thn (T.item (X.comp scope N' fp s2 H2 C) rfl rfl rfl hc i [(D,ez ys)] s3 τ H3 E' I3 fpo st3 go) fun r s4 ⟨u,hr,h4⟩ => ?_
   subst hr
   refine thn h4 fun _ s5 ⟨x,H5,I5,r5,y5,st5,fr5⟩ => ?_
   have I5':=I5.pinned (fpX fr5 fun p hp b hb=>by rw [List.mem_singleton.mp hp]; exact (nfD b hb).symm) (T.obj _ _ st5)
   refine wpAny_mono (hg fp s2 H2 C _ s5 τ H5 x u _ I5' r5 (step x H5 y5)) (fun _ s6 ⟨τ6,H6,I6,q6⟩ => ?_) fun _ _ f=>f.elim
   refine wpAny_mono (ht fp s2 H2 C _ s6 τ6 H6 _ I6 q6) (fun ok s7 ⟨H7,I7,q7⟩ => ?_) fun _ _ f=>f.elim
   have endT:∀ {H8:Hp} {s8:Shared} {vs':List V} {ys':List Value},Inv (X.comp scope N' fp s2 H2 C) (dO fp s5.heap) τ6 H8 s8->H8 D=none->s8.heap.get? D=some (ez ys')->Vals vs' ys'->(∃ m',m'<n/\W (i+1) m' τ6 vs' H8) ->
     ∃ m,m<n/\∃ i τ vs ys H',Inv (X.comp scope N' fp s2 H2 C) [(D,ez ys)] τ H' s8/\tn i s8.heap/\(∀ b∈fp,H' b=none)/\Vals vs ys/\W i m τ vs H':=fun {H8 s8 vs' ys'} I8 n8 d8 rv8 w8=>by
    obtain ⟨m',hm,w8⟩:=w8
    refine ⟨m',hm,i+1,τ6,vs',ys',H8,pinD I8 n8 d8 [] (fun _ z=>(nomatch z)),T.keep _ _ _ st5 fun b hb o e=>(I8.pin (b,o) (by simpa using dq hb e)).1,fun b hb => ?_,rv8,w8⟩
    obtain ⟨o,e,d⟩:=T.obj _ _ st5 b hb
    exact (I8.pin (b,o) (by simpa using dq hb e)).2.1
   cases ok with
   | false =>
    rw [if_neg (by decide)] at q7 ⊢
    have z:=I7.pin (D,ez ys) (by simp)
    exact endT (I7.eT fun p hp=>I7.pin p (by simp [hp])) z.2.1 z.1 rv q7
   | true =>
    rw [if_pos rfl] at q7 ⊢
    refine wpAny_mono (he fp s2 H2 C _ s7 τ6 H7 _ I7 q7) (fun yv s8 ⟨y,H8,I8,r8,q8⟩ => ?_) fun _ _ f=>f.elim
    have z:=I8.pin (D,ez ys) (by simp)
    have zl:ys.toArray.size<=sizeLine:=by
     rw [List.size_toArray,<-rv.length]
     exact hsz
    refine append_at (hsz:=zl) z.1 fun h9 sb9 d9 => ?_
    have I8':Inv (X.comp scope N' fp s2 H2 C) (dO fp s5.heap) τ6 H8 s8:=I8.eT fun p hp=>I8.pin p (by simp [hp])
    have I9:Inv (X.comp scope N' fp s2 H2 C) (dO fp s5.heap) τ6 H8 { s8 with heap:=h9 }:=I8'.turned (t':=s8.toks) (it:=D) (fun b o hb e=>(sb9.2 b hb).trans e) z.2.1 hDC (.inr hDle) cnD fun p hp e=>by
     have hp':p∈dO fp s5.heap:=by simpa using hp
     exact nfD p.1 (jb hp').1 e
    exact endT I9 z.2.1 (d9.trans (congrArg some (oW ys yv))) (Vals.append rv (.cons r8 .nil)) q8
 exact codeAny_compStart_list loop (T.self _ 0 _ _ _ (T.keep _ _ _ st2 fun b hb o e=>old b o e) loop)
noncomputable def Cd (nl:Nat) (fr:List Nat) (wi:TI) (g:TG) (ti:TT) (te:TE):TE:=fun σ H Q=>m7 nl fr wi g ti te (fun vs H'=>∀ p,H' p=none->Q (.ref p) (upd H' p (.lst vs))) σ H
theorem um {elt iter:Expr} {ifs:List Expr} {scope:Scope} {pos:Pos} {N':List Str} {nl:Nat} {fr:List Nat} {wi:TI} {g:TG} {ti:TT} {te:TE} {sc:Scope} {N:List Str} (hK:di sc N scope N' nl fr) (hc:X.calm=true) (hi:PI X tg iter wi)
  (hg:∀ fp s2 H2 C,PG (X.comp scope N' fp s2 H2 C) tg g) (ht:∀ fp s2 H2 C,PTs (X.comp scope N' fp s2 H2 C) ifs ti) (he:∀ fp s2 H2 C,PE (X.comp scope N' fp s2 H2 C) elt te) (hs:∀ x,foldedSetIterable iter X.env x=pure x:=by intro _; rfl) (hsc:X.env.scope=sc:=by rfl) (hNN:X.N=N:=by rfl) :
  PE X (.ListComp elt [⟨tg,iter,ifs,0⟩] scope pos) (Cd nl fr wi g ti te):=by
 subst hsc hNN
 intro pins s σ H Q I h
 have hclo:closureFor scope X.env=pure (dI X.env scope.names []):=dM fun p hp e=>I.ok.has p.1 (by
  rcases hK.free p hp e with z | z
  ·exact .inl z
  ·exact .inr z)
 rw [eval_ListComp]
 refine wpAny_comprehension_free (use:=none) rfl hs hclo hK.kind hK.names (thn (hi pins s σ H _ I h) fun v s1 h1=>thn h1 fun itv s2 h2 => ?_)
 refine gU (RR:=fun acc C=>compPost (model X.prog X.w) X.A X.xe none (EP X pins σ Q) acc C) hK hc hg ht he h2 fun D C s' vs H' m hD q I' hn fC => ?_
 refine ⟨m,hn,fun h' sb=>⟨.ref D,_,I'.turned (t':=s'.toks) (fun b o hb e=>(sb.2 b hb).trans e) fC.1 fC.2.1 fC.2.2.2.1 fC.2.2.2.2.1 fC.2.2.2.2.2,rfl,q D hD⟩⟩
noncomputable def nD (i nl:Nat) (fr:List Nat) (wi:TI) (g:TG) (ti:TT) (te:TE):TS:=fun D σ H=>m7 nl fr wi g ti te (fun vs H'=>∀ p,H' p=none->D.nx (σ.set i (some (.ref p))) (upd H' p (.lst vs))) σ H
theorem uY {i:Nat} {y:Str} {py spos:Pos} {elt iter:Expr} {ifs:List Expr} {scope:Scope} {pos:Pos} {N':List Str} {nl:Nat} {fr:List Nat} {wi:TI} {g:TG} {ti:TT} {te:TE} (hN:X.N.Nodup) (hy:X.N[i]?=some y) (hl:Loc X.env.scope y)
  {sc:Scope} {N:List Str} (hK:di sc N scope N' nl fr) (hc:X.calm=true) (hi:PI X tg iter wi)
  (hg:∀ fp s2 H2 C,PG (X.comp scope N' fp s2 H2 C) tg g) (ht:∀ fp s2 H2 C,PTs (X.comp scope N' fp s2 H2 C) ifs ti) (he:∀ fp s2 H2 C,PE (X.comp scope N' fp s2 H2 C) elt te)
  (hsw:swapsWith (.ListComp elt [⟨tg,iter,ifs,0⟩] scope pos) (some (.Name y py)) spos.line X.env=pure true:=by rfl) (hf:X.fn y=true\/X.env.scope.names.lookup y=some .local:=by first | exact .inl rfl | exact .inr rfl | assumption) (hs:∀ x,foldedSetIterable iter X.env x=pure x:=by intro _; rfl) (hsc:X.env.scope=sc:=by rfl) (hNN:X.N=N:=by rfl) :
  PS X (.Assign [.Name y py] (.ListComp elt [⟨tg,iter,ifs,0⟩] scope pos) spos) (nD i nl fr wi g ti te):=by
 subst hsc hNN
 intro pins s σ H D I h
 have hclo:closureFor scope X.env=pure (dI X.env scope.names []):=dM fun p hp e=>I.ok.has p.1 (by
  rcases hK.free p hp e with z | z
  ·exact .inl z
  ·exact .inr z)
 rw [exec_Assign_Name_used _ _ _ _ hsw]
 refine wpAny_bind (wpAny_standAt (wpAny_bind ?_))
 show wpAny _ X.A (do let _ <-comprehension (.ListComp elt [⟨tg,iter,ifs,0⟩] scope pos) scope X.env _ (newList []) false (eval iter X.env) (some (assign (.Name y py) X.env))) _ _ s
 refine wpAny_bind (thn (wpAny_comprehension_free (use:=some (assign (.Name y py) X.env)) (Q:=fun _ s'=>SP X pins D .next s') rfl hs hclo hK.kind hK.names
  (thn (hi pins s σ H _ I h) fun v s1 h1=>thn h1 fun itv s2 h2 => ?_)) fun _ s' q=>wpAny_pure (wpAny_pure q))
 refine gU (RR:=fun acc C=>compPost (model X.prog X.w) X.A X.xe (some (assign (.Name y py) X.env)) (fun _ s'=>SP X pins D .next s') acc C) hK hc hg ht he h2 fun L C s' vs H' m hD q I' hn fC => ?_
 refine wpAny_assign_Name (jh I' hN hy hl (v:=.ref L) rfl (fun s3 I3 ⟨a,sb,ha⟩ => ?_) hf)
 have nC:C≠a:=by
  rcases ha with e | e
  ·rw [e]; exact fC.2.1
  ·exact (fC.2.2.2.2.1 y a e).symm
 refine ⟨m,hn.sameBut sb nC,fun h' sb'=>⟨_,_,I3.turned (t':=s3.toks) (fun b o hb e=>(sb'.2 b hb).trans e) fC.1 fC.2.1 fC.2.2.2.1 fC.2.2.2.2.1 fC.2.2.2.2.2,q L hD⟩⟩
end
end L2
namespace L2
open PySem PySem.Spec PyProof.Rows
section
variable {X:Cx} {x:Str} {k:Nat} {ps:List Str} {sp:Sp} {e:Expr} {es:List Expr} {t:TA} {p pos:Pos}
end
section
variable {X:Cx}
noncomputable def DD (i j:Int):Prop:=0<=j/\(Builtin.Int.intBits i:Int)+j<=134217728
theorem u6:OpR X (binaryOp .LShift) (rI DD fun i j=>.int (i * 2 ^ j.toNat)):=opI fun _ _ _ _ _ _ _ hc q=>lshift_int hc.1 hc.2 q
theorem vS:OpR X (binaryOp .Mult) (rI IntMulOk fun i j=>.int (i * j)):=opI fun _ _ _ _ _ _ _ hc q=>mul_int q hc
noncomputable def vG:V->Option Value
 | .ty n=>some (.type n)
 | .ref a=>some (.ref a)
 | _=>none
theorem kX:bR X (.builtin "isinstance") (fun xs H Q=>∃ x c cv t b,xs=[x,c]/\eM X.K H x t/\vG c=some cv/\PySem.W.kitOne X.K t cv=some b/\Q (.bl b) H):=by
 intro pins s σ H xs us Q I r h
 obtain ⟨x,c,cv,t,b,rfl,ty,hc,hk,q⟩:=h
 obtain ⟨u,w',rfl,rx,rc⟩:=vals2 r
 have e:w'=cv:=by
  cases c with
  | ty n=>cases (show w'=Value.type n from rc); exact Option.some.inj hc
  | ref a=>cases (show w'=Value.ref a from rc); exact Option.some.inj hc
  | _=>cases hc
 subst e
 exact pG I rx ty hk fun tk=>⟨.bl b,H,I.tok tk,rfl,q⟩
end
section
variable {X:Cx}
end
theorem aK.new {H:Hp} {p:Addr} (h:H p=none) (o:HO):aK H (upd H p o):=fun b u q=>by rw [ah (az q h)]; exact q
theorem Ez (K:PySem.W.Frag):PySem.W.kitOne K (.type "list") (.type "list")=some true:=by
 unfold PySem.W.kitOne
 rw [if_pos (by decide)]
theorem EA (K:PySem.W.Frag):PySem.W.kitOne K (.type "int") (.type "int")=some true:=by
 unfold PySem.W.kitOne
 rw [if_pos (by decide)]
theorem EW (K:PySem.W.Frag):PySem.W.kitOne K (.type "bool") (.type "bool")=some true:=by
 unfold PySem.W.kitOne
 rw [if_pos (by decide)]
theorem Fh (K:PySem.W.Frag):PySem.W.kitOne K (.type "int") (.type "bool")=some false:=by
 unfold PySem.W.kitOne
 rw [if_neg (by decide)]
 show (if PySem.W.kitMeta "bool" = true then PySem.W.subIn K (.type "int") (.type "bool") else none)=some false
 rw [if_pos (by kernel_rfl)]
 show (fastBuiltinMro "int").map (·.contains (Value.type "bool"))=some false
 kernel_rfl
end L2
namespace L2
open PySem PySem.Spec PyProof.Rows
section
variable {X:Cx} {pins:List (Addr × Obj)} {σ:St} {H:Hp} {s:Shared} {h':Heap}
end
section
variable {X:Cx}
end
end L2
namespace L2
open PySem PySem.Spec PyProof.Rows
noncomputable def Its (lo c:Int) (n:Nat):It:=⟨fun i _=>i<n,fun i H x H'=>H'=H/\x=.int (lo+i * c),fun i _=>n<=i⟩
theorem lM {P:Program} {w:World} {K:PySem.W.Frag} {tg:Expr} (it:Addr) (lo c:Int) (n:Nat):Turn P w K tg (Its lo c n) [it] it (fun i h=>IsRangeIter h it (lo+(i:Nat) * c) ((n:Int) - (i:Nat)) c) where
 mem:=by simp
 obj:=fun i h st b hb=>by
  have e:b=it:=by simpa using hb
  subst e
  exact ⟨_,st,fun v z=>by
   have z':Data.fields _=Data.cell v:=z
   cases z'⟩
 keep:=fun i h h' st k=>k it (by simp) _ st
 item:=by
  intro X hP hw hK hc i pins s σ H E I hf st hg
  subst hP hw hK
  obtain ⟨f0,f1,f2,f3,f4,f5⟩:=hf it (by simp)
  refine (Walks.range (prog:=X.prog) (w:=X.w) (I.ok.hd hc) it lo c n).item i s _ _ hg st fun v h' tk hv st' kk => ?_
  obtain ⟨t,rfl⟩:=hv
  have I1:Inv X pins σ H { s with heap:=h',toks:=tk }:=I.turned (fun b o hb e=>kk b o (by simpa using hb) e) f0 f1 f3 f4 f5
  exact ⟨_,rfl,gh (s:={ s with heap:=h',toks:=tk }) (n := "range_iterator") st' rfl rfl (by decide) ⟨.int (lo+i * c),H,I1,⟨t,rfl⟩,⟨rfl,rfl⟩,st',fun b hb=>(hf b hb).1⟩⟩
 done:=by
  intro X hP hw hK hc i pins s σ H E I hf st hg
  subst hP hw hK
  obtain ⟨f0,f1,f2,f3,f4,f5⟩:=hf it (by simp)
  exact wpAny_pyNext_range_end (I.ok.hd hc) st (by have:n<=i:=hg; omega) fun h' eb=>⟨rfl,I.turned (t':=s.toks) (fun b o hb e=>eb b o hb e) f0 f1 f3 f4 f5⟩
 self:=fun _ _ _ _ _ st h=>wpAny_pyIter_rangeiter st h
section
variable {X:Cx} {tg:Expr}
noncomputable def AU (ta:TA):TI:=fun σ H R=>ta σ H fun vs H1=>∃ (i j c:Int) (n:Nat),vs=[.int i,.int j,.int c]/\c≠0/\c.natAbs<1073741824/\Builtin.Range.small i j c=true/\Builtin.Range.rangeSize i j c=(n:Int)/\R (Its i c n) H1
theorem oR {a b c:Expr} {ta:TA} {p pos:Pos} (hg:Gl X "range") (hm:X.mg "range" = none) (ha:PA X [a,b,c] ta) (hs:starEach [a,b,c] X.env=(false,eval a X.env)::starEach [b,c] X.env:=by rfl)
  (hs2:(backTo pos (starEach [b,c] X.env)).any (·.1)=false:=by rfl):PI X tg (.Call (.Name "range" p) [a,b,c] [] pos) (AU ta):=by
 intro pins s σ H R I h
 refine Call_ (eO I hg hm boot_range (PyProof.Rows.callWith_type1 (thn (ha pos pins s σ H _ I h) fun us s1 ⟨vs,H1,I1,r1,q1⟩ => ?_) hs hs2))
 obtain ⟨i,j,k,n,e,hk,hk2,hsm,hsz,q⟩:=q1
 subst e
 cases r1 with
 | cons r rr =>
  cases rr with
  | cons r' rr =>
   cases rr with
   | cons r'' rr =>
    cases rr
    obtain ⟨t,rfl⟩:=r
    obtain ⟨t',rfl⟩:=r'
    obtain ⟨t'',rfl⟩:=r''
    refine call_range_3 hk ?_ (.inl (PyProof.noPylong_small hk2))
    have I2:Inv X pins σ H1 { s1 with heap:=s1.heap.push { cls:=.type "range",data:=.fields #[.int i t,.int j t',.int k t''] },toks:=s1.toks }:=I1.kept fun b o e=>Heap.get?_push_of_some _ e
    refine wpAny_pyIter_range (IsRange.new ..) hsm ?_
    refine ⟨_,[(s1.heap.push { cls:=.type "range",data:=.fields #[.int i t,.int j t',.int k t''] }).objs.size],_,_,H1,rfl,I2.kept (t':=s1.toks) fun b o e=>Heap.get?_push_of_some _ e,lM _ i k n,?_,fun b hb => ?_,q⟩
    ·show IsRangeIter _ _ (i+((0:Nat):Int) * k) ((n:Int) - ((0:Nat):Int)) k
     rw [show i+((0:Nat):Int) * k=i by simp,show (n:Int) - ((0:Nat):Int)=Builtin.Range.rangeSize i j k by rw [hsz]; simp]
     exact Heap.get?_push_size _ rfl
    ·have e:b=(s1.heap.push { cls:=.type "range",data:=.fields #[.int i t,.int j t',.int k t''] }).objs.size:=by simpa using hb
     subst e
     exact I2.s9 (Nat.le_refl _) (I2.hok.fresh (Nat.le_refl _))
end
end L2
namespace L2
open PySem PySem.Spec PyProof.Rows
section
variable {X:Cx} {x m:Str} {C:Addr} {k:Nat} {ps:List Str} {sp:Sp} {o e:Expr} {es:List Expr} {ta:TE} {t:TA} {p pos apos:Pos}
end
section
variable {X:Cx} {e:Expr} {ta:TE} {f:Str} {pos:Pos}
end
end L2
namespace L2
open PySem PySem.Spec PyProof.Rows
section
variable {prog:Program} {w:World} {A:Around} {E:Value->Shared->Prop} {s:Shared}
end
end L2
namespace L2
open PySem PySem.Spec PyProof.Rows
section
variable {X:Cx}
end
section
variable {X:Cx} {tg:Expr}
end
end L2
namespace L2
open PySem PySem.Spec PyProof.Rows
section
variable {X:Cx} {a b c d:Expr} {ta tb tc td:TE} {pos:Pos}
end
section
variable {X:Cx}
end
end L2
namespace L2
open PySem PySem.Spec PyProof.Rows
section
variable {prog:Program} {w:World} {A:Around} {E:Value->Shared->Prop} {s:Shared} {z TI TO i1 i2:Addr} {f1 f2:List Addr} {n1 n2 k:Nat} {P1 P2:Nat->Value->Prop} {S1 S2:Nat->Heap->Prop} {a b:Value}
end
section
variable {prog:Program} {w:World} {A:Around} {E:Value->Shared->Prop} {s:Shared} {z TI TO i1 i2:Addr} {f1 f2:List Addr} {n1 n2 k:Nat} {P1 P2:Nat->Value->Prop} {S1 S2:Nat->Heap->Prop} {a b:Value}
end
end L2
namespace L2
open PySem PySem.Spec PyProof.Rows
mutual
inductive Dat (H:Hp):V->PyData->Prop
 | non:Dat H .non .none
 | bl (b:Bool):Dat H (.bl b) (.bool b)
 | int (i:Int):Dat H (.int i) (.int i)
 | str (x:Str):Dat H (.str x) (.str x)
 | lst {a:Addr} {xs:List V} {ds:List PyData}:H a=some (.lst xs)->DatAll H xs ds->Dat H (.ref a) (.list ds)
 | tup {a:Addr} {xs:List V} {ds:List PyData}:H a=some (.tup xs)->DatAll H xs ds->Dat H (.ref a) (.tuple ds)
inductive DatAll (H:Hp):List V->List PyData->Prop
 | nil:DatAll H [] []
 | cons {x:V} {d:PyData} {xs:List V} {ds:List PyData}:Dat H x d->DatAll H xs ds->DatAll H (x::xs) (d::ds)
end
section
variable {X:Cx} {pins:List (Addr × Obj)} {σ:St} {H:Hp} {s:Shared}
mutual
theorem Dat.reads (I:Inv X pins σ H s):∀ {x:V} {d:PyData} {u:Value},Dat H x d->RelV x u->∃ as,Reads s.heap u d as
 | _,_,_,.non,r=>⟨[],by cases r; exact .none⟩
 | _,_,_,.bl b,r=>⟨[],by cases r; exact .bool b⟩
 | _,_,_,.int i,r=>⟨[],by obtain ⟨t,rfl⟩:=r; exact .int i t⟩
 | _,_,_,.str x,r=>⟨[],by obtain ⟨t,rfl⟩:=r; exact .str x t⟩
 | _,_,_,.lst h hd,r=>by
  cases r
  obtain ⟨its,rv,p,_⟩:=I.list (SqL.of h)
  obtain ⟨as,ra⟩:=DatAll.reads I hd rv
  obtain ⟨o,ho,hc,n,hdt⟩:=p.isList
  exact ⟨_,.list ho hc hdt (by simpa using ra)⟩
 | _,_,_,.tup h hd,r=>by
  cases r
  obtain ⟨its,rv,p,_⟩:=I.tuple (SqT.of h)
  obtain ⟨as,ra⟩:=DatAll.reads I hd rv
  obtain ⟨o,ho,hc,n,hdt⟩:=p
  exact ⟨_,.tuple ho hc hdt (by simpa using ra)⟩
theorem DatAll.reads (I:Inv X pins σ H s):∀ {xs:List V} {ds:List PyData} {us:List Value},DatAll H xs ds->Vals xs us->∃ as,ReadsAll s.heap us ds as
 | _,_,_,.nil,r=>⟨[],by cases r; exact .nil⟩
 | _,_,_,.cons h hd,r=>by
  cases r with
  | cons r1 rr =>
   obtain ⟨as,ra⟩:=Dat.reads I h r1
   obtain ⟨bs,rb⟩:=DatAll.reads I hd rr
   exact ⟨_,.cons ra rb⟩
end
end
mutual
theorem mU:∀ d:PyData,d.canLay0=true->SeqAt.noMix d d=true
 | .none,_=>rfl
 | .bool b,_=>rfl
 | .int i,_=>rfl
 | .str x,_=>rfl
 | .list xs,h=>by
  simp only [SeqAt.noMix]
  exact cQ xs h
 | .tuple xs,h=>by
  simp only [SeqAt.noMix]
  exact cQ xs h
 | .dict _,h=>by cases h
theorem cQ:∀ ds:List PyData,PyData.canLayAll0 ds=true->SeqAt.noMixAll ds ds=true
 | [],_=>rfl
 | d::ds,h=>by
  have h':(d.canLay0&&PyData.canLayAll0 ds)=true:=h
  rw [Bool.and_eq_true] at h'
  simp only [SeqAt.noMixAll]
  rw [mU d h'.1,cQ ds h'.2]
  rfl
end
section
variable {X:Cx}
end
end L2
namespace L2
open PySem PySem.Spec PyProof.Rows
section
variable {prog:Program} {w:World} {A:Around} {E:Value->Shared->Prop} {s:Shared}
end
section
variable {X:Cx}
end
end L2
namespace L2
open PySem PySem.Spec PyProof.Rows
section
variable {X:Cx}
theorem nX {ns:List Int} {its:List Value} (r:Vals (ns.map V.int) its) {z:Int} {m:Nat} (h1:m<its.length) (h2:m<ns.length):eqU (.int z) its[m]=decide (ns[m]=z):=by
 obtain ⟨u,hu,ru⟩:=r.get (i:=m) (x:=.int ns[m]) (by rw [List.getElem?_map,List.getElem?_eq_getElem h2]; rfl)
 rw [List.getElem?_eq_getElem h1] at hu
 cases hu
 rw [md ru rfl]
 show (ns[m] == z)=decide (ns[m]=z)
 by_cases h:ns[m]=z <;> simp [h]
theorem kD:MtM X "list.index" (fun x vs H Q=>∃ (l:Addr) (ns:List Int) (z:Int) (j:Nat),x=.ref l/\vs=[.int z]/\H l=some (.lst (ns.map V.int))/\ns[j]?=some z/\(∀ m,m<j->ns[m]?≠some z)/\Q (.int (j:Int)) H):=by
 intro pins s σ H x vs v us Q I rx rv h
 obtain ⟨l,ns,z,j,rfl,rfl,hH,hj,hno,q⟩:=h
 cases rx
 obtain ⟨u,rfl,ru⟩:=rv.one
 obtain ⟨zs,its,n,r,hl,e⟩:=I.oX hH
 rw [List.length_map] at hl
 have hjn:j<ns.length:=(List.getElem?_eq_some_iff.mp hj).1
 have hz:its.length<=sizeLine:=by rw [<-hl,<-List.length_map (f:=V.int)]; exact zs
 have l63:=eK
 have fl:(ns.map V.int).all dP=true:=by
  rw [List.all_eq_true]
  intro y hy
  obtain ⟨i,_,rfl⟩:=List.mem_map.mp hy
  rfl
 refine call_meets F.slot_list_index ⟨_,e,rfl⟩ F.entry_list_index (F.args_list_index_2 _ _) (SeqAt.list_indexAt l its.toArray n _ _ u (eqU (.int z)) j (by rw [List.size_toArray]; omega) (by omega) ?_ ?_) ⟨e,fun y hy=>da ru rfl r fl y (by simpa using hy),?_⟩
 ·have:=nX r (z:=z) (m:=j) (by omega) hjn
  rw [List.getElem?_eq_getElem hjn] at hj
  rw [Option.some.inj hj,decide_eq_true rfl] at this
  simpa using this
 ·intro m hm hmj
  rw [List.size_toArray] at hm
  have:=nX r (z:=z) (m:=m) hm (by omega)
  have ne:ns[m]'(by omega)≠z:=fun q=>hno m hmj (by rw [List.getElem?_eq_getElem (by omega),q])
  rw [decide_eq_false ne] at this
  simpa using this
 ·exact ⟨.int (j:Int),H,I.tok _,⟨_,rfl⟩,q⟩
end
theorem vP (z:Int) (ns:List Int):inV (.int z) (ns.map V.int)=decide (z∈ns):=by
 unfold inV
 rw [Bool.eq_iff_iff,List.any_eq_true,decide_eq_true_iff]
 constructor
 ·rintro ⟨y,hy,h⟩
  obtain ⟨i,hi,rfl⟩:=List.mem_map.mp hy
  have h':i=z:=eq_of_beq (show (i == z)=true from h)
  rw [<-h']
  exact hi
 ·intro h
  refine ⟨.int z,List.mem_map.mpr ⟨z,h,rfl⟩,?_⟩
  show (z == z)=true
  exact beq_self_eq_true z
end L2
namespace L2
open PySem PySem.Spec PyProof.Rows
structure Fls (P:Program) (w:World) (st:List Addr) (l:List Env) (H H':Hp) (s s':Shared) (a:Addr) (cls a0:Value) (B:Heap):Prop where
 os:s'.os=s.os
 bare:AllBare s'.gens
 un:Un st [] H H' s.heap s'.heap
 hok:HOk P w H' s'.heap
 fly:Heap.FlyingW B l a cls a0 s'.heap
 trk:∀ b u,H' b=some u->∃ o,B.get? b=some o
 old:∀ b o,s.heap.get? b=some o->b ∉ st->H b=none->B.get? b=some o
 all:∀ b o,s.heap.get? b=some o->b ∉ st->∃ o',B.get? b=some o'
noncomputable def CXE (P:Program) (w:World):CXT:=fun outer H s E e s' =>
 ∃ (a:Addr) (cls a0:Value) (B:Heap) (H':Hp),e=.ref a/\Fls P w (frs outer) outer H H' s s' a cls a0 B/\E cls none H'
theorem aE.here {P:Program} {w:World} {H:Hp} {h:Heap} {a:Addr} {o:HO} (x:aE P w H h a o):∃ o',h.get? a=some o':=by
 cases o with
 | lst xs=>obtain ⟨_,_,_,_,e⟩:=x; exact ⟨_,e⟩
 | tup xs=>obtain ⟨_,_,_,p⟩:=x; obtain ⟨o,e,_⟩:=p; exact ⟨_,e⟩
 | dK kvs=>obtain ⟨_,_,_,_,o,_,_,e,_⟩:=x; exact ⟨_,e⟩
 | dT kvs=>obtain ⟨_,_,_,_,o,_,_,e,_⟩:=x; exact ⟨_,e⟩
 | set S n=>obtain ⟨o,_,_,_,e,_⟩:=x; exact ⟨_,e⟩
 | ins C dx fs=>obtain ⟨_,_,_,e,_⟩:=x; exact ⟨_,e⟩
 | own y=>obtain ⟨_,e⟩:=x; exact ⟨_,e⟩
 | xd fs=>obtain ⟨_,⟨_,_,_,e,_⟩,_⟩:=x; exact ⟨_,e⟩
 | rng lo hi=>obtain ⟨_,_,_,e⟩:=x; exact ⟨_,e⟩
 | frz ob u=>obtain ⟨e,_⟩:=x; exact ⟨_,e⟩
 | tbl ps=>exact ⟨_,show h.get? a=some _ from x⟩
 | met f y=>exact ⟨_,show h.get? a=some _ from x⟩
 | ext φ=>obtain ⟨_,⟨_,e⟩,_⟩:=x; exact ⟨_,e⟩
theorem yV {fs st:List Addr} {H0 H H':Hp} {h0 h1 h2:Heap} (u:Un fs [] H0 H h0 h1) (v:Un st [] H H' h1 h2) (hst:∀ b∈st,b∈fs\/h0.get? b=none):Un fs [] H0 H' h0 h2 where
 keep:=fun b o q n hb hx=>v.keep b o (u.keep b o q n hb hx) (u.free b o q n hx) (fun z=>(hst b z).elim hb fun e=>by rw [q] at e; cases e) hx
 slot:=fun b o q n hb hx=>by
  obtain ⟨sl,e1⟩:=u.slot b o q n hb hx
  obtain ⟨sl',e2⟩:=v.any e1 (u.free b o q n hx) hx
  exact ⟨sl',e2⟩
 free:=fun b o q n hx=>by
  obtain ⟨o',e1⟩:=u.there b o q hx
  exact v.free b o' e1 (u.free b o q n hx) hx
 there:=fun b o q hx=>by
  obtain ⟨o',e1⟩:=u.there b o q hx
  exact v.there b o' e1 hx
 tups:=fun b xs q=>v.tups b xs (u.tups b xs q)
 frzs:=fun b o xs q=>v.frzs b o xs (u.frzs b o xs q)
 tbls:=fun b ps q=>by
  obtain ⟨m1,e1⟩:=u.tbls b ps q
  obtain ⟨m2,e2⟩:=v.tbls b _ e1
  exact ⟨m1++m2,by rw [e2,Array.append_assoc]⟩
section
variable {P:Program} {w:World} {l l' l0:List Env} {H H':Hp} {s s':Shared} {a:Addr} {cls a0:Value} {B h':Heap}
theorem jl (hok:HOk P w H' s'.heap) (trk:∀ b u,H' b=some u->∃ o,B.get? b=some o) (k0:B.StaysIn s'.heap) (k1:B.StaysIn h'):HOk P w H' h':=fun b u e=>by
 refine (hok b u e).aX (fun c v hc q => ?_) (fun _ q=>q) fun _ _ q=>q
 have ht:∃ u',H' c=some u':=by
  rcases hc with z | z
  ·rw [z]; exact ⟨u,e⟩
  ·exact ⟨_,z⟩
 obtain ⟨u',eu⟩:=ht
 obtain ⟨o,ho⟩:=trk c u' eu
 have:=k0 c o ho
 rw [q] at this
 cases this
 exact k1 c v ho
theorem Fls.move (F:Fls P w (frs l0) l H H' s s' a cls a0 B) (hl:s'.heap.FunFrames B l0) (fly:Heap.FlyingW B l' a cls a0 h') (sm:s'.heap.UpToSlots h'):Fls P w (frs l0) l' H H' s { s' with heap:=h' } a cls a0 B where
 os:=F.os
 bare:=F.bare
 un:=by
  refine ⟨fun b o q n hb _=>fly.1 b o (F.old b o q hb n),fun b o q n hb hx => ?_,fun b o q n hx=>F.un.free b o q n hx,fun b o q hx => ?_,F.un.tups,F.un.frzs,F.un.tbls⟩
  ·obtain ⟨sl,e1⟩:=F.un.slot b o q n hb hx
   obtain ⟨_,o',e2,nf⟩:=hl.mem hb
   rw [e1] at e2
   cases e2
   obtain ⟨sl',e3⟩:=sm b _ e1 nf
   exact ⟨sl',e3⟩
  ·by_cases hb:b∈frs l0
   ·obtain ⟨_,o',e2,nf⟩:=hl.mem hb
    obtain ⟨sl',e3⟩:=sm b _ e2 nf
    exact ⟨_,e3⟩
   ·obtain ⟨o',e⟩:=F.all b o q hb
    exact ⟨o',fly.1 b o' e⟩
 hok:=jl F.hok F.trk F.fly.1 fly.1
 fly:=fly
 trk:=F.trk
 old:=F.old
 all:=F.all
variable {X:Cx} {pins:List (Addr × Obj)} {σ:St}
theorem Fls.out (I:Inv X pins σ H s) (hex:X.ex=[]) (hs:X.stack=X.env::X.outer) (hf:X.env.frame=some X.env.locals) (F:Fls P w (frs X.stack) l H H' s s' a cls a0 B):Fls P w X.fs l X.H₀ H' X.s₀ s' a cls a0 B:=by
 have ub:Un X.fs [] X.H₀ H X.s₀.heap s.heap:=by have:=I.base; rw [hex] at this; exact this
 have hst:∀ b∈frs X.stack,b∈X.fs\/X.s₀.heap.get? b=none:=fun b hb=>by
  rcases List.mem_cons.mp (I.jP b hb) with z | z
  ·exact .inr (by rw [z]; exact Heap.get?_none_of_le I.ok.above)
  ·exact .inl z
 have nst:∀ b o,X.s₀.heap.get? b=some o->b ∉ X.fs->b ∉ frs X.stack:=fun b o q hb z=>(hst b z).elim hb fun e=>by rw [q] at e; cases e
 refine ⟨F.os.trans I.os,F.bare,yV ub F.un hst,F.hok,F.fly,F.trk,fun b o q hb n=>F.old b o (ub.keep b o q n hb (by simp)) (nst b o q hb) (ub.free b o q n (by simp)),fun b o q hb => ?_⟩
 obtain ⟨o',e1⟩:=ub.there b o q (by simp)
 exact F.all b o' e1 (nst b o q hb)
theorem qP {M:Model} {vs:List Value} {Q:Unit->Shared->Prop} {E:Value->Shared->Prop} (I:Inv X pins σ H s) (hs:X.stack=X.env::X.outer) (hf:X.env.frame=some X.env.locals) (hx:Heap.MadeExcOf s.heap s'.heap a cls vs) (ho:s'.os=s.os) (hg:s'.gens=s.gens)
  (hQ:∀ h' B t,Fls X.prog X.w (frs X.stack) X.outer H H s { s' with heap:=h' } a cls (.ref t) B->Q () { s' with heap:=h' }):wpAny M X.A (leaving X.env (.ref a)) Q E s':=by
 have hin:∀ env∈X.stack,∀ b,env.frame=some b->b∈frs X.stack:=fun env he b hb=>List.mem_filterMap.mpr ⟨env,he,hb⟩
 have hB:(PySem.W.hideAll s.heap (frs X.stack)).StaysIn s.heap:=fun b o q=>PySem.W.of_hideAll _ q
 have hF:s.heap.FunFrames (PySem.W.hideAll s.heap (frs X.stack)) X.stack:=PySem.W.funFrames_hide I.stack hin
 have kp:∀ b o,s.heap.get? b=some o->b ∉ frs X.stack->(PySem.W.hideAll s.heap (frs X.stack)).get? b=some o:=fun b o q hb=>PySem.W.hideAll_get _ q hb
 generalize PySem.W.hideAll s.heap (frs X.stack)=B at hB hF kp
 have hfr:=I.ok.frames
 have hF':=hF
 rw [hs] at hfr hF
 refine wpAny_leaves_madeW hfr hf hB hF hx fun h' t x1 x2 x3 x4=>hQ h' B t ?_
 have tr:∀ b u,H b=some u->∃ o,B.get? b=some o:=fun b u e=>by
  have hb:b ∉ frs X.stack:=fun z=>by rw [I.j0 b z] at e; cases e
  obtain ⟨o,q⟩:∃ o,s.heap.get? b=some o:=(I.hok b u e).here
  exact ⟨o,kp b o q hb⟩
 refine ⟨ho,by show AllBare s'.gens; rw [hg]; exact I.bare,?_,jl (s':=s) I.hok tr hB x1.1,x1,tr,fun b o q hb _=>kp b o q hb,fun b o q hb=>⟨o,kp b o q hb⟩⟩
 ·refine ⟨fun b o q n hb _=>x1.1 b o (kp b o q hb),fun b o q n hb _ => ?_,fun b o q n _=>n,fun b o q _ => ?_,fun _ _ q=>q,fun _ _ _ q=>q,fun _ ps q=>⟨#[],by rw [q]; simp⟩⟩
  ·obtain ⟨_,o',e2,nf⟩:=hF'.mem hb
   rw [q] at e2
   cases e2
   exact x4 b o (hx.keeps b o q) nf
  ·by_cases hb:b∈frs X.stack
   ·obtain ⟨_,o',e2,nf⟩:=hF'.mem hb
    obtain ⟨sl',e3⟩:=x4 b o' (hx.keeps b o' e2) nf
    exact ⟨_,e3⟩
   ·exact ⟨o,x1.1 b o (kp b o q hb)⟩
end
noncomputable def Thr (X:Cx) (E:XK):Prop:=∀ (pins:List (Addr × Obj)) (σ:St) (H:Hp) (s s':Shared) (a:Addr) (cls:Value) (vs:List Value),Inv X pins σ H s->Heap.MadeExcOf s.heap s'.heap a cls vs->s'.os=s.os->s'.gens=s.gens->E cls none H->X.xe (.ref a) s'
section
variable {P:Program} {w:World} {K:PySem.W.Frag} {mg:Str->Option Value} {base:Heap} {N:List Str} {qual:Str} {scope:Scope} {f:Addr} {cd:Value} {A:Around} {outer:List Env} {s₀:Shared} {H₀:Hp} {E:XK}
theorem Cb:Passes (CXE P w) (eP (CXE P w) P w K mg base N qual scope f cd A outer s₀ H₀ E) E:=by
 rintro pins σ H s e s' I ⟨a,cls,a0,B,H',rfl,F,q⟩
 show wpAny (model P w) (eP (CXE P w) P w K mg base N qual scope f cd A outer s₀ H₀ E).A (leaving (eP (CXE P w) P w K mg base N qual scope f cd A outer s₀ H₀ E).env (.ref a)) _ _ s'
 exact wpAny_leaves_onW I.ok.frames rfl F.fly fun h' x1 x2=>⟨a,cls,a0,B,H',rfl,(F.move F.fly.2.2.1 x1 x2).out I rfl rfl rfl,q⟩
theorem Ey:Thr (eP (CXE P w) P w K mg base N qual scope f cd A outer s₀ H₀ E) E:=by
 intro pins σ H s s' a cls vs I hx ho hg q
 exact qP I rfl rfl hx ho hg fun h' B t F=>⟨a,cls,.ref t,B,H,rfl,F.out I rfl rfl rfl,q⟩
end
theorem tZ {K:PySem.W.Frag} {h:Heap} {C:Addr} {bmB:List Value} {newId:String} (X:K.In h) (q:PySem.W.excIn K C bmB newId=true) :
  ∃ bm N nm q bs hdct sn sub ab col dd k0 k1 k2 k3 k5 mN,h.get? C=some (excClassObj nm q C N bs bm hdct sn sub ab col dd k0 k1 k2 k3 k5 newId)/\h.Ns N mN/\mN "__init__" = none/\OwnTail h bmB bm:=by
 unfold PySem.W.excIn at q
 split at q
 case h_2=>cases q
 rename_i dd cd sl ho
 split at q
 case h_2=>cases q
 rename_i C' bm k0 k1 k2 k3 n k5 hm hs
 simp only [Bool.and_eq_true,beq_iff_eq,Bool.not_eq_true'] at q
 obtain ⟨⟨⟨⟨⟨rfl,rfl⟩,hdel⟩,ht⟩,hok⟩,hni⟩:=q
 have e:sl = #[k0,k1,k2,k3,some (.builtin n),k5]:=Array.toList_inj.mp hs
 subst e
 cases cd
 dsimp only at hm hdel hok hni
 subst hm hdel
 exact ⟨_,_,_,_,_,_,_,_,_,_,_,_,_,_,_,_,_,X _ _ ho,.of_isNs (PySem.W.isNs_of_in X hok),PySem.W.nsMap_none_of_in X hok hni,PySem.W.tail_of_in X ht⟩
section
variable {X:Cx} {E:XK} {x:Str} {C:Addr} {bmB:List Value} {Bn newId initId:String} {e₀:Expr} {es:List Expr} {ta:TA} {np cpos pos:Pos}
noncomputable def zY (C:Addr) (E:XK) (ta:TA):TS:=fun _ σ H=>ta σ H fun vs H1=>vs.length<=sizeLine/\E (.ref C) none H1
theorem qh (hT:Thr X E) (hc:X.calm=true) (FB:ExcBaseFacts Bn newId initId bmB) (hX:PySem.W.excIn X.K C bmB newId=true) (hm:X.mg x=some (.ref C)) (ha:PA X (e₀::es) ta) (hg:Gl X x:=by rfl)
  (he:starEach (e₀::es) X.env=(false,eval e₀ X.env)::starEach es X.env:=by rfl) (hplain:(backTo cpos (starEach es X.env)).any (·.1)=false:=by rfl) (hd:(x == ("__debug__" : Str))=false:=by decide) :
  PS X (.Raise (some (.Call (.Name x np) (e₀::es) [] cpos)) none pos) (zY C E ta):=by
 intro pins s σ H D I h
 obtain ⟨tl,N,nm,q,bs,hdct,sn,sub,ab,col,dd,k0,k1,k2,k3,k5,mN,hC,hN,hni,T⟩:=tZ I.mod.kin hX
 refine wpAny_Raise_call_subT (C:=C) (nm:=nm) (q:=q) (N:=N) (bs:=bs) (bm:=tl) (hdct:=hdct) (sn:=sn) (sub:=sub) (ab:=ab) (col:=col) (dd:=dd) (k0:=k0) (k1:=k1) (k2:=k2) (k3:=k3) (k5:=k5)
  FB (mN:=mN) (T.hasType FB.hasBase) (I.ok.hd hc) (by rw [he]; show (false||(backTo cpos (starEach es X.env)).any (·.1))=false; rw [hplain]; rfl) hni (fw I hg hm ⟨rfl,?_⟩ hd)
 have hs:=ha cpos pins s σ H _ I h
 rw [he] at hs ⊢
 refine Calls.evalArgs_plain (thn hs fun vs s₂ ⟨us,H2,I2,r,hl,q⟩ => ?_)
 exact ⟨rfl,by rw [<-r.length]; exact hl,I2.bk _ _ hC,hN.keeps I2.bk,T.keeps I2.bk,fun h' e hm=>hT pins σ H2 s₂ { s₂ with heap:=h' } e _ _ I2 hm rfl rfl q⟩
end
end L2
namespace PySem.W
open PySem PySem.Spec PySem.Calls PyProof.Rows
open Builtin Builtin.ObjectAttr Builtin.Getset_descriptor
theorem iO {prog:Program} {w:World} {A:Around} {s:Shared} {K:Frag} {a C:Addr} {R:Result->Shared->Prop} {tp:Value} (L0:Looks (model prog w) s.heap (typeOf (.ref a)) (.ref C)) (L1:Looks (model prog w) s.heap (isSubtype (.ref C) (.type "object")) true)
  (h:R (.ok (.ret (.ref C))) s):codeAny (model prog w) A (.call (.builtin "getset_descriptor.__get__") ⟨[.builtin "object.__class__",.ref a,tp],[]⟩) R s:=by
 obtain ⟨hh,g,dr,t,os⟩:=s
 refine codeAny_call_builtin KF.slot_gs.plain KF.entry_gs (KF.slot_gs.check _ _ _ _ _ _ _ _ KF.type_class (KF.args_gs _ _ _) ?_)
 unfold Builtin.«getset_descriptor.__get__» descrGet
 rw [dga_obj]
 refine wpAny_bind (wpAny_pure ?_)
 unfold descrGetter descrCheckInstance descrNameAndClass isInstance
 simp only [KF.owner_class]
 repeat lk
 refine ⟨Code.quiet_builtin _ (by decide +kernel),codeAny_builtin KF.entry_class ?_⟩
 unfold Builtin.«object.__class__» shownTypeOf
 repeat lk
 exact h
theorem oG {prog:Program} {w:World} {A:Around} {E:Value->Shared->Prop} {s:Shared} {K:Frag} {a C:Addr} {o:Obj} {Q:Option Value->Shared->Prop} (X:K.In s.heap) (hx:s.heap.get? a=some o) (hc:o.cls=.ref C)
  (hga:findIn K (.ref C) "__getattribute__" = some (some (.builtin "BaseException.__getattribute__"))) (hgt:findIn K (.ref C) "__getattr__" = some none) (hcl:findIn K (.ref C) "__class__" = some (some (.builtin "object.__class__")))
  (hm:mroIn K C (.type "object")=some true) (hb:mroIn K C (.type "BaseException")=some true) (h:Q (some (.ref C)) { s with toks:=s.toks+1 }):wpAny (model prog w) A (getAttr? (.ref a) "__class__") Q E s:=by
 obtain ⟨hh,g,d,t,os⟩:=s
 have L0:Looks (model prog w) hh (typeOf (.ref a)) (.ref C):=hc ▸ (Looks.ld hx).andThen .now
 have L1:=looks_findIn (M:=model prog w) X hga
 have L2:=looks_findIn (M:=model prog w) X hgt
 have L3:=looks_findIn (M:=model prog w) X hcl
 have L4:=looks_mroIn (M:=model prog w) X hm
 have L5:=looks_mroIn (M:=model prog w) X hb
 unfold getAttr? getAttrBy? getAttrBy
 refine wpAny_bind (wpAny_mkText (wpAny_bind (wpAny_attempt (wpAny_holding (wpAny_bind (L0.at (wpAny_bind (L1.at ?_))))))))
 dsimp only
 rw [if_neg (by rw [Bool.and_eq_true]; rintro ⟨_,q⟩; exact absurd q (by decide +kernel))]
 unfold getAttrByItsOwn hookBefore
 rw [if_pos (show onTheHeap (Value.ref C)=true from rfl)]
 have L6:Looks (model prog w) hh (isInstance (.ref a) (.type "BaseException")) true:=L0.andThen L5
 refine wpAny_bind (L2.at (wpAny_bind (wpAny_attempt (wpAny_holding ?_))))
 unfold callGetattribute
 rw [if_neg (by decide)]
 unfold boundAndCalled
 rw [F.attr_ValueError.ga.bind (.ref a)]
 refine wpAny_bind (wpAny_pure ?_)
 have hk:builtinKind "BaseException.__getattribute__" = some .slot:=by decide +kernel
 have hsplit:splitId "BaseException.__getattribute__" = some ("BaseException", "__getattribute__"):=by decide +kernel
 have ha:=F.args_bexc_ga (.ref a) (.str "__class__" t)
 refine wpAny_call (codeAny_call_builtin F.attr_ValueError.ga.plain F.entry_bexc_ga ?_)
 simp only [checkBuiltinCall,hk,hsplit]
 dsimp only [List.cons_append,List.nil_append]
 refine wpAny_bind (L6.at ?_)
 simp only [Bool.not_true,Bool.false_eq_true,if_false]
 clear L1 L2 L4 L5 L6
 repeat wp_step
 have f5:typeOf (.builtin "object.__class__")=pure (.type "getset_descriptor"):=by kernel_rfl
 have f6:=F.slot_gs_get.lookup
 have f7:=F.slot_gs_set.lookup
 rw [hc]
 refine L3.at ?_
 have L0':=L0
 have L4':=looks_mroIn (M:=model prog w) X hm
 clear L3
 repeat (any_goals (first | assumption | wp_step))
 refine iO (K:=K) L0' L4' ?_
 repeat (any_goals (first | assumption | wp_step))
structure ExC (K:Frag) (C:Addr):Prop where
 cl:(clsIn K C).isSome=true
 ga:findIn K (.ref C) "__getattribute__" = some (some (.builtin "BaseException.__getattribute__"))
 gt:findIn K (.ref C) "__getattr__" = some none
 kl:findIn K (.ref C) "__class__" = some (some (.builtin "object.__class__"))
 mo:mroIn K C (.type "object")=some true
 mb:mroIn K C (.type "BaseException")=some true
theorem ExC.at_ {K:Frag} {C:Addr} (Z:ExC K C):∃ c d cd sl,K.lookup C=some ⟨c,d,.cls cd,sl⟩:=by
 have h:=Z.cl
 unfold clsIn at h
 split at h
 ·rename_i c' d' cd' sl' ho
  exact ⟨_,_,_,_,ho⟩
 ·cases h
theorem lG {K:Frag} {a C:Addr} (Z:ExC K C):KitX K (.ref a) (.ref C) (fun h=>∃ o,h.get? a=some o/\o.cls=.ref C) where
 ty:=fun _ _ _ ⟨_,h1,h2⟩=>h2 ▸ (Looks.ld h1).andThen .now
 it:=fun _ _ X _=>by
  obtain ⟨_,_,_,_,ho⟩:=Z.at_
  intro A' Q' E' s' k q
  unfold isType loadHead
  exact wpAny_bind (wpAny_loadPart (k _ _ (X _ _ ho)) (wpAny_pure q))
 ne:=fun h tp dd its n sl X htp=>by
  obtain ⟨_,_,_,_,ho⟩:=Z.at_
  refine Bool.eq_false_iff.mpr fun q => ?_
  have e:C=tp:=Value.ref.inj (beq_iff_eq.mp q)
  subst e
  have z:=(X _ _ ho).symm.trans htp
  cases z
 ca:=fun X ⟨_,h1,h2⟩ k=>oG X h1 h2 Z.ga Z.gt Z.kl Z.mo Z.mb k
end PySem.W
namespace L2
open PySem PySem.Spec PyProof.Rows
section
variable {X:Cx} {a C:Addr} {oe:Obj}
theorem ju (hp:(a,oe)∈X.pn) (hc:oe.cls=.ref C) (Z:PySem.W.ExC X.K C) :
  bR X (.builtin "isinstance") (fun xs H Q=>∃ c cv b,xs=[.ref a,c]/\vG c=some cv/\PySem.W.kitOne X.K (.ref C) cv=some b/\Q (.bl b) H):=by
 intro pins s σ H xs us Q I r h
 obtain ⟨c,cv,b,rfl,hcv,hk,q⟩:=h
 obtain ⟨u,w',rfl,rx,rc⟩:=vals2 r
 cases (show u=Value.ref a from rx)
 have e:w'=cv:=by
  cases c with
  | ty n=>cases (show w'=Value.type n from rc); exact Option.some.inj hcv
  | ref a=>cases (show w'=Value.ref a from rc); exact Option.some.inj hcv
  | _=>cases hcv
 subst e
 exact PySem.W.kia_one (PySem.W.lG Z) I.kIn ⟨oe,(I.pin _ (List.mem_append_left _ hp)).1,hc⟩ hk (fun z=>nomatch z) fun tk=>⟨.bl b,H,I.tok tk,rfl,q⟩
theorem i7:∀ {cs:List Addr} {us:List Value},Vals (cs.map V.ref) us->us=cs.map Value.ref
 | [],_,.nil=>rfl
 | _::_,_,.cons h t=>by rw [i7 t,(show _=Value.ref _ from h)]; rfl
theorem jX (hp:(a,oe)∈X.pn) (hc:oe.cls=.ref C) (Z:PySem.W.ExC X.K C) :
  bR X (.builtin "isinstance") (fun xs H Q=>∃ (tp:Addr) (cs:List Addr) (b:Bool),xs=[.ref a,.ref tp]/\H tp=some (.tup (cs.map V.ref))/\PySem.W.kitAny X.K (.ref C) (cs.map Value.ref)=some b/\Q (.bl b) H):=by
 intro pins s σ H xs us Q I r h
 obtain ⟨tp,cs,b,rfl,ht,hk,q⟩:=h
 obtain ⟨u,w',rfl,rx,rc⟩:=vals2 r
 cases (show u=Value.ref a from rx)
 cases (show w'=Value.ref tp from rc)
 obtain ⟨its,rv,hit,_⟩:=I.tuple (SqT.of ht)
 cases i7 rv
 obtain ⟨o,h1,h2,n,h3⟩:=hit
 obtain ⟨oc,od,oda,osl⟩:=o
 dsimp only at h2 h3
 subst h2 h3
 exact PySem.W.kia_tup (PySem.W.lG Z) I.kIn ⟨oe,(I.pin _ (List.mem_append_left _ hp)).1,hc⟩ h1 hk (fun z=>nomatch z) fun tk=>⟨.bl b,H,I.tok tk,rfl,q⟩
end
section
variable {X:Cx} {a C:Addr} {oe:Obj}
end
section
variable {X:Cx} {pins:List (Addr × Obj)} {σ:St} {H:Hp} {s:Shared}
theorem Inv.ctx {Y:Cx} {pins':List (Addr × Obj)} (I:Inv X pins σ H s) (ok:Y.Ok) (hs:Y.s₀=X.s₀) (hH:Y.H₀=X.H₀) (ho:Y.outer=X.outer) (hx:Y.ex=X.ex) (he:Y.env=X.env) (hN:Y.N=X.N) (hp:Y.prog=X.prog) (hw:Y.w=X.w)
  (hpin:∀ p∈Y.pn++pins',s.heap.get? p.1=some p.2/\H p.1=none/\p.1≠X.env.locals/\p.1 ∉ X.fs/\∀ v,p.2.data≠.cell v):Inv Y pins' σ H s:=by
 obtain ⟨prog,w,K,mg,base,A,N,s₀,H₀,env,outer,stack,ex,fn,calm,pn,xe⟩:=Y
 dsimp only at hs hH ho hx he hN hp hw
 subst hs hH ho hx he hN hp hw
 exact ⟨ok,I.os,I.bare,I.base,I.loc,I.cell,I.free,I.freeC,hpin,I.hok,I.len⟩
theorem Inv.AM {h':Heap} {m:Str->Option Value} {v:Option Value} {t':Nat} {n:Str} {i:Nat} (I:Inv X pins σ H s) (hN:X.N.Nodup) (hi:X.N[i]?=some n)
  (hl:∀ (j:Nat) (x:Str) (w:V),X.N[j]?=some x->σ[j]?=some (some w)->Vis X.env.scope x->∃ u,RelV w u/\Look X.env s.heap m x u)
  (hn:h'.Ns X.env.locals (fun x=>if x=n then v else m x)) (sb:Heap.SameBut X.env.locals s.heap h'):Inv X pins (σ.set i none) H { s with heap:=h',toks:=t' }:=by
 have neL:∀ b o,X.s₀.heap.get? b=some o->b≠X.env.locals:=fun b o e=>Nat.ne_of_lt (Nat.lt_of_lt_of_le (Heap.lt_size e) I.ok.above)
 have k:∀ b o,b≠X.env.locals->s.heap.get? b=some o->h'.get? b=some o:=fun b o n e=>(sb.2 b n).trans e
 refine ⟨I.ok,I.os,I.bare,⟨fun b o e n hb hx=>k b o (neL b o e) (I.base.keep b o e n hb hx),fun b o e n hb hx => ?_,I.base.free,fun b o e hx => ?_,I.base.tups,I.base.frzs,I.base.tbls⟩,⟨_,hn,fun j x w e1 e2 e3 => ?_⟩,fun x c e => ?_,I.free,I.freeC,fun p hp => ?_,fun b u e => ?_,by rw [List.length_set]; exact I.len⟩
 ·obtain ⟨sl,e1⟩:=I.base.slot b o e n hb hx
  exact ⟨sl,k b _ (neL b o e) e1⟩
 ·obtain ⟨o',e1⟩:=I.base.there b o e hx
  exact ⟨o',k b o' (neL b o e) e1⟩
 ·by_cases hj:j=i
  ·subst hj
   rw [List.getElem?_set_self' ] at e2
   cases q:σ[j]? with
   | none=>rw [q] at e2; cases e2
   | some z=>rw [q] at e2; cases e2
  ·rw [List.getElem?_set_ne (Ne.symm hj)] at e2
   have nx:x≠n:=fun z=>hj (ie hN (z ▸ e1) hi)
   obtain ⟨u,r,l⟩:=hl j x w e1 e2 e3
   refine ⟨u,r,?_⟩
   rcases l with ⟨k1,e⟩ | ⟨k2,c,hc,o,ho,hd⟩
   ·exact .inl ⟨k1,(if_neg nx).trans e⟩
   ·exact .inr ⟨k2,c,hc,o,k c o (I.cne x c hc) ho,hd⟩
 ·obtain ⟨v,o,ho,hd⟩:=I.cell x c e
  exact ⟨v,o,k c o (I.cne x c e) ho,hd⟩
 ·obtain ⟨e,n,ne,nf,d⟩:=I.pin p hp
  exact ⟨k _ _ ne e,n,ne,nf,d⟩
 ·refine (I.hok b u e).aX (fun c v hc q=>k c v ?_ q) (fun _ q=>q) fun _ _ q=>q
  rintro rfl
  have f:=I.free
  rcases hc with z | z
  ·rw [z,e] at f; cases f
  ·rw [z] at f; cases f
noncomputable def BE (i:Nat) (D:Ends):Ends:={ nx:=fun σ H'=>D.nx (σ.set i none) H',rt:=D.rt,bk:=fun σ H'=>D.bk (σ.set i none) H',ct:=fun σ H'=>D.ct (σ.set i none) H' }
noncomputable abbrev Cx.bT (X:Cx) (E:Value->Shared->Prop) (pn:List (Addr × Obj)):Cx:={ X with xe:=E,pn:=pn }
noncomputable abbrev Cx.fQ (X:Cx) (a:Addr) (pn:List (Addr × Obj)):Cx:={ X with A:=X.A.mark (some (.ref a)),calm:=false,xe:=fun _ _=>False,pn:=pn }
theorem Cx.Ok.bT (ok:X.Ok) {E:Value->Shared->Prop} {pn:List (Addr × Obj)}:(X.bT E pn).Ok :=
 ⟨ok.mod,ok.kind,ok.glob,ok.blt,ok.above,ok.inj,ok.has,ok.cab,ok.hd,ok.frames,ok.stk,ok.exf,ok.bs,ok.bsz,ok.noex,ok.exfs,ok.iG,ok.frf⟩
theorem Cx.Ok.fQ (ok:X.Ok) {a:Addr} {pn:List (Addr × Obj)}:(X.fQ a pn).Ok :=
 ⟨ok.mod,ok.kind,ok.glob,ok.blt,ok.above,ok.inj,ok.has,ok.cab,(fun z=>nomatch z),ok.frames,ok.stk,ok.exf,ok.bs,ok.bsz,ok.noex,ok.exfs,ok.iG,ok.frf⟩
theorem SP.ctx {Y:Cx} {pins':List (Addr × Obj)} {D:Ends} {f:Flow} {s':Shared} (h:SP X pins D f s') (g:∀ σ' H',Inv X pins σ' H' s'->Inv Y pins' σ' H' s'):SP Y pins' D f s':=by
 cases f with
 | next=>obtain ⟨σ',H',J,q⟩:=h; exact ⟨σ',H',g _ _ J,q⟩
 | brk=>obtain ⟨σ',H',J,q⟩:=h; exact ⟨σ',H',g _ _ J,q⟩
 | cont=>obtain ⟨σ',H',J,q⟩:=h; exact ⟨σ',H',g _ _ J,q⟩
 | ret u=>obtain ⟨v,σ',H',J,r,q⟩:=h; exact ⟨v,σ',H',g _ _ J,r,q⟩
end
section
variable {X:Cx} {body suite:List Stmt} {b₀:Stmt} {x n:Str} {c:Value} {i:Nat} {tb:XK->TS} {th:Value->Addr->TS} {np hpos pos:Pos}
end
section
variable {X:Cx} {body suite:List Stmt} {b₀:Stmt} {x n:Str} {c C₀:Value} {i:Nat} {tb:XK->TS} {th:Addr->TS} {np hpos pos:Pos}
end
noncomputable def pH (P:Program) (w:World) (K:PySem.W.Frag) (mg:Str->Option Value) (base:Heap) (x:Str) (k:Nat) (ps:List Str) (sp:Sp):Prop :=
 ∃ (f:Addr) (fd:FuncData),mg x=some (.ref f)/\PySem.W.keepIn K (.ref f)=true/\Binds K fd ps []/\cV P w K mg base (CXE P w) k f fd ps sp
noncomputable def Ax (P:Program) (w:World) (K:PySem.W.Frag) (mg:Str->Option Value) (base:Heap) (C:Addr) (m:Str) (k:Nat) (ps:List Str) (sp:Sp):Prop :=
 ∃ (f:Addr) (fd:FuncData),Meth K C m f/\Binds K fd ps []/\cV P w K mg base (CXE P w) k f fd ps sp
noncomputable def A3 (P:Program) (w:World) (K:PySem.W.Frag) (mg:Str->Option Value) (base:Heap) (C:Addr) (x:Str) (k:Nat) (ps:List Str) (sp:Sp):Prop :=
 ∃ (f:Addr) (fd:FuncData),Mk K C f/\mg x=some (.ref C)/\Binds K fd ps []/\cV P w K mg base (CXE P w) k f fd ps sp
section
variable {X:Cx} {x m:Str} {C:Addr} {k:Nat} {ps:List Str} {sp:Sp} {o e:Expr} {es:List Expr} {ta:TE} {t:TA} {p pos apos:Pos}
theorem uE {E:XK} (h:pH X.prog X.w X.K X.mg X.base x k ps sp) (hr:bS k X.A) (hx:Passes (CXE X.prog X.w) X E) (ha:PA X (e::es) t) (hg:Gl X x:=by rfl) (hs:starEach (e::es) X.env=(false,eval e X.env)::starEach es X.env:=by rfl)
  (hplain:(backTo pos (starEach es X.env)).any (·.1)=false:=by rfl) (hd:(x == ("__debug__" : Str))=false:=by decide):PE X (.Call (.Name x p) (e::es) [] pos) (jt sp [] E t):=by
 obtain ⟨f,fd,hm,hk,hb,F⟩:=h
 exact ug F hr hg hm hk hb .nil hx ha hd hs hplain
end
section
variable {P:Program} {w:World} {K:PySem.W.Frag} {mg:Str->Option Value} {base:Heap}
end
end L2
namespace L2
open PySem PySem.Spec PyProof.Rows
end L2
namespace L2
open PySem PySem.Spec PyProof.Rows
theorem r9 {X:Cx}:Passes (CXE X.prog X.w) X E0:=fun _ _ _ _ _ _ _ h=>by
 obtain ⟨_,_,_,_,_,_,_,q⟩:=h
 exact q.elim
section
variable {X:Cx}
theorem tP:OpR X (binaryOp .FloorDiv) (rI (fun _ j=>0<j/\j<2 ^ 200) fun i j=>.int (i / j)):=opI fun i j _ _ _ _ _ hc q=>by
 have h1:(0:Int)<j:=hc.1
 refine floordiv_int (by omega) (by rw [Int.fdiv_eq_ediv_of_nonneg i (by omega)]; exact q) (.inl (PyProof.noPylong_of_log2 ?_))
 have h2:j.natAbs<2 ^ 200:=by
  have:=hc.2
  omega
 have h3:j.natAbs.log2<200:=(Nat.log2_lt (by omega)).mpr h2
 omega
end
theorem ED (K:PySem.W.Frag):PySem.W.kitOne K (.type "int") (.type "tuple")=some false:=by
 unfold PySem.W.kitOne
 rw [if_neg (by decide)]
 show (if PySem.W.kitMeta "tuple" = true then PySem.W.subIn K (.type "int") (.type "tuple") else none)=some false
 rw [if_pos (by kernel_rfl)]
 show (fastBuiltinMro "int").map (·.contains (Value.type "tuple"))=some false
 kernel_rfl
theorem Eu (K:PySem.W.Frag):PySem.W.kitOne K (.type "tuple") (.type "tuple")=some true:=by
 unfold PySem.W.kitOne
 rw [if_pos (by decide)]
end L2
namespace L2
open PySem PySem.Spec PyProof.Rows
section
variable {κ:Type} [DecidableEq κ]
noncomputable def fM (kvs:List (κ × V)) (k:κ):Option V:=(kvs.find? fun kv=>decide (kv.1=k)).map (·.2)
noncomputable def putK (kvs:List (κ × V)) (k:κ) (v:V):List (κ × V) :=
 if (kvs.any fun kv=>decide (kv.1=k))=true then kvs.map (fun kv=>if kv.1=k then (kv.1,v) else kv) else kvs++[(k,v)]
theorem fe {p:κ × V} {r:List (κ × V)} {k:κ} (e:p.1=k):fM (p::r) k=some p.2:=by simp [fM,List.find?_cons,e]
theorem fj {p:κ × V} {r:List (κ × V)} {k:κ} (e:¬ p.1=k):fM (p::r) k=fM r k:=by simp [fM,List.find?_cons,e]
theorem lC (k:κ):∀ kvs:List (κ × V),(kvs.any fun kv=>decide (kv.1=k))=(fM kvs k).isSome
 | []=>rfl
 | p::r=>by
  rw [List.any_cons]
  by_cases e:p.1=k
  ·simp only [fe e,decide_eq_true e,Bool.true_or,Option.isSome_some]
  ·rw [fj e,decide_eq_false e,Bool.false_or]; exact lC k r
theorem fX (kvs:List (κ × V)) (k:κ) (v:V):(putK kvs k v).length<=kvs.length+1:=by
 unfold putK
 split
 ·rw [List.length_map]; omega
 ·rw [List.length_append,List.length_cons,List.length_nil]; omega
theorem iE.oF {o:Option V} {u:Option Value} (r:iE o u):o.isSome=u.isSome:=by
 cases o with
 | none=>cases u with
  | none=>rfl
  | some _=>exact (show False from r).elim
 | some _=>cases u with
  | none=>exact (show False from r).elim
  | some _=>rfl
theorem KV.val {kvs:List (κ × V)} {vs:List (κ × Value)} (r:KV kvs vs) (k:κ):iE (fM kvs k) (valueAt vs k):=by
 unfold KV at r
 induction r with
 | nil=>exact True.intro
 | @cons p q ps qs h t ih =>
  obtain ⟨h1,h2⟩:=h
  by_cases e:p.1=k
  ·have e':q.1=k:=h1.symm.trans e
   have b:valueAt (q::qs) k=some q.2:=by simp [valueAt,List.find?_cons,e']
   rw [fe e,b]; exact h2
  ·have e':¬ q.1=k:=fun z=>e (h1.trans z)
   have b:valueAt (q::qs) k=valueAt qs k:=by simp [valueAt,List.find?_cons,e']
   rw [fj e,b]; exact ih
theorem KV.any {kvs:List (κ × V)} {vs:List (κ × Value)} (r:KV kvs vs) (k:κ):(kvs.any fun kv=>decide (kv.1=k))=vs.any fun kv=>decide (kv.1=k):=by
 unfold KV at r
 induction r with
 | nil=>rfl
 | cons h t ih=>rw [List.any_cons,List.any_cons,ih,h.1]
theorem KV.yN {kvs:List (κ × V)} {vs:List (κ × Value)} (r:KV kvs vs) (k:κ) {y:V} {u:Value} (ry:RelV y u) :
  KV (kvs.map fun kv=>if kv.1=k then (kv.1,y) else kv) (vs.map fun kv=>if kv.1=k then (kv.1,u) else kv):=by
 unfold KV at r ⊢
 induction r with
 | nil=>exact .nil
 | @cons p q ps qs h t ih =>
  rw [List.map_cons,List.map_cons]
  refine .cons ?_ ih
  obtain ⟨h1,h2⟩:=h
  by_cases e:p.1=k
  ·rw [if_pos e,if_pos (h1.symm.trans e)]; exact ⟨h1,ry⟩
  ·rw [if_neg e,if_neg (fun z=>e (h1.trans z))]; exact ⟨h1,h2⟩
theorem KV.put {kvs:List (κ × V)} {vs:List (κ × Value)} (r:KV kvs vs) (k:κ) {y:V} {u:Value} (ry:RelV y u):KV (putK kvs k y) (stored vs k u):=by
 unfold putK stored
 rw [r.any k]
 by_cases e:(vs.any fun kv=>decide (kv.1=k))=true
 ·rw [if_pos e,if_pos e]; exact r.yN k ry
 ·rw [if_neg e,if_neg e]; exact Paired.snoc r ⟨rfl,ry⟩
theorem KV.length {kvs:List (κ × V)} {vs:List (κ × Value)} (r:KV kvs vs):kvs.length=vs.length:=Paired.length r
end
theorem rB {P:Program} {w:World} {k:Key} {u:Value} (r:RelV (kV k) u):(aQ P w).is k u=true:=by
 cases k with
 | inl i=>obtain ⟨t,e⟩:=(show ∃ t,u=Value.int i t from r); subst e; exact j9 P w i t
 | inr x=>obtain ⟨t,e⟩:=(show ∃ t,u=Value.str x t from r); subst e; exact kU P w x t
theorem jd {P:Program} {w:World}:∀ {ks:List Key} {us:List Value},Vals (ks.map kV) us->ItemsAre (aQ P w) ks us
 | [],_,r=>by rw [List.map_nil] at r; cases r; exact .nil
 | k::ks,_,r=>by
  rw [List.map_cons] at r
  cases r with
  | cons h t=>exact .cons (rB h) (jd t)
noncomputable abbrev KT (H:Hp):List (List Key × V)->List (List Key × Addr × Value)->Prop:=Paired fun p q=>p.1=q.1/\H q.2.1=some (.tup (p.1.map kV))/\RelV p.2 q.2.2
theorem KT.val {H:Hp} {kvs:List (List Key × V)} {xs:List (List Key × Addr × Value)} (r:KT H kvs xs) (k:List Key):iE (fM kvs k) ((atKey xs k).map (·.2)):=by
 induction r with
 | nil=>exact True.intro
 | @cons p q ps qs h t ih =>
  obtain ⟨h1,_,h2⟩:=h
  by_cases e:p.1=k
  ·have e':q.1=k:=h1.symm.trans e
   have b:atKey (q::qs) k=some q.2:=by simp [atKey,List.find?_cons,e']
   rw [fe e,b]; exact h2
  ·have e':¬ q.1=k:=fun z=>e (h1.trans z)
   have b:atKey (q::qs) k=atKey qs k:=by simp [atKey,List.find?_cons,e']
   rw [fj e,b]; exact ih
theorem KT.yN {H:Hp} {kvs:List (List Key × V)} {xs:List (List Key × Addr × Value)} (r:KT H kvs xs) (k:List Key) {y:V} {u:Value} (ry:RelV y u) :
  KT H (kvs.map fun kv=>if kv.1=k then (kv.1,y) else kv) (xs.map (putAt k u)):=by
 induction r with
 | nil=>exact .nil
 | @cons p q ps qs h t ih =>
  rw [List.map_cons,List.map_cons]
  refine .cons ?_ ih
  obtain ⟨h1,h2,h3⟩:=h
  unfold putAt
  by_cases e:p.1=k
  ·rw [if_pos e,if_pos (h1.symm.trans e)]; exact ⟨h1,h2,ry⟩
  ·rw [if_neg e,if_neg (fun z=>e (h1.trans z))]; exact ⟨h1,h2,h3⟩
theorem KT.put {H:Hp} {kvs:List (List Key × V)} {xs:List (List Key × Addr × Value)} (r:KT H kvs xs) (k:List Key) {b:Addr} {y:V} {u:Value} (hb:H b=some (.tup (k.map kV))) (ry:RelV y u) :
  KT H (putK kvs k y) (storedH xs k b u):=by
 have e:(kvs.any fun kv=>decide (kv.1=k))=(atKey xs k).isSome:=by
  rw [lC,(r.val k).oF,Option.isSome_map]
 unfold putK storedH
 rw [e]
 by_cases q:(atKey xs k).isSome=true
 ·rw [if_pos q,if_pos q]; exact r.yN k ry
 ·rw [if_neg q,if_neg q]; exact Paired.snoc r ⟨rfl,hb,ry⟩
theorem KT.keeps {H H':Hp} {kvs:List (List Key × V)} {xs:List (List Key × Addr × Value)} (r:KT H kvs xs) (ht:∀ b ys,H b=some (.tup ys)->H' b=some (.tup ys)):KT H' kvs xs :=
 Paired.zU r fun _ _ z=>⟨z.1,ht _ _ z.2.1,z.2.2⟩
section
variable {P:Program} {w:World} {H:Hp} {h:Heap} {a:Addr}
theorem wk {u:HO} (ok:HOk P w H h) (e:Rd H a u):aE P w H h a u:=e.ok ok
theorem nQ {kvs:List (Key × V)} (ok:HOk P w H h) (e:Rd H a (.dK kvs)):kvs.length<=sizeLine/\(a == sysModules)=false/\∃ vs,KV kvs vs/\h.DictOf (aQ P w) a vs :=
 show aE P w H h a (.dK kvs) from wk ok e
theorem AO {kvs:List (Key × V)} (ok:HOk P w H h) (e:H a=some (.dK kvs)):kvs.length<=sizeLine/\(a == sysModules)=false/\∃ vs,KV kvs vs/\h.DictOf (aQ P w) a vs:=nQ ok (.inl e)
theorem mf {ks:List Key} (ok:HOk P w H h) (e:H a=some (.tup (ks.map kV))):(tupleKind (aQ P w)).is h ks a:=by
 obtain ⟨_,its,r,o,h1,h2,n,h3⟩:=(show aE P w H h a (.tup (ks.map kV)) from ok a _ e)
 exact ⟨o,its.toArray,n,h1,h2,h3,by simpa using jd r⟩
theorem qr {kvs:List (List Key × V)} (ok:HOk P w H h) (e:Rd H a (.dT kvs)):kvs.length<=sizeLine/\(a == sysModules)=false /\
  ∃ xs,KT H kvs xs/\h.DictOfH (tupleKind (aQ P w)) a xs:=by
 obtain ⟨z,y,xs,r,o,es,ep,h1,h2,h3,h4,h5⟩:=(show aE P w H h a (.dT kvs) from wk ok e)
 refine ⟨z,y,xs,r,o,es,ep,h1,h2,h3,h4,fun x hx => ?_,h5⟩
 have all:∀ {l:List (List Key × V)} {m:List (List Key × Addr × Value)},KT H l m->∀ x∈m,(tupleKind (aQ P w)).is h x.1 x.2.1:=by
  intro l m q
  induction q with
  | nil=>intro x hx; exact nomatch hx
  | @cons p q ps qs hq t ih =>
   intro x hx
   rcases List.mem_cons.mp hx with e | hx
   ·subst e
    exact mf ok (by rw [<-hq.1]; exact hq.2.1)
   ·exact ih x hx
 exact all r x hx
theorem AV {kvs:List (List Key × V)} (ok:HOk P w H h) (e:H a=some (.dT kvs)):kvs.length<=sizeLine/\(a == sysModules)=false /\
  ∃ xs,KT H kvs xs/\h.DictOfH (tupleKind (aQ P w)) a xs:=qr ok (.inl e)
end
noncomputable def g7 (H:Hp) (a:Addr) (y:V) (r:Option V):Prop :=
 (∃ kvs k,Rd H a (.dK kvs)/\y=kV k/\r=fM kvs k)\/∃ kvs k b,Rd H a (.dT kvs)/\y=.ref b/\H b=some (.tup (k.map kV))/\r=fM kvs k
noncomputable def jH (H:Hp) (a:Addr) (y v:V) (H':Hp):Prop :=
 (∃ kvs k,H a=some (.dK kvs)/\y=kV k/\kvs.length<sizeLine/\H'=upd H a (.dK (putK kvs k v))) \/
 ∃ kvs k b,H a=some (.dT kvs)/\y=.ref b/\H b=some (.tup (k.map kV))/\kvs.length<sizeLine/\H'=upd H a (.dT (putK kvs k v))
theorem g7.k {H:Hp} {a:Addr} {kvs:List (Key × V)} {k:Key} (e:H a=some (.dK kvs)):g7 H a (kV k) (fM kvs k):=.inl ⟨kvs,k,.inl e,rfl,rfl⟩
theorem g7.t {H:Hp} {a b:Addr} {kvs:List (List Key × V)} {k:List Key} (e:H a=some (.dT kvs)) (eb:H b=some (.tup (k.map kV))):g7 H a (.ref b) (fM kvs k):=.inr ⟨kvs,k,b,.inl e,rfl,eb,rfl⟩
theorem jH.k {H:Hp} {a:Addr} {kvs:List (Key × V)} {k:Key} {v:V} (e:H a=some (.dK kvs)) (hl:kvs.length<sizeLine):jH H a (kV k) v (upd H a (.dK (putK kvs k v))):=.inl ⟨kvs,k,e,rfl,hl,rfl⟩
theorem jH.t {H:Hp} {a b:Addr} {kvs:List (List Key × V)} {k:List Key} {v:V} (e:H a=some (.dT kvs)) (eb:H b=some (.tup (k.map kV))) (hl:kvs.length<sizeLine) :
  jH H a (.ref b) v (upd H a (.dT (putK kvs k v))):=.inr ⟨kvs,k,b,e,rfl,eb,hl,rfl⟩
section
variable {X:Cx} {pins:List (Addr × Obj)} {σ:St} {H:Hp} {s:Shared} {a:Addr} {y v:V} {u r:Value} {o:Option V} {A:Around} {E:Value->Shared->Prop}
theorem Inv.big (I:Inv X pins σ H s):sysModules<s.heap.objs.size:=by
 have h:mainGlobals<s.heap.objs.size:=(I.mod.glob.keeps I.bk).lt
 exact Nat.lt_trans (by decide) h
theorem pK {Q:Value->Shared->Prop} (hu:A.units+1<cLine) (I:Inv X pins σ H s) (g:g7 H a y (some v)) (ry:RelV y u) (h:∀ w' s',Inv X pins σ H s'->RelV v w'->Q w' s') :
  wpAny (model X.prog X.w) A (getItem (.ref a) u) Q E s:=by
 rcases g with ⟨kvs,k,e,ey,l⟩ | ⟨kvs,k,b,e,ey,eb,l⟩
 ·subst ey
  obtain ⟨z,hd,vs,rel,dd⟩:=nQ I.hok e
  obtain ⟨w',hw,rw'⟩:=iE.some_of (v:=v) (o:=valueAt vs k) (by rw [l]; exact rel.val k)
  exact wpAny_getItem_of (rB ry) dd.mapOf hw (h w' _ (I.tok _) rw')
 ·subst ey
  cases (show u=Value.ref b from ry)
  obtain ⟨z,hd,xs,rel,dd⟩:=qr I.hok e
  obtain ⟨w',hw,rw'⟩:=iE.some_of (v:=v) (o:=(atKey xs k).map (·.2)) (by rw [l]; exact rel.val k)
  obtain ⟨p,hp,hp2⟩:=Option.map_eq_some_iff.mp hw
  refine wpAny_getItem_heap (tupleKind_room_in1 hu) (mf I.hok eb) dd hp ?_
  rw [hp2]
  exact h w' _ (I.tok _) rw'
theorem nJ {h':Heap} {t':Nat} {ob:HO} (I:Inv X pins σ H s) (mu:Mut (H a)) (hs:Heap.SameBut a s.heap h') (he:∃ q,h'.get? a=some q) (new:aE X.prog X.w (upd H a ob) h' a ob) :
  Inv X pins σ (upd H a ob) { s with heap:=h',toks:=t' } :=
 I.write (x:=a) (e:=a) mu (.inl rfl) (fun b q hb z=>(hs.2 b hb).trans z) he new
theorem yu {P:Program} {w:World} {H':Hp} {h':Heap} {kvs:List (Key × V)} {vs:List (Key × Value)} (z:kvs.length<=sizeLine) (hd:(a == sysModules)=false) (rel:KV kvs vs) (dd:h'.DictOf (aQ P w) a vs) :
  aE P w H' h' a (.dK kvs):=⟨z,hd,vs,rel,dd⟩
theorem oU {H':Hp} {Q:Unit->Shared->Prop} (hu:A.units+1<cLine) (I:Inv X pins σ H s) (g:jH H a y v H') (ry:RelV y u) (rv:RelV v r) (h:∀ s',Inv X pins σ H' s'->Q () s') :
  wpAny (model X.prog X.w) A (setItem (.ref a) u r) Q E s:=by
 rcases g with ⟨kvs,k,e,ey,l,eH⟩ | ⟨kvs,k,b,e,ey,eb,l,eH⟩
 ·subst ey eH
  obtain ⟨z,hd,vs,rel,dd⟩:=AO I.hok e
  have hz:vs.length<=sizeLine:=by rw [<-rel.length]; exact z
  have hl:(putK kvs k v).length<=sizeLine:=by have:=fX kvs k v; omega
  refine wpAny_setItem_pairs (hsz:=hz) (rB ry) dd fun h' dd' hs=>h _ ?_
  have he:∃ q,h'.get? a=some q:=let ⟨q,_,_,hq,_⟩:=dd'; ⟨q,hq⟩
  exact nJ I (by rw [e]; exact True.intro) hs he (yu hl hd (rel.put k rv) dd')
 ·subst ey eH
  cases (show u=Value.ref b from ry)
  obtain ⟨z,hd,xs,rel,dd⟩:=AV I.hok e
  have hz:xs.length<=sizeLine:=by rw [<-Paired.length rel]; exact z
  have hl:(putK kvs k v).length<=sizeLine:=by have:=fX kvs k v; omega
  refine wpAny_setItem_heap (hsz:=hz) (tupleKind_room_in1 hu) (mf I.hok eb) dd fun h' dd' hs=>h _ ?_
  obtain ⟨q,es,ep,hq,h2,h3,h4,_,h5⟩:=dd'
  refine nJ I (by rw [e]; exact True.intro) hs ⟨q,hq⟩ ⟨hl,hd,_,(rel.put k eb rv).keeps fun c ys ec => ?_,q,es,ep,hq,h2,h3,h4,h5⟩
  rw [ah (AE ec e (fun z=>nomatch z))]
  exact ec
end
section
variable {X:Cx} {pins:List (Addr × Obj)} {σ:St} {H:Hp} {s:Shared} {a:Addr} {kvs:List (Key × V)} {k:Key} {u:Value} {A:Around} {E:Value->Shared->Prop}
theorem C8 {Q:Value->Shared->Prop} (I:Inv X pins σ H s) (e:Rd H a (.dK kvs)) (h:∀ t s',Inv X pins σ H s'->Q (.int kvs.length t) s'):wpAny (model X.prog X.w) A (call (.builtin "len") [.ref a]) Q E s:=by
 obtain ⟨z,hd,vs,rel,dd⟩:=nQ I.hok e
 refine call_len_dict hd dd (by rw [<-rel.length]; rw [sizeLine_eq] at z; omega) ?_
 rw [<-rel.length]
 exact h _ _ (I.tok _)
end
theorem ki {X:Cx} {pins:List (Addr × Obj)} {σ:St} {H:Hp} {s:Shared} {a:Addr} {y:V} {o:Option V} (I:Inv X pins σ H s) (g:g7 H a y o):s.TypeIs (.ref a) "dict" := by
 rcases g with ⟨kvs,k,e,_,_⟩ | ⟨kvs,k,b,e,_,_,_⟩
 ·obtain ⟨_,_,vs,_,dd⟩:=nQ I.hok e
  exact dd.typeIs
 ·obtain ⟨_,_,xs,_,dd⟩:=qr I.hok e
  exact dd.typeIs
section
variable {X:Cx} {o i e value:Expr} {pos pos' tpos:Pos} {td ty tv:TE}
end
theorem sN {P:Program} {w:World} {H:Hp} (h:Heap) (hb:sysModules<h.objs.size):aE P w H (h.push { cls:=.type "dict",data:=.dict #[] }) h.objs.size (.dK []) :=
 ⟨Nat.zero_le _,beq_eq_false_iff_ne.mpr (Ne.symm (Nat.ne_of_lt hb)),[],.nil,Heap.DictOf.new h⟩
theorem sk {P:Program} {w:World} {H:Hp} (h:Heap) (hb:sysModules<h.objs.size):aE P w H (h.push { cls:=.type "dict",data:=.dict #[] }) h.objs.size (.dT []) :=
 ⟨Nat.zero_le _,beq_eq_false_iff_ne.mpr (Ne.symm (Nat.ne_of_lt hb)),[],.nil,_,#[],0,Heap.get?_push_size _ rfl,⟨rfl,rfl,rfl⟩,rfl,rfl,List.nodup_nil⟩
noncomputable def zE:TE:=fun _ H Q=>∀ p,H p=none->Q (.ref p) (upd H p (.dK []))
noncomputable def za:TE:=fun _ H Q=>∀ p,H p=none->Q (.ref p) (upd H p (.dT []))
section
variable {X:Cx} {pos:Pos}
theorem qM:PE X (.Dict [] [] pos) zE:=fun pins s σ H Q I h =>
 wpAny_Dict_empty ⟨.ref s.heap.objs.size,_,I.laid (a:=s.heap.objs.size) (o:=.dK []) (t':=s.toks) (fun _ _ q=>Heap.get?_push_of_some _ q) (Nat.le_refl _) (sN s.heap I.big),rfl,h _ (I.hok.fresh (Nat.le_refl _))⟩
theorem rh:PE X (.Dict [] [] pos) za:=fun pins s σ H Q I h =>
 wpAny_Dict_empty ⟨.ref s.heap.objs.size,_,I.laid (a:=s.heap.objs.size) (o:=.dT []) (t':=s.toks) (fun _ _ q=>Heap.get?_push_of_some _ q) (Nat.le_refl _) (sk s.heap I.big),rfl,h _ (I.hok.fresh (Nat.le_refl _))⟩
end
section
variable {X:Cx} {pins:List (Addr × Obj)} {σ:St} {H:Hp} {s:Shared} {a:Addr} {y d:V} {u r:Value} {o:Option V} {A:Around} {E:Value->Shared->Prop}
end
section
variable {X:Cx} {o e f:Expr} {apos cpos:Pos} {td ty tx:TE}
end
section
variable {X:Cx} {pins:List (Addr × Obj)} {σ:St} {H:Hp} {s:Shared} {a:Addr} {kvs:List (Key × V)} {A:Around} {E:Value->Shared->Prop}
end
section
variable {X:Cx} {pins:List (Addr × Obj)} {σ:St} {H:Hp} {s:Shared} {a:Addr} {y:V} {u:Value} {A:Around} {E:Value->Shared->Prop}
end
end L2
set_option autoImplicit false
namespace I
set_option genSizeOf false
inductive D where
 | non | bl (b:Bool) | int (i:Int) | str (s:List Nat) | lst (xs:List D) | tup (xs:List D) | scr (xs:List D) | ktu (xs:List D) | cel (n:Nat) | exn (c:Nat) (p:Option Int)
inductive Cell where
 | lst (xs:List D) | dct (t:Bool) (kvs:List (D × D)) | ins (c:Nat) (fs:List (Nat × D)) | tab (n:Nat)
noncomputable abbrev OS:=List (Option Cell)
noncomputable abbrev Fr:=List (Option D)
inductive R (α:Type) where
 | ok (a:α) (os:OS) | exc (c:Nat) (p:Option Int) (os:OS) | stk
class Kt (α β:Type) where
 go:α->OS->R β
class Ko (β:Type) where
 go:OS->R β
noncomputable def R.bind {α β:Type} (r:R α) [k:Kt α β]:R β:=match r with
 | .ok a os=>k.go a os
 | .exc c p os=>.exc c p os
 | .stk=>.stk
theorem oj {α β:Type} (a:α) (os:OS) (f:α->OS->R β):@R.bind α β (R.ok a os) ⟨f⟩=f a os:=rfl
theorem Cj {α β:Type} (c:Nat) (p:Option Int) (os:OS) (k:Kt α β):@R.bind α β (R.exc c p os:R α) k=.exc c p os:=rfl
noncomputable def R.ofO {α:Type}:Option α->OS->R α
 | some a,os=>.ok a os
 | none,_=>.stk
noncomputable def SZ:Nat:=16777216
noncomputable def D.pl:Nat->D->Bool
 | _,.non=>true
 | _,.bl _=>true
 | _,.int _=>true
 | _,.str s=>s.all fun c=>decide (c<55296)
 | n+1,.lst xs=>xs.all (D.pl n)
 | n+1,.tup xs=>xs.all (D.pl n)
 | _,_=>false
mutual
noncomputable def D.same:D->D->Bool
 | .non,.non=>true
 | .bl a,.bl b=>a == b
 | .int a,.int b=>decide (a=b)
 | .str a,.str b=>decide (a=b)
 | .lst xs,.lst ys=>D.dv xs ys
 | .tup xs,.tup ys=>D.dv xs ys
 | _,_=>false
noncomputable def D.dv:List D->List D->Bool
 | [],[]=>true
 | x::xs,y::ys=>D.same x y&&D.dv xs ys
 | _,_=>false
end
mutual
noncomputable def D.nm:D->D->Bool
 | .bl _,.int _=>false
 | .int _,.bl _=>false
 | .lst xs,.lst ys=>D.nms xs ys
 | .tup xs,.tup ys=>D.nms xs ys
 | _,_=>true
noncomputable def D.nms:List D->List D->Bool
 | x::xs,y::ys=>D.nm x y&&D.nms xs ys
 | _,_=>true
end
noncomputable def D.eq (a b:D):Option Bool:=if (D.pl 60 a&&D.pl 60 b&&D.nm a b)=true then some (D.same a b) else none
noncomputable def aa (os:OS) (n:Nat):Option Cell:=(os[n]?).join
noncomputable def aj (os:OS):D->D
 | .cel n=>match aa os n with | some (.lst xs)=>.lst xs | _=>.cel n
 | d=>d
noncomputable def deep (os:OS):Nat->D->D
 | n+1,.lst xs=>.lst (xs.map (deep os n))
 | n+1,.tup xs=>.tup (xs.map (deep os n))
 | n+1,.cel m=>(match aa os m with | some (.lst xs)=>.lst (xs.map (deep os n)) | _=>.cel m)
 | _,d=>d
noncomputable def truth (os:OS):D->Option Bool
 | .non=>some false
 | .bl b=>some b
 | .int i=>some (decide (i≠0))
 | .str s=>if s.length<=SZ then some (!s.isEmpty) else none
 | .lst xs=>some (!xs.isEmpty)
 | .tup xs=>some (!xs.isEmpty)
 | .scr xs=>some (!xs.isEmpty)
 | .ktu xs=>some (!xs.isEmpty)
 | .cel n=>match aa os n with | some (.lst xs)=>some (!xs.isEmpty) | some (.dct false kvs)=>some (!kvs.isEmpty) | some (.ins _ _)=>none | _=>none
 | .exn _ _=>some true
noncomputable def aO (n:Nat) (i:Int):Option Nat:=if 0<=i then (if i<n then some i.toNat else none) else if -(n:Int)<=i then some (i+n).toNat else none
noncomputable def mJ (n d:Nat):Option Int->Nat
 | none=>d
 | some i=>if 0<=i then min i.toNat n else (i+n).toNat
noncomputable def cut {α:Type} (xs:List α) (lo hi:Option Int):List α:=(xs.drop (mJ xs.length 0 lo)).take (mJ xs.length xs.length hi - mJ xs.length 0 lo)
noncomputable def kS:D->Bool
 | .int _=>true
 | .str _=>true
 | _=>false
noncomputable def keyOk:Bool->D->Bool
 | false,d=>kS d
 | true,.tup ds=>ds.all kS
 | true,_=>false
noncomputable def bu (k:D):List (D × D)->Option D
 | []=>none
 | (a,v)::r=>if D.same a k=true then some v else bu k r
noncomputable def et (k v:D) (kvs:List (D × D)):List (D × D) :=
 if (kvs.any fun p=>D.same p.1 k)=true then kvs.map (fun p=>if D.same p.1 k=true then (p.1,v) else p) else kvs++[(k,v)]
noncomputable def DJ (k:D) (kvs:List (D × D)):List (D × D):=kvs.filter fun p => !D.same p.1 k
noncomputable def aY {α:Type} (le:α->α->Bool) (x:α):List α->List α
 | []=>[x]
 | y::r=>if le x y then x::y::r else y::aY le x r
noncomputable def sortBy {α:Type} (le:α->α->Bool):List α->List α
 | []=>[]
 | x::r=>aY le x (sortBy le r)
noncomputable def oP (t:Nat):Option Cell->Bool
 | some (.tab n)=>n == t
 | _=>false
noncomputable def fI:D->Option Int
 | .tup (_::.int k::_)=>some k
 | .ktu (_::.int k::_)=>some k
 | _=>none
noncomputable def dF:List D->Option (List Int)
 | []=>some []
 | x::r=>(fI x).bind fun k=>(dF r).map (k :: ·)
noncomputable def upB:List Int->Bool
 | a::b::r=>decide (a<=b)&&upB (b::r)
 | _=>true
noncomputable def upO:Option (List Int)->Bool
 | some ks=>upB (ks.drop 32)
 | none=>false
noncomputable def kL (xs:List D):Prop:=xs.length<64\/(xs.length<128/\upO (dF xs)=true)
noncomputable instance (xs:List D):Decidable (kL xs):=inferInstanceAs (Decidable (_\/_))
noncomputable def jD (xs:List D):Option D:=if kL xs then (dF xs).map fun ks=>.lst ((sortBy (fun a b=>decide (a.1<=b.1)) (ks.zip xs)).map (·.2)) else none
noncomputable def EC (n:Nat):List D:=(List.range n).map fun k=>.int (k:Nat)
noncomputable def Dm (n:Int) (ys:List D):Option D:=if 0<=n/\n<64/\n.toNat<=ys.length then (dF (ys.take n.toNat)).map fun ks=>.lst ((sortBy (fun a b=>decide (a.1<=b.1)) (ks.zip (EC n.toNat))).map (·.2)) else none
noncomputable def Fj (ns:List Int):Option D:=if ns.length<64 then some (.lst ((sortBy (fun a b=>decide (a<=b)) ns).map .int)) else none
noncomputable def tri:D->Option (Int × Int)
 | .tup [.int a,.int b,.int _]=>some (a,b)
 | _=>none
noncomputable def BU:List D->Option (List (Int × Int))
 | []=>some []
 | x::r=>(tri x).bind fun k=>(BU r).map (k :: ·)
noncomputable def wc:List (Int × Int)->Bool
 | a::b::r=>decide (a.2<b.2)&&wc (b::r)
 | _=>true
noncomputable def AY (xs:List D):Option D:=if xs.length<64 then (BU xs).bind fun ts=>if wc ts=true then some (.lst ((sortBy (fun a b=>decide (a.1<=b.1)) ((ts.map (·.1)).zip xs)).map (·.2))) else none else none
noncomputable def aw:List D->Option (List Int)
 | []=>some []
 | .int i::r=>(aw r).map (i :: ·)
 | _::_=>none
noncomputable def j2:List D->Option (List Bool)
 | []=>some []
 | .bl i::r=>(j2 r).map (i :: ·)
 | _::_=>none
noncomputable def items (os:OS):D->Option (List D)
 | .lst xs=>some xs
 | .tup xs=>some xs
 | .scr xs=>some xs
 | .ktu xs=>some xs
 | .cel n=>match aa os n with | some (.lst xs)=>some xs | _=>none
 | _=>none
noncomputable def isIn:D->List D->Option Bool
 | .int k,xs=>(aw xs).map fun ns=>decide (k∈ns)
 | _,_=>none
noncomputable def aA (os:OS):D->Option (List D)
 | .lst xs=>some xs
 | .scr xs=>some xs
 | .cel n=>match aa os n with | some (.lst xs)=>some xs | _=>none
 | _=>none
noncomputable def mC:D->Option (List D)
 | .tup xs=>some xs
 | .ktu xs=>some xs
 | _=>none
set_option genInjectivity false
inductive Cop where | eq | ne | lt | le | gt | ge | isN | notN | isIn | notIn | eqd | isB
inductive Ty where | int | bool | list | tuple | str
inductive Pr where
 | add | sub | mul | fdiv | mod | pow | shl | shr | band | bor | bxor | neg
 | cmp (o:Cop) | len | ix | sl (lo hi:Bool) | list | tuple | sum | all | any | min2 | max2 | min1 | max1 | maxD | sorted | sortT | srt2 (t:Nat) | srtR (t:Nat) | isInst (t:Ty)
 | popL | bitlen | append | extend | insert | pop | popAt | clear | reverse | index | get1 | get2 | setdef
noncomputable def iu (i j:Int):Prop:=(i.natAbs<2 ^ 64\/j.natAbs<2 ^ 64)\/(i.natAbs<2 ^ 2000/\j.natAbs<2 ^ 2000)
instance (i j:Int):Decidable (iu i j):=inferInstanceAs (Decidable (_\/_))
noncomputable def fA (i j:Int):Int:=(i.toNat &&& j.toNat:Nat)
noncomputable def D8 (i j:Int):Int:=i+j - fA i j
noncomputable def CG (i j:Int):Int:=i+j - fA i j - fA i j
noncomputable def yg (i:Int):Nat:=if i=0 then 0 else i.natAbs.log2+1
@[irreducible] def R.gd {α:Type} (c:Prop) [Decidable c] (r:R α):R α:=if c then r else .stk
theorem fG {α:Type} {c:Prop} [Decidable c] {r:R α} (h:c):R.gd c r=r:=by unfold R.gd; exact if_pos h
noncomputable def kE (o:Cop) (i j:Int):Option Bool:=match o with
 | .lt=>some (decide (i<j)) | .le=>some (decide (i<=j)) | .gt=>some (decide (j<i)) | .ge=>some (decide (j<=i)) | _=>none
noncomputable def cmp (o:Cop) (a b:D) (os:OS):R D:=match o with
 | .eq=>.ofO ((D.eq (aj os a) (aj os b)).map .bl) os
 | .ne=>.ofO ((D.eq (aj os a) (aj os b)).map fun x=>.bl (!x)) os
 | .eqd=>.ofO ((D.eq (deep os 4 a) (deep os 4 b)).map .bl) os
 | .isB=>(match a,b with | .bl x,.bl y=>.ok (.bl (x == y)) os | _,_=>.stk)
 | .isN=>match a,b with | .non,.non=>.ok (.bl true) os | _,.non=>.ok (.bl false) os | _,_=>.stk
 | .notN=>match a,b with | .non,.non=>.ok (.bl false) os | _,.non=>.ok (.bl true) os | _,_=>.stk
 | .isIn=>.ofO (((items os b).bind fun xs=>isIn a xs).map .bl) os
 | .notIn=>.ofO (((items os b).bind fun xs=>isIn a xs).map fun x=>.bl (!x)) os
 | o=>match a,b with
  | .int i,.int j=>.ofO ((kE o i j).map .bl) os
  | _,_=>.stk
noncomputable def zA:Ty->D->Option Bool
 | .int,.int _=>some true | .int,.bl _=>some true
 | .bool,.bl _=>some true
 | .list,.lst _=>some true
 | .tuple,.tup _=>some true
 | .str,.str _=>some true
 | _,.cel _=>none
 | _,.ktu _=>none
 | _,.scr _=>none
 | _,.exn _ _=>none
 | _,_=>some false
noncomputable def cq (f:Int->Int->R D):List D->R D
 | [.int i,.int j]=>f i j
 | _=>.stk
noncomputable def mL:List Int->Option Int
 | []=>none
 | x::r=>some (r.foldl (fun a b=>if b<a then b else a) x)
noncomputable def Bk:List Int->Option Int
 | []=>none
 | x::r=>some (r.foldl (fun a b=>if a<b then b else a) x)
noncomputable def slB:Bool->Bool->List D->Option (Option Int × Option Int)
 | false,false,[]=>some (none,none)
 | true,false,[.int a]=>some (some a,none)
 | false,true,[.int b]=>some (none,some b)
 | true,true,[.int a,.int b]=>some (some a,some b)
 | _,_,_=>none
noncomputable def slK (os:OS):D->Option (Option Int × Option Int)->R D
 | .lst xs,some (a,b)=>.ok (.lst (cut xs a b)) os
 | .scr xs,some (a,b)=>.ok (.lst (cut xs a b)) os
 | .tup xs,some (a,b)=>.gd (¬ (mJ xs.length 0 a=0/\mJ xs.length xs.length b=xs.length)) (.ok (.tup (cut xs a b)) os)
 | _,_=>.stk
noncomputable def CS (n:Nat) (xs:List D) (os:OS):Option Nat->R D
 | some j=>(match xs[j]? with | some y=>.ok y (os.set n (some (.lst (xs.eraseIdx j)))) | none=>.stk)
 | none=>.stk
noncomputable def pr (p:Pr) (ds:List D) (os:OS):R D:=match p with
 | .add=>(match ds with
  | [.int i,.int j]=>.ok (.int (i+j)) os
  | [.tup xs,.tup ys]=>.gd (xs≠[]/\xs.length+ys.length<=SZ) (.ok (.tup (xs++ys)) os)
  | [a,b]=>(match aj os a,aj os b with
   | .lst xs,.lst ys=>.gd (xs.length+ys.length<=SZ) (.ok (.lst (xs++ys)) os)
   | _,_=>.stk)
  | _=>.stk)
 | .sub=>cq (fun i j=>.ok (.int (i - j)) os) ds
 | .mul=>(match ds with
  | [.int i,.int j]=>.gd (iu i j) (.ok (.int (i * j)) os)
  | [.lst xs,.int k]=>.gd (-(2 ^ 63)<=k/\k<2 ^ 63/\xs.length * k.toNat<=SZ) (.ok (.lst (List.replicate k.toNat xs).flatten) os)
  | _=>.stk)
 | .fdiv=>cq (fun i j=>.gd (0<j/\j<2 ^ 200) (.ok (.int (i / j)) os)) ds
 | .mod=>cq (fun i j=>.gd (0<j) (.ok (.int (i % j)) os)) ds
 | .pow=>cq (fun i j=>.gd (0<=j/\j<=1000000/\i.natAbs<2 ^ 64) (.ok (.int (i ^ j.toNat)) os)) ds
 | .shl=>cq (fun i j=>.gd (0<=j/\j<=1000000/\i.natAbs<2 ^ 200) (.ok (.int (i * 2 ^ j.toNat)) os)) ds
 | .shr=>cq (fun i j=>.gd (0<=j) (.ok (.int (i / 2 ^ j.toNat)) os)) ds
 | .band=>cq (fun i j=>.gd (0<=i/\0<=j) (.ok (.int (fA i j)) os)) ds
 | .bor=>cq (fun i j=>.gd (0<=i/\0<=j) (.ok (.int (D8 i j)) os)) ds
 | .bxor=>cq (fun i j=>.gd (0<=i/\0<=j) (.ok (.int (CG i j)) os)) ds
 | .neg=>(match ds with | [.int i]=>.ok (.int (-i)) os | _=>.stk)
 | .cmp o=>(match ds with | [a,b]=>cmp o a b os | _=>.stk)
 | .len=>(match ds with
  | [.cel n]=>(match aa os n with | some (.lst xs)=>.ok (.int xs.length) os | some (.dct false kvs)=>.ok (.int kvs.length) os | _=>.stk)
  | [.lst xs]=>.ok (.int xs.length) os
  | [.scr xs]=>.ok (.int xs.length) os
  | [.ktu xs]=>.ok (.int xs.length) os
  | [.tup xs]=>.ok (.int xs.length) os
  | [.str s]=>.gd (s.length<=SZ) (.ok (.int s.length) os)
  | _=>.stk)
 | .ix=>(match ds with
  | [.cel n,k]=>(match aa os n,k with
   | some (.lst xs),.int i=>.ofO ((aO xs.length i).bind fun j=>xs[j]?) os
   | some (.dct t kvs),k=>.gd (keyOk t k=true) (.ofO (bu k kvs) os)
   | _,_=>.stk)
  | [.lst xs,.int i]=>.ofO ((aO xs.length i).bind fun j=>xs[j]?) os
  | [.scr xs,.int i]=>.ofO ((aO xs.length i).bind fun j=>xs[j]?) os
  | [.ktu xs,.int i]=>.ofO ((aO xs.length i).bind fun j=>xs[j]?) os
  | [.tup xs,.int i]=>.ofO ((aO xs.length i).bind fun j=>xs[j]?) os
  | [.str s,.int i]=>.gd (s.length<=SZ) (.ofO ((aO s.length i).bind fun j=>(s[j]?).map fun c=>.str [c]) os)
  | _=>.stk)
 | .sl lo hi=>(match ds with
  | x::r=>slK os (aj os x) (slB lo hi r)
  | _=>.stk)
 | .list=>(match ds with | [x]=>.ofO ((items os x).map .lst) os | _=>.stk)
 | .tuple=>(match ds with | [.ktu _]=>.stk | [x]=>.ofO ((items os x).map .tup) os | _=>.stk)
 | .sum=>(match ds with
  | [x]=>(match (aA os x).bind aw with
   | some ns=>.ok (.int ns.sum) os
   | none=>.stk)
  | _=>.stk)
 | .all=>(match ds with | [x]=>.ofO (((aA os x).bind j2).map fun bs=>.bl (bs.all id)) os | _=>.stk)
 | .any=>(match ds with | [x]=>.ofO (((aA os x).bind j2).map fun bs=>.bl (bs.any id)) os | _=>.stk)
 | .min2=>cq (fun i j=>.ok (.int (if j<i then j else i)) os) ds
 | .max2=>cq (fun i j=>.ok (.int (if i<j then j else i)) os) ds
 | .min1=>(match ds with | [x]=>.ofO (((aA os x).bind aw).bind fun ns=>(mL ns).map .int) os | _=>.stk)
 | .max1=>(match ds with | [x]=>.ofO (((aA os x).bind aw).bind fun ns=>(Bk ns).map .int) os | _=>.stk)
 | .maxD=>(match ds with | [x,d]=>.ofO (((aA os x).bind aw).bind fun ns=>match Bk ns with | some m=>some (.int m) | none=>some d) os | _=>.stk)
 | .sorted=>(match ds with | [x]=>.ofO (((aA os x).bind aw).bind Fj) os | _=>.stk)
 | .sortT=>(match ds with | [x]=>.ofO ((aA os x).bind AY) os | _=>.stk)
 | .srt2 t=>(match ds with | [x]=>.gd (oP t (aa os t)=true) (.ofO ((aA os x).bind jD) os) | _=>.stk)
 | .srtR t=>(match ds with | [.int n,y]=>.gd (oP t (aa os t)=true) (.ofO ((aA os y).bind (Dm n)) os) | _=>.stk)
 | .isInst t=>(match ds with | [x]=>.ofO ((zA t (aj os x)).map .bl) os | _=>.stk)
 | .bitlen=>(match ds with | [.int i]=>.ok (.int (yg i)) os | _=>.stk)
 | .append=>(match ds with
  | [.cel n,y]=>(match aa os n with | some (.lst xs)=>.gd (xs.length<SZ) (.ok .non (os.set n (some (.lst (xs++[y]))))) | _=>.stk)
  | _=>.stk)
 | .extend=>(match ds with
  | [.cel n,y]=>(match aa os n,aj os y with | some (.lst xs),.lst ys=>.gd (xs.length+ys.length<=SZ) (.ok .non (os.set n (some (.lst (xs++ys))))) | _,_=>.stk)
  | _=>.stk)
 | .insert=>(match ds with
  | [.cel n,.int i,y]=>(match aa os n with | some (.lst xs)=>.gd (0<=i/\i<=xs.length/\xs.length<SZ) (.ok .non (os.set n (some (.lst (xs.take i.toNat++y::xs.drop i.toNat))))) | _=>.stk)
  | _=>.stk)
 | .pop=>(match ds with
  | [.cel n]=>(match aa os n with | some (.lst xs)=>(match xs.getLast? with | some y=>.ok y (os.set n (some (.lst xs.dropLast))) | none=>.stk) | _=>.stk)
  | _=>.stk)
 | .popL=>(match ds with
  | [.cel n,.int i]=>(match aa os n with | some (.lst xs)=>CS n xs os (aO xs.length i) | _=>.stk)
  | _=>.stk)
 | .popAt=>(match ds with
  | [.cel n,k]=>(match aa os n with
   | some (.dct t kvs)=>.gd (keyOk false k=true/\t=false) (match bu k kvs with | some v=>.ok v (os.set n (some (.dct t (DJ k kvs)))) | _=>.stk)
   | _=>.stk)
  | _=>.stk)
 | .clear=>(match ds with
  | [.cel n]=>(match aa os n with | some (.lst _)=>.ok .non (os.set n (some (.lst []))) | _=>.stk)
  | _=>.stk)
 | .reverse=>(match ds with
  | [.cel n]=>(match aa os n with | some (.lst xs)=>.ok .non (os.set n (some (.lst xs.reverse))) | _=>.stk)
  | _=>.stk)
 | .index=>(match ds with
  | [x,.int k]=>(match aj os x with | .lst xs=>.ofO ((aw xs).bind fun ns=>(ns.findIdx? fun z=>decide (z=k)).map fun j=>.int (j:Nat)) os | _=>.stk)
  | _=>.stk)
 | .get1=>(match ds with
  | [.cel n,k]=>(match aa os n with | some (.dct t kvs)=>.gd (keyOk t k=true) (.ok ((bu k kvs).getD .non) os) | _=>.stk)
  | _=>.stk)
 | .get2=>(match ds with
  | [.cel n,k,d]=>(match aa os n with | some (.dct t kvs)=>.gd (keyOk t k=true) (.ok ((bu k kvs).getD d) os) | _=>.stk)
  | _=>.stk)
 | .setdef=>(match ds with
  | [.cel n,k,d]=>(match aa os n with
   | some (.dct t kvs)=>.gd (keyOk t k=true/\kvs.length<SZ) (match bu k kvs with
    | some v=>.ok v os
    | none=>.ok d (os.set n (some (.dct t (et k d kvs)))))
   | _=>.stk)
  | _=>.stk)
inductive Tg where | v (i:Nat) | tup (is:List Nat)
mutual
inductive E where
 | v (i:Nat) | c (d:D) | g (i:Nat)
 | pr (p:Pr) (es:Es) | bm (p:Pr) (o:E) (es:Es)
 | call (f:Nat) (es:Es) | callP (f:Nat) (es:Es)
 | meth (m:Nat) (o:E) (es:Es) | methP (m:Nat) (o:E) (es:Es) | mk (c:Nat) (es:Es) | fld (o:E) (f:Nat)
 | and (a b:E) | or (a b:E) | not (a:E) | ite (c:C) (a b:E)
 | chain (o1:Cop) (o2:Cop) (a b c:E) | chain3 (o1 o2 o3:Cop) (a b c d:E)
 | tup (es:Es) | lst (es:Es) | cell (e:E) | dict (t:Bool) | fz (e:E) | asI (e:E)
 | comp (nl:Nat) (fr:List Nat) (t:Tg) (it:It) (cd:C) (el:E)
 | sortK (e:E) (k:Kf)
inductive Es where | nil | cons (e:E) (es:Es)
inductive C where | tt | e (e:E) | and (a b:C) | or (a b:C) | not (a:C)
inductive It where | seq (e:E) | rng (es:Es) | enum (s:Int) (e:E) | zip (a b:E) | zrev (a b:E) | rev (e:E)
inductive Kf where | second | secondOf (i:Nat)
end
inductive HE where | inst (b:Bool) | v (j:Nat) (b:Bool) | k (b:Bool) | not (a:HE) | one (a:HE) | and (a b:HE) | or (a b:HE)
inductive HS where | set (j:Nat) (e:HE) | skip (t:HE) | ret (e:HE)
noncomputable def HE.val:HE->Bool
 | .inst b=>b
 | .v _ b=>b
 | .k b=>b
 | .not a => !a.val
 | .one a=>a.val
 | .and a b=>a.val&&b.val
 | .or a b=>a.val||b.val
noncomputable def lz:List HS->List (Nat × Bool) × Option Bool
 | []=>([],none)
 | .set j e::r=>((j,e.val)::(lz r).1,(lz r).2)
 | .skip _::r=>lz r
 | .ret e::_=>([],some e.val)
mutual
inductive S where
 | set (i:Nat) (e:E) | tset (is:List Nat) (e:E) | setix (o i e:E) | setfld (o:E) (f:Nat) (e:E)
 | aug (i:Nat) (p:Pr) (e:E) | augfld (o:E) (f:Nat) (p:Pr) (e:E) | augix (o i:E) (p:Pr) (e:E)
 | ex (e:E) | ret (e:E) | retN | ite (c:C) (a b:Ss) | wh (c:C) (b:Ss) | fr (t:Tg) (it:It) (b:Ss)
 | brk | cont | pass | stop | raise (c:Nat) (es:Es) | tryC (f:Nat) (es:Es) (i:Nat) (hs:List (Nat × List HS)) | tryM (c:Nat) (es:Es) (i:Nat) (hs:List (Nat × List HS))
inductive Ss where | nil | cons (s:S) (r:Ss)
end
structure FD where
 n:Nat
 body:Ss
 tb:Option Nat:=none
structure Pg where
 fn:Nat->Option FD
 g:Nat->D
 meth:Nat->Nat->Option Nat
 ini:Nat->Option Nat
noncomputable def Aq (f:Nat):List (Nat × D)->Option D
 | []=>none
 | (g,d)::r=>if g=f then some d else Aq f r
noncomputable def yh (f:Nat) (d:D):List (Nat × D)->List (Nat × D)
 | []=>[(f,d)]
 | (g,u)::r=>if g=f then (g,d)::r else (g,u)::yh f d r
mutual
noncomputable def D.low (n:Nat):D->Bool
 | .lst xs=>D.lows n xs
 | .tup xs=>D.lows n xs
 | .scr xs=>D.lows n xs
 | .ktu xs=>D.lows n xs
 | .cel m=>decide (m<n)
 | _=>true
noncomputable def D.lows (n:Nat):List D->Bool
 | []=>true
 | x::r=>x.low n&&D.lows n r
end
open Classical in
noncomputable def aS (os:OS):R D->R D
 | .ok d os'=>if os'.take os.length=os/\d.low os.length=true then .ok d os else .stk
 | .exc c p os'=>if os'.take os.length=os then .exc c p os else .stk
 | .stk=>.stk
theorem lA {os ex:OS} {d:D} (h:d.low os.length=true):aS os (.ok d (os++ex))=.ok d os:=by
 unfold aS
 simp [h]
theorem pz {os ex:OS} {c:Nat} {p:Option Int}:aS os (.exc c p (os++ex))=.exc c p os:=by
 unfold aS
 simp
theorem fU {os:OS} {d:D} (h:d.low os.length=true):aS os (.ok d os)=.ok d os:=by
 have:=lA (ex:=[]) h
 rwa [List.append_nil] at this
theorem lR {os:OS} {c:Nat} {p:Option Int}:aS os (.exc c p os)=.exc c p os:=by
 have:=pz (os:=os) (ex:=[]) (c:=c) (p:=p)
 rwa [List.append_nil] at this
noncomputable def lk:Fr->Nat->Option D
 | [],_=>none
 | x::_,0=>x
 | _::r,i+1=>lk r i
noncomputable def st:Fr->Nat->D->Fr
 | [],_,_=>[]
 | _::r,0,d=>some d::r
 | x::r,i+1,d=>x::st r i d
noncomputable def dG:Fr->List Nat->List D->Option Fr
 | ρ,[],[]=>some ρ
 | ρ,i::is,d::ds=>dG (st ρ i d) is ds
 | _,_,_=>none
noncomputable def aF:Tg->D->Fr->Option Fr
 | .v i,d,ρ=>some (st ρ i d)
 | .tup is,.tup ds,ρ=>dG ρ is ds
 | .tup _,_,_=>none
noncomputable abbrev Orc:=Nat->List D->OS->R D
noncomputable def aX (os:OS):List D->OS->Prop
 | [],_=>True
 | .cel n::r,os'=>aa os' n=aa os n/\aX os r os'
 | _::r,os'=>aX os r os'
noncomputable instance (os:OS) (d:List D):DecidablePred (aX os d):=fun _=>Classical.propDecidable _
noncomputable def eW {α:Type}:R α->R α
 | .exc _ _ _=>.stk
 | .ok a os=>.ok a os
 | .stk=>.stk
noncomputable def qt:Option D->List D->List D
 | some y,ys=>y::ys
 | none,ys=>ys
noncomputable def cz [f:Kt D (Option D)] (live:OS->Prop) [DecidablePred live]:List D->OS->R (List D)
 | [],os=>if live os then .ok [] os else .stk
 | x::r,os=>if live os then (f.go x os).bind (k:=⟨fun y os1=>(cz live r os1).bind (k:=⟨fun ys os2=>.ok (qt y ys) os2⟩)⟩) else .stk
noncomputable def mZ [k:Ko D]:D->OS->R D
 | .bl true,os=>k.go os
 | .bl false,os=>.ok (.bl false) os
 | _,_=>.stk
noncomputable def orK [k:Ko D]:D->OS->R D
 | .bl true,os=>.ok (.bl true) os
 | .bl false,os=>k.go os
 | _,_=>.stk
noncomputable def Fg:D->OS->R D
 | .bl b,os=>.ok (.bl (!b)) os
 | _,_=>.stk
noncomputable def eh {α:Type} [a:Ko α] [b:Ko α]:Bool->OS->R α
 | true,os=>a.go os
 | false,os=>b.go os
noncomputable def cellK:D->OS->R D
 | .lst xs,os=>.ok (.cel os.length) (os++[some (.lst xs)])
 | _,_=>.stk
noncomputable def Dv:D->OS->R D
 | .int i,os=>.ok (.int i) os
 | _,_=>.stk
noncomputable def fzC (n:Nat) (os:OS):Option Cell->R D
 | some (.lst xs)=>.ok (.lst xs) (os.set n none)
 | _=>.stk
noncomputable def fzK:D->OS->R D
 | .cel n,os=>fzC n os (aa os n)
 | _,_=>.stk
noncomputable def E3 (f:Nat) (os:OS):Option Cell->R D
 | some (.ins _ fs)=>.ofO (Aq f fs) os
 | _=>.stk
noncomputable def Cw (f:Nat):D->OS->R D
 | .cel n,os=>E3 f os (aa os n)
 | _,_=>.stk
noncomputable def C5 (P:Pg) (m:Nat):Option Cell->Option Nat
 | some (.ins c _)=>P.meth c m
 | _=>none
noncomputable def p6 (P:Pg) (m:Nat) (os:OS):D->Option Nat
 | .cel n=>C5 P m (aa os n)
 | _=>none
noncomputable def wV [k:Kt Nat D] (os:OS):Option Nat->R D
 | some f=>k.go f os
 | none=>.stk
noncomputable def C6 (n:Nat):D->OS->R D
 | .non,os=>.ok (.cel n) os
 | _,_=>.stk
noncomputable def mkK (K:Orc) (c:Nat) (ds:List D) (os:OS):Option Nat->R D
 | some f=>(K f (.cel os.length::ds) (os++[some (.ins c [])])).bind (k:=⟨fun d os2=>C6 os.length d os2⟩)
 | none=>.stk
noncomputable def ly:List D->OS->R (List D × List D)
 | [.int j],os=>.gd (-(2 ^ 62)<=j/\j<2 ^ 62) (.ok ([],(List.range j.toNat).map fun k=>.int (k:Nat)) os)
 | [.int i,.int j],os=>.gd (-(2 ^ 62)<=i/\i<2 ^ 62/\-(2 ^ 62)<=j/\j<2 ^ 62) (.ok ([],(List.range (j - i).toNat).map fun k=>.int (i+(k:Nat))) os)
 | [.int i,.int j,.int c],os=>.gd (-(2 ^ 40)<=i/\i<2 ^ 40/\-(2 ^ 40)<=j/\j<2 ^ 40/\0<c/\c<2 ^ 29) (.ok ([],(List.range (if i<j then (j - i - 1) / c+1 else 0).toNat).map fun k=>.int (i+(k:Nat) * c)) os)
 | _,_=>.stk
noncomputable def Cq (a b:D) (os:OS):Option (List D)->Option (List D)->R (List D × List D)
 | some xs,some ys=>.ok ([a,b],(xs.zip ys).map fun p=>.tup [p.1,p.2]) os
 | _,_=>.stk
noncomputable def fW (ρ:Fr) (nl:Nat) (fr:List Nat):Fr:=List.replicate nl none++fr.map fun j=>lk ρ j
noncomputable def jg [k:Kt Fr (Option D)] (os:OS):Option Fr->R (Option D)
 | some τ=>k.go τ os
 | none=>.stk
noncomputable def keyOf (ρ:Fr) (os:OS):Kf->D->Option Int
 | .second,.tup [_,.int k]=>some k
 | .secondOf i,.int j=>match (lk ρ i).bind (items os) with
  | some xs=>(match (aO xs.length j).bind fun n=>xs[n]? with | some (.tup [_,.int k])=>some k | _=>none)
  | none=>none
 | _,_=>none
noncomputable def keysOf (f:D->Option Int):List D->Option (List (Int × D))
 | []=>some []
 | x::r=>match f x,keysOf f r with | some k,some l=>some ((k,x)::l) | _,_=>none
noncomputable def Ad (f:D->Option Int) (os:OS):Option (List D)->R D
 | some xs=>.ofO ((keysOf f xs).map fun l=>.lst ((sortBy (fun a b=>decide (a.1<=b.1)) l).map (·.2))) os
 | none=>.stk
inductive Rk where | list | dict | int | str
noncomputable def gw:Pr->Rk
 | .get1=>.dict | .get2=>.dict | .setdef=>.dict | .popAt=>.dict
 | .bitlen=>.int
 | _=>.list
noncomputable def iB:Rk->Option Cell->Bool
 | .list,some (.lst _)=>true
 | .dict,some (.dct _ _)=>true
 | _,_=>false
noncomputable def recv (os:OS):Rk->D->Bool
 | .int,.int _=>true
 | .str,.str _=>true
 | .list,.lst _=>true
 | .list,.scr _=>true
 | k,.cel n=>iB k (aa os n)
 | _,_=>false
section
variable (P:Pg) (K:Orc)
mutual
noncomputable def ev:E->Fr->OS->R D
 | .v i,ρ,os=>.ofO (lk ρ i) os
 | .c d,_,os=>.ok d os
 | .g i,_,os=>.ok (P.g i) os
 | .pr p es,ρ,os=>(evs es ρ os).bind (k:=⟨fun ds os1=>pr p ds os1⟩)
 | .bm p o es,ρ,os=>(ev o ρ os).bind (k:=⟨fun d os1=>.gd (recv os1 (gw p) d=true) ((evs es ρ os1).bind (k:=⟨fun ds os2=>pr p (d::ds) os2⟩))⟩)
 | .call f es,ρ,os=>(evs es ρ os).bind (k:=⟨fun ds os1=>K f ds os1⟩)
 | .callP f es,ρ,os=>(evs es ρ os).bind (k:=⟨fun ds os1=>aS os1 (K f ds os1)⟩)
 | .meth m o es,ρ,os=>(ev o ρ os).bind (k:=⟨fun d os1=>wV (k:=⟨fun f os2=>(evs es ρ os2).bind (k:=⟨fun ds os3=>K f (d::ds) os3⟩)⟩) os1 (p6 P m os1 d)⟩)
 | .methP m o es,ρ,os=>(ev o ρ os).bind (k:=⟨fun d os1=>wV (k:=⟨fun f os2=>(evs es ρ os2).bind (k:=⟨fun ds os3=>aS os3 (K f (d::ds) os3)⟩)⟩) os1 (p6 P m os1 d)⟩)
 | .mk c es,ρ,os=>(evs es ρ os).bind (k:=⟨fun ds os1=>mkK K c ds os1 (P.ini c)⟩)
 | .fld o f,ρ,os=>(ev o ρ os).bind (k:=⟨fun d os1=>Cw f d os1⟩)
 | .and a b,ρ,os=>(ev a ρ os).bind (k:=⟨fun d os1=>mZ (k:=⟨fun os2=>ev b ρ os2⟩) d os1⟩)
 | .or a b,ρ,os=>(ev a ρ os).bind (k:=⟨fun d os1=>orK (k:=⟨fun os2=>ev b ρ os2⟩) d os1⟩)
 | .not a,ρ,os=>(ev a ρ os).bind (k:=⟨fun d os1=>Fg d os1⟩)
 | .ite c a b,ρ,os=>(evC c ρ os).bind (k:=⟨fun t os1=>eh (a:=⟨fun os2=>ev a ρ os2⟩) (b:=⟨fun os2=>ev b ρ os2⟩) t os1⟩)
 | .chain o1 o2 a b c,ρ,os=>(ev a ρ os).bind (k:=⟨fun x os1=>(ev b ρ os1).bind (k:=⟨fun y os2=>(cmp o1 x y os2).bind (k:=⟨fun z os3 =>
   mZ (k:=⟨fun os4=>(ev c ρ os4).bind (k:=⟨fun w os5=>cmp o2 y w os5⟩)⟩) z os3⟩)⟩)⟩)
 | .chain3 o1 o2 o3 a b c d,ρ,os=>(ev a ρ os).bind (k:=⟨fun x os1=>(ev b ρ os1).bind (k:=⟨fun y os2=>(cmp o1 x y os2).bind (k:=⟨fun z os3 =>
   mZ (k:=⟨fun os4=>(ev c ρ os4).bind (k:=⟨fun w os5=>(cmp o2 y w os5).bind (k:=⟨fun z2 os6=>mZ (k:=⟨fun os7=>(ev d ρ os7).bind (k:=⟨fun u os8=>cmp o3 w u os8⟩)⟩) z2 os6⟩)⟩)⟩) z os3⟩)⟩)⟩)
 | .tup es,ρ,os=>(evs es ρ os).bind (k:=⟨fun ds os1=>.ok (.tup ds) os1⟩)
 | .lst es,ρ,os=>(evs es ρ os).bind (k:=⟨fun ds os1=>.ok (.lst ds) os1⟩)
 | .cell e,ρ,os=>(ev e ρ os).bind (k:=⟨fun d os1=>cellK d os1⟩)
 | .dict t,_,os=>.ok (.cel os.length) (os++[some (.dct t [])])
 | .fz e,ρ,os=>(ev e ρ os).bind (k:=⟨fun d os1=>fzK d os1⟩)
 | .asI e,ρ,os=>(ev e ρ os).bind (k:=⟨fun d os1=>Dv d os1⟩)
 | .comp nl fr t it cd el,ρ,os=>(evI it ρ os).bind (k:=⟨fun xs os1=>.gd (xs.2.length<=SZ)
   ((cz (f:=⟨fun x os2=>eW (jg (k:=⟨fun τ os3=>(evC cd τ os3).bind (k:=⟨fun b os4=>eh (a:=⟨fun os5=>(ev el τ os5).bind (k:=⟨fun y os6=>.ok (some y) os6⟩)⟩) (b:=⟨fun os5=>.ok none os5⟩) b os4⟩)⟩) os2
    (aF t x (fW ρ nl fr)))⟩) (aX os1 xs.1) xs.2 os1).bind (k:=⟨fun ys os3=>.ok (.lst ys) os3⟩))⟩)
 | .sortK e k,ρ,os=>(ev e ρ os).bind (k:=⟨fun d os1=>Ad (keyOf ρ os1 k) os1 (items os1 d)⟩)
noncomputable def evs:Es->Fr->OS->R (List D)
 | .nil,_,os=>.ok [] os
 | .cons e es,ρ,os=>(ev e ρ os).bind (k:=⟨fun d os1=>(evs es ρ os1).bind (k:=⟨fun ds os2=>.ok (d::ds) os2⟩)⟩)
noncomputable def evC:C->Fr->OS->R Bool
 | .tt,_,os=>.ok true os
 | .e e,ρ,os=>(ev e ρ os).bind (k:=⟨fun d os1=>.ofO (truth os1 d) os1⟩)
 | .and a b,ρ,os=>(evC a ρ os).bind (k:=⟨fun x os1=>eh (a:=⟨fun os2=>evC b ρ os2⟩) (b:=⟨fun os2=>.ok false os2⟩) x os1⟩)
 | .or a b,ρ,os=>(evC a ρ os).bind (k:=⟨fun x os1=>eh (a:=⟨fun os2=>.ok true os2⟩) (b:=⟨fun os2=>evC b ρ os2⟩) x os1⟩)
 | .not a,ρ,os=>(evC a ρ os).bind (k:=⟨fun x os1=>.ok (!x) os1⟩)
noncomputable def evI:It->Fr->OS->R (List D × List D)
 | .seq e,ρ,os=>(ev e ρ os).bind (k:=⟨fun d os1=>.ofO ((items os1 d).map fun xs=>([d],xs)) os1⟩)
 | .rng es,ρ,os=>(evs es ρ os).bind (k:=⟨fun ds os1=>ly ds os1⟩)
 | .enum s e,ρ,os=>(ev e ρ os).bind (k:=⟨fun d os1=>.ofO ((aA os1 d).map fun xs=>([d],(xs.zipIdx).map fun p=>.tup [.int (s+(p.2:Nat)),p.1])) os1⟩)
 | .zip a b,ρ,os=>(ev a ρ os).bind (k:=⟨fun x os1=>(ev b ρ os1).bind (k:=⟨fun y os2=>Cq x y os2 (aA os2 x) (aA os2 y)⟩)⟩)
 | .zrev a b,ρ,os=>(ev a ρ os).bind (k:=⟨fun x os1=>(ev b ρ os1).bind (k:=⟨fun y os2=>Cq x y os2 (((aA os2 x).bind aw).map fun ns=>(ns.map D.int).reverse) (mC y)⟩)⟩)
 | .rev e,ρ,os=>(ev e ρ os).bind (k:=⟨fun d os1=>.ofO ((aA os1 d).map fun xs=>([d],xs.reverse)) os1⟩)
end
end
inductive Flow where | nx | rt (d:D) | bk | ct
noncomputable abbrev Rs:=R (Flow × Fr)
noncomputable def sj [k:Kt Fr (Flow × Fr)]:Flow × Fr->OS->Rs
 | (.nx,ρ),os=>k.go ρ os
 | (.rt d,ρ),os=>.ok (.rt d,ρ) os
 | (.bk,ρ),os=>.ok (.bk,ρ) os
 | (.ct,ρ),os=>.ok (.ct,ρ) os
noncomputable def nh [k:Kt Fr (Flow × Fr)]:Flow × Fr->OS->Rs
 | (.nx,ρ),os=>k.go ρ os
 | (.ct,ρ),os=>k.go ρ os
 | (.bk,ρ),os=>.ok (.nx,ρ) os
 | (.rt d,ρ),os=>.ok (.rt d,ρ) os
class Kb where
 go:D->Fr->OS->Rs
noncomputable def forL [body:Kb] (live:OS->Prop) [DecidablePred live]:List D->Fr->OS->Rs
 | [],ρ,os=>if live os then .ok (.nx,ρ) os else .stk
 | x::r,ρ,os=>if live os then (body.go x ρ os).bind (k:=⟨nh (k:=⟨fun ρ1 os1=>forL live r ρ1 os1⟩)⟩) else .stk
noncomputable def whL [c:Kt Fr Bool] [body:Kt Fr (Flow × Fr)]:Nat->Fr->OS->Rs
 | 0,_,_=>.stk
 | n+1,ρ,os=>(c.go ρ os).bind (k:=⟨eh (a:=⟨fun os1=>(body.go ρ os1).bind (k:=⟨nh (k:=⟨fun ρ1 os2=>whL n ρ1 os2⟩)⟩)⟩) (b:=⟨fun os1=>.ok (.nx,ρ) os1⟩)⟩)
noncomputable def vR (n:Nat) (xs:List D) (x:D) (os:OS):Option Nat->R Unit
 | some j=>.ok () (os.set n (some (.lst (xs.set j x))))
 | none=>.stk
noncomputable def setC (n:Nat) (x:D) (os:OS):Option Cell->D->R Unit
 | some (.lst xs),.int i=>vR n xs x os (aO xs.length i)
 | some (.dct t kvs),k=>.gd (keyOk t k=true/\kvs.length<SZ) (.ok () (os.set n (some (.dct t (et k x kvs)))))
 | _,_=>.stk
noncomputable def iW:D->D->D->OS->R Unit
 | .cel n,k,x,os=>setC n x os (aa os n) k
 | _,_,_,_=>.stk
noncomputable def kW (n f:Nat) (x:D) (ρ:Fr) (os:OS):Option Cell->Rs
 | some (.ins c fs)=>.gd (fs.length<900) (.ok (.nx,ρ) (os.set n (some (.ins c (yh f x fs)))))
 | _=>.stk
noncomputable def putK (f:Nat) (x:D) (ρ:Fr):D->OS->Rs
 | .cel n,os=>kW n f x ρ os (aa os n)
 | _,_=>.stk
noncomputable def nxO (os:OS):Option Fr->Rs
 | some ρ=>.ok (.nx,ρ) os
 | none=>.stk
noncomputable def xT (p:Pr) [k:Kt D (Flow × Fr)]:D->D->OS->Rs
 | .int x,.int z,os=>(pr p [.int x,.int z] os).bind
 | _,_,_=>.stk
noncomputable def DW:Option Cell->Nat
 | some (.ins c _)=>c
 | _=>0
noncomputable def Et (n c0 f:Nat) (p:Pr) (ρ:Fr) (x y:D) (os:OS):Option Cell->Rs
 | some (.ins c fs)=>.gd (c=c0/\fs.length<900) (xT p (k:=⟨fun w os3=>.ok (.nx,ρ) (os3.set n (some (.ins c (yh f w fs))))⟩) x y os)
 | _=>.stk
noncomputable def dc [k:Kt Fr (Flow × Fr)] (os:OS):Option Fr->Rs
 | some ρ=>k.go ρ os
 | none=>.stk
noncomputable def pT (ws:List (Nat × Bool)) (ρ:Fr):Fr:=ws.foldl (fun ρ w=>st ρ w.1 (.bl w.2)) ρ
noncomputable def hdl (i:Nat) (ρ:Fr) (os:OS):Option (List HS)->Rs
 | some h=>(match lz h with | (ws,none)=>.ok (.nx,(pT ws ρ).set i none) os | (_,some b)=>.ok (.rt (.bl b),ρ) os)
 | none=>.stk
noncomputable def m8 (i:Nat) (hs:List (Nat × List HS)) (ρ:Fr):R D->Rs
 | .ok _ os=>.ok (.nx,ρ) os
 | .exc c _ os=>hdl i ρ os (hs.lookup c)
 | .stk=>.stk
noncomputable def jy {α β:Type} [k:Kt α β]:R α->R β
 | .ok a os=>k.go a os
 | _=>.stk
noncomputable def DO:List D->Option Int
 | [.int p]=>some p
 | _=>none
noncomputable def zJ:D->Nat
 | .cel n=>n
 | _=>0
section
variable (P:Pg) (K:Orc) (W:Nat)
mutual
noncomputable def exec:S->Fr->OS->Rs
 | .set i e,ρ,os=>(ev P K e ρ os).bind (k:=⟨fun d os1=>.ok (.nx,st ρ i d) os1⟩)
 | .tset is e,ρ,os=>(ev P K e ρ os).bind (k:=⟨fun d os1=>nxO os1 (aF (.tup is) d ρ)⟩)
 | .setix o i e,ρ,os=>(ev P K e ρ os).bind (k:=⟨fun x os1=>(ev P K o ρ os1).bind (k:=⟨fun d os2=>(ev P K i ρ os2).bind (k:=⟨fun k os3=>(iW d k x os3).bind (k:=⟨fun _ os4=>.ok (.nx,ρ) os4⟩)⟩)⟩)⟩)
 | .setfld o f e,ρ,os=>(ev P K e ρ os).bind (k:=⟨fun x os1=>(ev P K o ρ os1).bind (k:=⟨fun d os2=>putK f x ρ d os2⟩)⟩)
 | .aug i p e,ρ,os=>(R.ofO (lk ρ i) os).bind (k:=⟨fun x os0=>(ev P K e ρ os0).bind (k:=⟨fun y os1=>xT p (k:=⟨fun w os2=>.ok (.nx,st ρ i w) os2⟩) x y os1⟩)⟩)
 | .augfld o f p e,ρ,os=>(ev P K o ρ os).bind (k:=⟨fun d os1=>(Cw f d os1).bind (k:=⟨fun x os2=>(ev P K e ρ os2).bind (k:=⟨fun y os3=>Et (zJ d) (DW (aa os1 (zJ d))) f p ρ x y os3 (aa os3 (zJ d))⟩)⟩)⟩)
 | .augix o i p e,ρ,os=>(ev P K o ρ os).bind (k:=⟨fun d os1=>(ev P K i ρ os1).bind (k:=⟨fun k os2=>(I.pr .ix [d,k] os2).bind (k:=⟨fun x os3=>(ev P K e ρ os3).bind (k:=⟨fun y os4 =>
   xT p (k:=⟨fun w os5=>(iW d k w os5).bind (k:=⟨fun _ os6=>.ok (.nx,ρ) os6⟩)⟩) x y os4⟩)⟩)⟩)⟩)
 | .ex e,ρ,os=>(ev P K e ρ os).bind (k:=⟨fun _ os1=>.ok (.nx,ρ) os1⟩)
 | .ret e,ρ,os=>(ev P K e ρ os).bind (k:=⟨fun d os1=>.ok (.rt d,ρ) os1⟩)
 | .retN,ρ,os=>.ok (.rt .non,ρ) os
 | .ite c a b,ρ,os=>(evC P K c ρ os).bind (k:=⟨eh (a:=⟨fun os1=>execs a ρ os1⟩) (b:=⟨fun os1=>execs b ρ os1⟩)⟩)
 | .wh c b,ρ,os=>whL (c:=⟨fun ρ os=>evC P K c ρ os⟩) (body:=⟨fun ρ os=>execs b ρ os⟩) W ρ os
 | .fr t it b,ρ,os=>(evI P K it ρ os).bind (k:=⟨fun xs os1=>forL (body:=⟨fun x ρ os=>dc (k:=⟨fun ρ1 os2=>execs b ρ1 os2⟩) os (aF t x ρ)⟩) (aX os1 xs.1) xs.2 ρ os1⟩)
 | .brk,ρ,os=>.ok (.bk,ρ) os
 | .cont,ρ,os=>.ok (.ct,ρ) os
 | .pass,ρ,os=>.ok (.nx,ρ) os
 | .stop,_,_=>.stk
 | .tryM c es i hs,ρ,os=>jy (k:=⟨fun ds os1=>m8 i hs ρ (mkK K c ds os1 (P.ini c))⟩) (evs P K es ρ os)
 | .tryC f es i hs,ρ,os=>jy (k:=⟨fun ds os1=>m8 i hs ρ (K f ds os1)⟩) (evs P K es ρ os)
 | .raise c es,ρ,os=>(evs P K es ρ os).bind (k:=⟨fun ds os1=>.exc c (DO ds) os1⟩)
noncomputable def execs:Ss->Fr->OS->Rs
 | .nil,ρ,os=>.ok (.nx,ρ) os
 | .cons s r,ρ,os=>(exec s ρ os).bind (k:=⟨sj (k:=⟨fun ρ1 os1=>execs r ρ1 os1⟩)⟩)
end
noncomputable def ended:Rs->R D
 | .ok (.rt d,_) os=>.ok d os
 | .ok (.nx,_) os=>.ok .non os
 | .ok _ _=>.stk
 | .exc c p os=>.exc c p os
 | .stk=>.stk
noncomputable def Al (K:Orc) (ds:List D) (os:OS):Option FD->R D
 | some d=>ended (execs P K W d.body (ds.map some++List.replicate (d.n - ds.length) none) os)
 | none=>.stk
noncomputable def call:Nat->Orc
 | 0=>fun _ _ _=>.stk
 | k+1=>fun f ds os=>Al P W (call k) ds os (P.fn f)
end
theorem dX (P:Pg) (W k f:Nat) (ds:List D) (os:OS):call P W (k+1) f ds os=Al P W (call P W k) ds os (P.fn f):=rfl
end I
namespace I
section
variable {P:Pg} {K:Orc} {W:Nat} {ρ:Fr} {os:OS} {α β:Type}
theorem Cu:nxO os (some ρ)=.ok (.nx,ρ) os:=rfl
theorem As {x:Option D}:lk (x::ρ) 0=x:=rfl
theorem Dw {x:Option D} {i:Nat}:lk (x::ρ) (i+1)=lk ρ i:=rfl
theorem AN {x:Option D} {d:D}:st (x::ρ) 0 d=some d::ρ:=rfl
theorem Bj {x:Option D} {d:D} {i:Nat}:st (x::ρ) (i+1) d=x::st ρ i d:=rfl
theorem uh {is:List Nat} {ds:List D}:aF (.tup is) (.tup ds) ρ=dG ρ is ds:=rfl
theorem tH:dG ρ [] []=some ρ:=rfl
theorem sM {i:Nat} {is:List Nat} {d:D} {ds:List D}:dG ρ (i::is) (d::ds)=dG (st ρ i d) is ds:=rfl
theorem wW {i j:Int}:pr .add [.int i,.int j] os=.ok (.int (i+j)) os:=rfl
theorem wR {i j:Int}:pr .sub [.int i,.int j] os=.ok (.int (i - j)) os:=rfl
theorem BQ {i j:Int}:pr .mul [.int i,.int j] os=.gd (iu i j) (.ok (.int (i * j)) os):=rfl
theorem zg {i j:Int}:pr .fdiv [.int i,.int j] os=.gd (0<j/\j<2 ^ 200) (.ok (.int (i / j)) os):=rfl
theorem Aw {i j:Int}:pr .mod [.int i,.int j] os=.gd (0<j) (.ok (.int (i % j)) os):=rfl
theorem AG {i j:Int}:pr .pow [.int i,.int j] os=.gd (0<=j/\j<=1000000/\i.natAbs<2 ^ 64) (.ok (.int (i ^ j.toNat)) os):=rfl
theorem BA {i j:Int}:pr .shl [.int i,.int j] os=.gd (0<=j/\j<=1000000/\i.natAbs<2 ^ 200) (.ok (.int (i * 2 ^ j.toNat)) os):=rfl
theorem wt {i j:Int}:pr .shr [.int i,.int j] os=.gd (0<=j) (.ok (.int (i / 2 ^ j.toNat)) os):=rfl
theorem pV {i j:Int}:pr .band [.int i,.int j] os=.gd (0<=i/\0<=j) (.ok (.int (fA i j)) os):=rfl
theorem AA {i:Int}:pr .neg [.int i] os=.ok (.int (-i)) os:=rfl
theorem Bv {o:Cop} {a b:D}:pr (.cmp o) [a,b] os=cmp o a b os:=rfl
theorem Bl {i j:Int}:cmp .lt (.int i) (.int j) os=.ok (.bl (decide (i<j))) os:=rfl
theorem qg {i j:Int}:cmp .gt (.int i) (.int j) os=.ok (.bl (decide (j<i))) os:=rfl
theorem Dk {i j:Int}:cmp .ge (.int i) (.int j) os=.ok (.bl (decide (j<=i))) os:=rfl
theorem Ac {xs:List D}:pr .len [.lst xs] os=.ok (.int xs.length) os:=rfl
theorem Dx {xs:List D} {i:Int}:pr .ix [.lst xs,.int i] os=.ofO ((aO xs.length i).bind fun j=>xs[j]?) os:=rfl
theorem A0 {xs:List D} {i:Int}:pr .ix [.tup xs,.int i] os=.ofO ((aO xs.length i).bind fun j=>xs[j]?) os:=rfl
theorem xu {xs:List D}:pr .len [.scr xs] os=.ok (.int xs.length) os:=rfl
theorem B3 {xs:List D} {i:Int}:pr .ix [.scr xs,.int i] os=.ofO ((aO xs.length i).bind fun j=>xs[j]?) os:=rfl
theorem tW {xs:List D}:items os (.lst xs)=some xs:=rfl
theorem AD {b:Bool}:truth os (.bl b)=some b:=rfl
theorem B7 {f:α->β} {a:α}:Option.map f (some a)=some (f a):=rfl
theorem ue {f:α->Option β} {a:α}:Option.bind (some a) f=f a:=rfl
theorem y4 {j:Int}:ly [.int j] os=.gd (-(2 ^ 62)<=j/\j<2 ^ 62) (.ok ([],(List.range j.toNat).map fun k=>.int (k:Nat)) os):=rfl
theorem zp {i j:Int}:ly [.int i,.int j] os=.gd (-(2 ^ 62)<=i/\i<2 ^ 62/\-(2 ^ 62)<=j/\j<2 ^ 62) (.ok ([],(List.range (j - i).toNat).map fun k=>.int (i+(k:Nat))) os):=rfl
theorem yF {xs:List D}:cellK (.lst xs) os=.ok (.cel os.length) (os++[some (.lst xs)]):=rfl
theorem E4 {n:Nat}:fzK (.cel n) os=fzC n os (aa os n):=rfl
theorem Bu {n:Nat} {xs:List D}:fzC n os (some (.lst xs))=.ok (.lst xs) (os.set n none):=rfl
theorem oq {n:Nat} {k x:D}:iW (.cel n) k x os=setC n x os (aa os n) k:=rfl
theorem ot {n:Nat} {xs:List D} {x:D} {i:Int}:setC n x os (some (.lst xs)) (.int i)=vR n xs x os (aO xs.length i):=rfl
theorem y8 {n j:Nat} {xs:List D} {x:D}:vR n xs x os (some j)=.ok () (os.set n (some (.lst (xs.set j x)))):=rfl
end
end I
namespace I
section
variable {P:Pg} {K:Orc} {W:Nat} {ρ:Fr} {os:OS} {α β:Type}
noncomputable def Ok {α:Type} (r:R α) (Φ:α->OS->Prop):Prop:=match r with
 | .ok a os=>Φ a os
 | _=>False
theorem Ok.mono {r:R α} {Φ Ψ:α->OS->Prop} (h:Ok r Φ) (m:∀ a os,Φ a os->Ψ a os):Ok r Ψ:=by
 cases r <;> first | exact m _ _ h | exact h
theorem Ok.get {r:R α} {Φ:α->OS->Prop} (h:Ok r Φ):∃ a os,r=.ok a os/\Φ a os:=by
 cases r <;> first | exact ⟨_,_,rfl,h⟩ | exact h.elim
theorem bH {a:α} {Φ:α->OS->Prop}:Ok (.ok a os) Φ=Φ a os:=rfl
theorem qd {c:Prop} [Decidable c] {r:R α} {Φ:α->OS->Prop}:Ok (.gd c r) Φ=(c/\Ok r Φ):=by
 unfold R.gd
 by_cases h:c
 ·simp [h]
 ·simp [h,Ok]
theorem Ok.bind {r:R α} {f:α->OS->R β} {Φ:β->OS->Prop} (h:Ok r (fun a os=>Ok (f a os) Φ)):Ok (@R.bind α β r ⟨f⟩) Φ:=by
 cases r <;> exact h
theorem Ok.bind' {r:R α} {k:Kt α β} {Φ:β->OS->Prop} (h:Ok r (fun a os=>Ok (k.go a os) Φ)):Ok (@R.bind α β r k) Φ:=by
 cases r <;> exact h
theorem tU {t:Bool} {a b:Ko α} {Φ:α->OS->Prop}:Ok (eh (a:=a) (b:=b) t os) Φ=((t=true->Ok (a.go os) Φ)/\(t=false->Ok (b.go os) Φ)):=by
 cases t <;> simp [eh]
theorem zw {t:Bool} {k:Ko D} {Φ:D->OS->Prop}:Ok (mZ (k:=k) (.bl t) os) Φ=((t=true->Ok (k.go os) Φ)/\(t=false->Φ (.bl false) os)):=by
 cases t <;> simp [mZ,Ok]
theorem sU {r:Rs} {Φ:D->OS->Prop} (h:Ok r (fun f os=>match f.1 with | .rt d=>Φ d os | .nx=>Φ .non os | _=>False)):Ok (ended r) Φ:=by
 cases r with
 | stk=>exact h
 | exc c p os=>exact h
 | ok a os=>obtain ⟨fl,ρ⟩:=a; cases fl <;> exact h
theorem uF {f k:Nat} {d:FD} {ds:List D} {Φ:D->OS->Prop} (hd:P.fn f=some d) (h:Ok (ended (execs P (call P W k) W d.body (ds.map some++List.replicate (d.n - ds.length) none) os)) Φ):Ok (call P W (k+1) f ds os) Φ:=by
 rw [dX,hd]; exact h
theorem qf {r:R α} {Φ:α->OS->Prop} (h:Ok r Φ):Ok (eW r) Φ:=by
 cases r <;> exact h
theorem rW {body:Kb} {live:OS->Prop} [DecidablePred live] (Inv:Nat->Fr->OS->Prop) {Φ:Flow × Fr->OS->Prop}:∀ (xs ys:List D) {ρ:Fr} {os:OS},Inv ys.length ρ os ->
  (∀ i x ρ os,(ys++xs)[i]?=some x->Inv i ρ os->live os/\Ok (body.go x ρ os) (fun f os'=>(f.1=.nx/\Inv (i+1) f.2 os')\/(∃ d,f.1=.rt d/\Φ (.rt d,f.2) os'))) ->
  (∀ ρ os,Inv (ys++xs).length ρ os->live os/\Φ (.nx,ρ) os)->Ok (forL (body:=body) live xs ρ os) Φ
 | [],ys,ρ,os,h0,hs,he=>by
  have:=he ρ os (by rw [List.append_nil]; exact h0)
  unfold forL
  rw [if_pos this.1]
  exact this.2
 | x::r,ys,ρ,os,h0,hs,he=>by
  have h1:=hs ys.length x ρ os (by simp) h0
  unfold forL
  rw [if_pos h1.1]
  refine Ok.bind' (h1.2.mono fun f os' h => ?_)
  obtain ⟨fl,ρ'⟩:=f
  rcases h with ⟨e,h⟩ | ⟨d,e,h⟩
  ·cases (show fl=.nx from e)
   refine rW Inv r (ys++[x]) (by simpa using h) (fun i y ρ os hy=>hs i y ρ os (by simpa using hy)) (fun ρ os hh=>he ρ os (by simpa using hh))
  ·cases (show fl=.rt d from e)
   exact h
theorem lE {c:Kt Fr Bool} {body:Kt Fr (Flow × Fr)} {Inv:Nat->Fr->OS->Prop} {Φ:Flow × Fr->OS->Prop}
  (hs:∀ m ρ os,Inv m ρ os->Ok (c.go ρ os) (fun b os1=>(b=true->∃ m',m=m'+1/\Ok (body.go ρ os1) (fun f os'=>(f.1=.nx/\Inv m' f.2 os')\/(∃ d,f.1=.rt d/\Φ (.rt d,f.2) os')\/(f.1=.bk/\Φ (.nx,f.2) os')))/\(b=false->Φ (.nx,ρ) os1))):∀ (n m:Nat) {ρ:Fr} {os:OS},m<n->Inv m ρ os->Ok (whL (c:=c) (body:=body) n ρ os) Φ
 | 0,m,ρ,os,h,_=>by omega
 | n+1,m,ρ,os,h,hi=>by
  unfold whL
  refine Ok.bind' ((hs m ρ os hi).mono fun b os1 hb => ?_)
  cases b with
  | false=>exact hb.2 rfl
  | true =>
   obtain ⟨m',rfl,hb2⟩:=hb.1 rfl
   refine Ok.bind' (Ok.mono hb2 fun f os' hf => ?_)
   obtain ⟨fl,ρ'⟩:=f
   rcases hf with ⟨e,hf⟩ | ⟨d,e,hf⟩ | ⟨e,hf⟩
   ·cases (show fl=.nx from e)
    exact lE hs n m' (by omega) hf
   ·cases (show fl=.rt d from e)
    exact hf
   ·cases (show fl=.bk from e)
    exact hf
theorem uZ {f:Kt D (Option D)} {live:OS->Prop} [DecidablePred live] {Φ:List D->OS->Prop} (hl:live os) (g:D->Option D) (xs:List D) (h:∀ x∈xs,f.go x os=.ok (g x) os) (hq:Φ (xs.filterMap g) os):Ok (cz (f:=f) live xs os) Φ:=by
 have key:∀ (xs:List D),(∀ x∈xs,f.go x os=.ok (g x) os)->cz (f:=f) live xs os=.ok (xs.filterMap g) os:=fun xs=>by
  induction xs with
  | nil=>intro _; unfold cz; rw [if_pos hl]; rfl
  | cons x r ih =>
   intro h
   unfold cz
   rw [if_pos hl,h x (.head _),oj,ih (fun y hy=>h y (.tail _ hy)),oj,List.filterMap_cons]
   cases g x <;> rfl
 rw [key xs h]
 exact hq
theorem fv {n:Nat} {c:Option Cell} (h:n<os.length):aa (os.set n c) n=c:=by
 unfold aa
 rw [List.getElem?_set_self h]
 rfl
theorem bC {n m:Nat} {c:Option Cell} (h:n≠m):aa (os.set n c) m=aa os m:=by
 unfold aa
 rw [List.getElem?_set_ne h]
theorem fP {n:Nat} {c:Cell} (h:aa os n=some c):n<os.length:=by
 unfold aa at h
 by_cases hn:n<os.length
 ·exact hn
 ·rw [List.getElem?_eq_none (by omega)] at h; cases h
theorem cC {n:Nat} {l:OS} (h:n<os.length):aa (os++l) n=aa os n:=by
 unfold aa
 rw [List.getElem?_append_left h]
theorem bU {c:Option Cell} {l:OS}:aa (os++c::l) os.length=c:=by
 unfold aa; simp
theorem gQ {n:Nat} {i:Int} (h0:0<=i) (h1:i<n):aO n i=some i.toNat:=by
 unfold aO
 rw [if_pos h0,if_pos h1]
end
end I
namespace I
theorem sT {P:Pg} {W:Nat} {os:OS} {f k:Nat} {b:Ss} {n:Nat} {tb:Option Nat} {ds:List D} {Φ:D->OS->Prop} (fr:Fr) (hd:P.fn f=some ⟨n,b,tb⟩) (hf:ds.map some++List.replicate (n - ds.length) none=fr)
  (h:Ok (execs P (call P W k) W b fr os) (fun f os=>match f.1 with | .rt d=>Φ d os | .nx=>Φ .non os | _=>False)):Ok (call P W (k+1) f ds os) Φ :=
 uF hd (by subst hf; exact sU h)
end I
namespace I
section
variable {P:Pg} {K:Orc} {W:Nat} {ρ:Fr} {os:OS} {α β:Type} {n:Nat} {xs ys:List D} {k y:D}
noncomputable def ixC (os:OS) (k:D) (c:Option Cell):R D:=match c,k with
 | some (.lst xs),.int i=>.ofO ((aO xs.length i).bind fun j=>xs[j]?) os
 | some (.dct t kvs),k=>.gd (keyOk t k=true) (.ofO (bu k kvs) os)
 | _,_=>.stk
noncomputable def Cs (os:OS) (c:Option Cell):R D:=match c with
 | some (.lst xs)=>.ok (.int xs.length) os | some (.dct false kvs)=>.ok (.int kvs.length) os | _=>.stk
noncomputable def BY (os:OS) (n:Nat) (y:D) (c:Option Cell):R D:=match c with
 | some (.lst xs)=>.gd (xs.length<SZ) (.ok .non (os.set n (some (.lst (xs++[y]))))) | _=>.stk
noncomputable def Fp (os:OS) (n:Nat) (c:Option Cell) (y:D):R D:=match c,y with
 | some (.lst xs),.lst ys=>.gd (xs.length+ys.length<=SZ) (.ok .non (os.set n (some (.lst (xs++ys))))) | _,_=>.stk
noncomputable def Fq (n:Nat) (c:Option Cell):D:=match c with | some (.lst xs)=>.lst xs | _=>.cel n
noncomputable def itC (c:Option Cell):Option (List D):=match c with | some (.lst xs)=>some xs | _=>none
noncomputable def trC (c:Option Cell):Option Bool:=match c with | some (.lst xs)=>some (!xs.isEmpty) | some (.dct false kvs)=>some (!kvs.isEmpty) | some (.ins _ _)=>none | _=>none
noncomputable def Fo (os:OS) (k d:D) (c:Option Cell):R D:=match c with | some (.dct t kvs)=>.gd (keyOk t k=true) (.ok ((bu k kvs).getD d) os) | _=>.stk
noncomputable def sdO (os:OS) (n:Nat) (t:Bool) (k d:D) (kvs:List (D × D)) (o:Option D):R D:=match o with
 | some v=>.ok v os
 | none=>.ok d (os.set n (some (.dct t (et k d kvs))))
noncomputable def sdC (os:OS) (n:Nat) (k d:D) (c:Option Cell):R D:=match c with
 | some (.dct t kvs)=>.gd (keyOk t k=true/\kvs.length<SZ) (sdO os n t k d kvs (bu k kvs))
 | _=>.stk
theorem Ed:pr .ix [.cel n,k] os=ixC os k (aa os n):=rfl
theorem CM {i:Int}:ixC os (.int i) (some (.lst xs))=.ofO ((aO xs.length i).bind fun j=>xs[j]?) os:=rfl
theorem B1 {t:Bool} {kvs:List (D × D)}:ixC os k (some (.dct t kvs))=.gd (keyOk t k=true) (.ofO (bu k kvs) os):=by cases k <;> rfl
theorem BJ:pr .len [.cel n] os=Cs os (aa os n):=rfl
theorem zW:Cs os (some (.lst xs))=.ok (.int xs.length) os:=rfl
theorem p8:pr .append [.cel n,y] os=BY os n y (aa os n):=rfl
theorem mz:BY os n y (some (.lst xs))=.gd (xs.length<SZ) (.ok .non (os.set n (some (.lst (xs++[y]))))):=rfl
theorem zt:aj os (.lst xs)=.lst xs:=rfl
theorem x9 {i:Int}:aj os (.int i)=.int i:=rfl
theorem D6:items os (.cel n)=itC (aa os n):=rfl
theorem BO:itC (some (.lst xs))=some xs:=rfl
theorem zi:pr .list [y] os=.ofO ((items os y).map .lst) os:=rfl
theorem y_eq {a b:D}:cmp .eq a b os=.ofO ((D.eq (aj os a) (aj os b)).map .bl) os:=rfl
theorem EL {a b:D}:cmp .ne a b os=.ofO ((D.eq (aj os a) (aj os b)).map fun x=>.bl (!x)) os:=rfl
theorem Cg {a b:Int}:D.eq (.int a) (.int b)=some (decide (a=b)):=rfl
theorem qI:recv os (gw .append) (.cel n)=iB .list (aa os n):=rfl
theorem B2:iB .list (some (.lst xs))=true:=rfl
noncomputable abbrev aB (ns:List Int):List D:=ns.map D.int
theorem tT {a:List Int} {i:Nat} (h:i<a.length):(aB a)[i]?=some (.int (a.getD i 0)):=by
 rw [List.getElem?_map,List.getElem?_eq_getElem h]
 simp [List.getD,List.getElem?_eq_getElem h]
end
end I
namespace I
section
variable {P:Pg} {K:Orc} {W:Nat} {ρ:Fr} {os:OS} {α β:Type} {Φ:Flow × Fr->OS->Prop} {Ψ:D->OS->Prop} {Χ:List D->OS->Prop} {Θ:Bool->OS->Prop} {Ξ:List D × List D->OS->Prop}
theorem ao {r:R α} {k:Kt α β} {Ω:β->OS->Prop}:Ok (@R.bind α β r k) Ω=Ok r (fun a os=>Ok (k.go a os) Ω):=by cases r <;> rfl
noncomputable def sq (P:Pg) (K:Orc) (W:Nat) (r:Ss) (Φ:Flow × Fr->OS->Prop):Flow × Fr->OS->Prop:=fun f os=>match f.1 with
 | .nx=>Ok (execs P K W r f.2 os) Φ
 | _=>Φ f os
noncomputable def fin (Ψ:D->OS->Prop):Flow × Fr->OS->Prop:=fun f os=>match f.1 with
 | .rt d=>Ψ d os
 | .nx=>Ψ .non os
 | _=>False
theorem Ci {r:Ss}:sq P K W r Φ (.nx,ρ) os=Ok (execs P K W r ρ os) Φ:=rfl
theorem Co {r:Ss} {d:D}:sq P K W r Φ (.rt d,ρ) os=Φ (.rt d,ρ) os:=rfl
theorem yR {d:D}:fin Ψ (.rt d,ρ) os=Ψ d os:=rfl
theorem C9:Ok (execs P K W .nil ρ os) Φ=Φ (.nx,ρ) os:=rfl
theorem aq {s:S} {r:Ss}:Ok (execs P K W (.cons s r) ρ os) Φ=Ok (exec P K W s ρ os) (sq P K W r Φ):=by
 show Ok (@R.bind _ _ (exec P K W s ρ os) ⟨sj (k:=⟨fun ρ1 os1=>execs P K W r ρ1 os1⟩)⟩) Φ=_
 rw [ao]
 congr 1
 funext f os
 obtain ⟨fl,ρ⟩:=f
 cases fl <;> rfl
theorem bw {s:S}:Ok (execs P K W (.cons s .nil) ρ os) Φ=Ok (exec P K W s ρ os) Φ:=by
 rw [aq]
 congr 1
 funext f os
 obtain ⟨fl,ρ⟩:=f
 cases fl <;> rfl
theorem w6 {i:Nat} {e:E}:Ok (exec P K W (.set i e) ρ os) Φ=Ok (ev P K e ρ os) (fun d os1=>Φ (.nx,st ρ i d) os1):=ao
theorem zz {is:List Nat} {e:E}:Ok (exec P K W (.tset is e) ρ os) Φ=Ok (ev P K e ρ os) (fun d os1=>Ok (nxO os1 (aF (.tup is) d ρ)) Φ):=ao
theorem n9 {o i e:E}:Ok (exec P K W (.setix o i e) ρ os) Φ=Ok (ev P K e ρ os) (fun x os1=>Ok (ev P K o ρ os1) (fun d os2=>Ok (ev P K i ρ os2) (fun k os3=>Ok (iW d k x os3) (fun _ os4=>Φ (.nx,ρ) os4)))):=by
 show Ok (@R.bind _ _ (ev P K e ρ os) ⟨_⟩) Φ=_
 rw [ao]
 congr 1; funext x os1
 show Ok (@R.bind _ _ (ev P K o ρ os1) ⟨_⟩) Φ=_
 rw [ao]
 congr 1; funext d os2
 show Ok (@R.bind _ _ (ev P K i ρ os2) ⟨_⟩) Φ=_
 rw [ao]
 congr 1; funext k os3
 show Ok (@R.bind _ _ (iW d k x os3) ⟨_⟩) Φ=_
 rw [ao]; rfl
theorem CD {e:E}:Ok (exec P K W (.ex e) ρ os) Φ=Ok (ev P K e ρ os) (fun _ os1=>Φ (.nx,ρ) os1):=ao
theorem AL {e:E}:Ok (exec P K W (.ret e) ρ os) Φ=Ok (ev P K e ρ os) (fun d os1=>Φ (.rt d,ρ) os1):=ao
theorem E2 {c:C} {a b:Ss}:Ok (exec P K W (.ite c a b) ρ os) Φ=Ok (evC P K c ρ os) (fun t os1=>(t=true->Ok (execs P K W a ρ os1) Φ)/\(t=false->Ok (execs P K W b ρ os1) Φ)):=by
 show Ok (@R.bind _ _ (evC P K c ρ os) ⟨_⟩) Φ=_
 rw [ao]
 congr 1; funext t os1
 exact tU
theorem CF {t:Tg} {it:It} {b:Ss}:Ok (exec P K W (.fr t it b) ρ os) Φ=Ok (evI P K it ρ os) (fun xs os1=>Ok (forL (body:=⟨fun x ρ os=>dc (k:=⟨fun ρ1 os2=>execs P K W b ρ1 os2⟩) os (aF t x ρ)⟩) (aX os1 xs.1) xs.2 ρ os1) Φ):=ao
theorem o_v {i:Nat}:Ok (ev P K (.v i) ρ os) Ψ=Ok (R.ofO (lk ρ i) os) Ψ:=rfl
theorem o_c {d:D}:Ok (ev P K (.c d) ρ os) Ψ=Ψ d os:=rfl
theorem o_g {i:Nat}:Ok (ev P K (.g i) ρ os) Ψ=Ψ (P.g i) os:=rfl
theorem AW {p:Pr} {es:Es}:Ok (ev P K (.pr p es) ρ os) Ψ=Ok (evs P K es ρ os) (fun ds os1=>Ok (pr p ds os1) Ψ):=ao
theorem Bw {p:Pr} {o:E} {es:Es}:Ok (ev P K (.bm p o es) ρ os) Ψ=Ok (ev P K o ρ os) (fun d os1=>recv os1 (gw p) d=true/\Ok (evs P K es ρ os1) (fun ds os2=>Ok (pr p (d::ds) os2) Ψ)):=by
 show Ok (@R.bind _ _ (ev P K o ρ os) ⟨_⟩) Ψ=_
 rw [ao]
 congr 1; funext d os1
 show Ok (R.gd (recv os1 (gw p) d=true) (@R.bind _ _ (evs P K es ρ os1) ⟨_⟩)) Ψ=_
 rw [qd,ao]; rfl
theorem xg {f:Nat} {es:Es}:Ok (ev P K (.call f es) ρ os) Ψ=Ok (evs P K es ρ os) (fun ds os1=>Ok (K f ds os1) Ψ):=ao
theorem vD {f:Nat} {es:Es}:Ok (ev P K (.callP f es) ρ os) Ψ=Ok (evs P K es ρ os) (fun ds os1=>Ok (aS os1 (K f ds os1)) Ψ):=ao
theorem yx {a b:E}:Ok (ev P K (.and a b) ρ os) Ψ=Ok (ev P K a ρ os) (fun d os1=>Ok (mZ (k:=⟨fun os2=>ev P K b ρ os2⟩) d os1) Ψ):=ao
theorem vV {es:Es}:Ok (ev P K (.tup es) ρ os) Ψ=Ok (evs P K es ρ os) (fun ds os1=>Ψ (.tup ds) os1):=ao
theorem DC {es:Es}:Ok (ev P K (.lst es) ρ os) Ψ=Ok (evs P K es ρ os) (fun ds os1=>Ψ (.lst ds) os1):=ao
theorem yc {e:E}:Ok (ev P K (.cell e) ρ os) Ψ=Ok (ev P K e ρ os) (fun d os1=>Ok (cellK d os1) Ψ):=ao
theorem Ag {t:Bool}:Ok (ev P K (.dict t) ρ os) Ψ=Ψ (.cel os.length) (os++[some (.dct t [])]):=rfl
theorem DP {e:E}:Ok (ev P K (.fz e) ρ os) Ψ=Ok (ev P K e ρ os) (fun d os1=>Ok (fzK d os1) Ψ):=ao
theorem zK {nl:Nat} {fr:List Nat} {t:Tg} {it:It} {cd:C} {el:E}:Ok (ev P K (.comp nl fr t it cd el) ρ os) Ψ=Ok (evI P K it ρ os) (fun xs os1=>xs.2.length<=SZ /\
   Ok (cz (f:=⟨fun x os2=>eW (jg (k:=⟨fun τ os3=>(evC P K cd τ os3).bind (k:=⟨fun b os4=>eh (a:=⟨fun os5=>(ev P K el τ os5).bind (k:=⟨fun y os6=>.ok (some y) os6⟩)⟩) (b:=⟨fun os5=>.ok none os5⟩) b os4⟩)⟩) os2
    (aF t x (fW ρ nl fr)))⟩) (aX os1 xs.1) xs.2 os1) (fun ys os3=>Ψ (.lst ys) os3)):=by
 show Ok (@R.bind _ _ (evI P K it ρ os) ⟨_⟩) Ψ=_
 rw [ao]
 congr 1; funext xs os1
 refine Eq.trans (qd (c:=xs.2.length<=SZ)) ?_
 rw [ao]; rfl
theorem rz {x:D} {t:Tg} {cd:C} {el:E} {Ω:Option D->OS->Prop} (h:∃ τ,aF t x ρ=some τ/\Ok (evC P K cd τ os) (fun b os4=>(b=true->Ok (ev P K el τ os4) (fun y os6=>Ω (some y) os6))/\(b=false->Ω none os4))) :
  Ok (eW (jg (k:=⟨fun τ os3=>(evC P K cd τ os3).bind (k:=⟨fun b os4=>eh (a:=⟨fun os5=>(ev P K el τ os5).bind (k:=⟨fun y os6=>.ok (some y) os6⟩)⟩) (b:=⟨fun os5=>.ok none os5⟩) b os4⟩)⟩) os (aF t x ρ))) Ω:=by
 obtain ⟨τ,e,h⟩:=h
 rw [e]
 refine qf ?_
 show Ok (@R.bind _ _ (evC P K cd τ os) ⟨_⟩) Ω
 refine Ok.bind (h.mono fun b os4 hb => ?_)
 cases b with
 | false=>exact hb.2 rfl
 | true=>exact Ok.bind (hb.1 rfl)
theorem xq:Ok (evs P K .nil ρ os) Χ=Χ [] os:=rfl
theorem gH {e:E} {es:Es}:Ok (evs P K (.cons e es) ρ os) Χ=Ok (ev P K e ρ os) (fun d os1=>Ok (evs P K es ρ os1) (fun ds os2=>Χ (d::ds) os2)):=by
 show Ok (@R.bind _ _ (ev P K e ρ os) ⟨_⟩) Χ=_
 rw [ao]
 congr 1; funext d os1
 show Ok (@R.bind _ _ (evs P K es ρ os1) ⟨_⟩) Χ=_
 rw [ao]; rfl
theorem Ef:Ok (evC P K .tt ρ os) Θ=Θ true os:=rfl
theorem CP {e:E}:Ok (evC P K (.e e) ρ os) Θ=Ok (ev P K e ρ os) (fun d os1=>Ok (R.ofO (truth os1 d) os1) Θ):=ao
theorem CH {a b:C}:Ok (evC P K (.or a b) ρ os) Θ=Ok (evC P K a ρ os) (fun t os1=>(t=true->Θ true os1)/\(t=false->Ok (evC P K b ρ os1) Θ)):=by
 show Ok (@R.bind _ _ (evC P K a ρ os) ⟨_⟩) Θ=_
 rw [ao]
 congr 1; funext t os1
 exact tU
theorem yq {a:C}:Ok (evC P K (.not a) ρ os) Θ=Ok (evC P K a ρ os) (fun t os1=>Θ (!t) os1):=ao
theorem Ba {e:E}:Ok (evI P K (.seq e) ρ os) Ξ=Ok (ev P K e ρ os) (fun d os1=>Ok (R.ofO ((items os1 d).map fun xs=>([d],xs)) os1) Ξ):=ao
theorem CL {es:Es}:Ok (evI P K (.rng es) ρ os) Ξ=Ok (evs P K es ρ os) (fun ds os1=>Ok (ly ds os1) Ξ):=ao
theorem Cr {a:α} {Ω:α->OS->Prop}:Ok (R.ofO (some a) os) Ω=Ω a os:=rfl
theorem aW {f k n:Nat} {tb:Option Nat} {b:Ss} {ds:List D} (fr:Fr) (hd:P.fn f=some ⟨n,b,tb⟩) (hf:ds.map some++List.replicate (n - ds.length) none=fr) (h:Ok (execs P (call P W k) W b fr os) (fin Ψ)):Ok (call P W (k+1) f ds os) Ψ :=
 sT fr hd hf h
theorem ig {t:Tg} {b:Ss} {live:OS->Prop} [DecidablePred live] (Inv:Nat->Fr->OS->Prop) (xs:List D) {ρ:Fr} {os:OS} (h0:Inv 0 ρ os)
  (hs:∀ i x ρ os,xs[i]?=some x->Inv i ρ os->live os/\∃ τ,aF t x ρ=some τ/\Ok (execs P K W b τ os) (fun f os'=>(f.1=.nx/\Inv (i+1) f.2 os')\/(∃ d,f.1=.rt d/\Φ (.rt d,f.2) os')))
  (he:∀ ρ os,Inv xs.length ρ os->live os/\Φ (.nx,ρ) os):Ok (forL (body:=⟨fun x ρ os=>dc (k:=⟨fun ρ1 os2=>execs P K W b ρ1 os2⟩) os (aF t x ρ)⟩) live xs ρ os) Φ :=
 rW Inv xs [] h0 (fun i x ρ os hx hi=>by
  obtain ⟨h1,τ,e,h2⟩:=hs i x ρ os hx hi
  refine ⟨h1,?_⟩
  show Ok (dc (k:=⟨fun ρ1 os2=>execs P K W b ρ1 os2⟩) os (aF t x ρ)) _
  rw [e]
  exact h2) he
end
end I
namespace I
theorem dH {P:Pg} {K:Orc} {W:Nat} {ρ:Fr} {os:OS} {s:S} {r:Ss} {Φ:Flow × Fr->OS->Prop} (Mid:Fr->OS->Prop) (h1:Ok (exec P K W s ρ os) (fun f os'=>f.1=.nx/\Mid f.2 os')) (h2:∀ ρ' os',Mid ρ' os'->Ok (execs P K W r ρ' os') Φ):Ok (execs P K W (.cons s r) ρ os) Φ:=by
 rw [aq]
 refine h1.mono fun f os' h => ?_
 obtain ⟨fl,ρ'⟩:=f
 obtain ⟨e,h⟩:=h
 cases (show fl=.nx from e)
 exact h2 ρ' os' h
theorem ik {i j:Int} (h:i.natAbs<2 ^ 64):iu i j:=.inl (.inl h)
theorem jo {i j:Int} (h:j.natAbs<2 ^ 64):iu i j:=.inl (.inr h)
theorem jf {i j:Int} (h:i.natAbs<2 ^ 2000) (h2:j.natAbs<2 ^ 2000):iu i j:=.inr ⟨h,h2⟩
end I
namespace I
theorem j7 {n i:Nat} {x:D} (h:(List.map (fun k:Nat=>D.int (k:Nat)) (List.range n))[i]?=some x):i<n/\x=.int (i:Nat):=by
 have hi:i<n:=by
  have:=(List.getElem?_eq_some_iff.mp h).1
  simpa using this
 refine ⟨hi,?_⟩
 rw [List.getElem?_map,List.getElem?_range hi] at h
 exact (Option.some.inj h).symm
end I
namespace I
theorem Ok.gen {α:Type} {r:R α} {Φ0:α->OS->Prop} (A:α->OS->Prop) (h1:∀ Φ:α->OS->Prop,(∀ a os,A a os->Φ a os)->Ok r Φ) (h2:∀ a os,A a os->Φ0 a os):Ok r Φ0:=h1 Φ0 h2
end I
namespace I
theorem kC {os:OS} {f:Kt D (Option D)} {live:OS->Prop} [DecidablePred live] {Φ:List D->OS->Prop} (hl:live os) (g:D->Option D) (xs:List D) (h:∀ x∈xs,Ok (f.go x os) (fun y os'=>y=g x/\os'=os)) (hq:Φ (xs.filterMap g) os):Ok (cz (f:=f) live xs os) Φ :=
 uZ hl g xs (fun x hx=>by obtain ⟨a,os',e,rfl,rfl⟩:=(h x hx).get; exact e) hq
end I
namespace I
section
variable {P:Pg} {K:Orc} {W:Nat} {ρ:Fr} {os:OS} {Ψ:D->OS->Prop} {Ξ:List D × List D->OS->Prop} {Φ:Flow × Fr->OS->Prop}
theorem cD:∀ (R:List Int),aw (aB R)=some R
 | []=>rfl
 | x::r=>by
  show (aw (aB r)).map (x :: ·)=_
  rw [cD r]
  rfl
theorem z_sum {R:List Int}:pr .sum [.lst (aB R)] os=.ok (.int R.sum) os:=by
 show (match (some (aB R)).bind aw with | some ns=>I.R.ok (D.int ns.sum) os | none=>I.R.stk)=_
 rw [show (some (aB R)).bind aw=some R from cD R]
end
end I
namespace I
section
variable {os:OS} {n:Nat}
theorem Ok.eq {α:Type} {r:R α} {v:α} {os':OS} (h:Ok r (fun d o=>d=v/\o=os')):r=.ok v os':=by
 obtain ⟨a,o,e,rfl,rfl⟩:=h.get
 exact e
theorem low_ints:∀ (xs:List Int),D.lows n (aB xs)=true
 | []=>rfl
 | x::r=>by
  show (true&&D.lows n (aB r))=true
  rw [low_ints r]; rfl
noncomputable abbrev rows (bs:List (List Int)):List D:=bs.map fun b=>D.lst (aB b)
theorem Dj {i:Bool}:aS os (.ok (.bl i) os)=.ok (.bl i) os:=fU rfl
theorem oC {xs:List Int}:aS os (.ok (.lst (aB xs)) os)=.ok (.lst (aB xs)) os:=fU (low_ints xs)
end
end I
namespace I
end I
namespace I
end I
namespace I
section
variable {os:OS}
theorem uH {c:Int} {ns:List Int} {j:Nat} (h:(ns.findIdx? fun z=>decide (z=c))=some j):pr .index [.lst (aB ns),.int c] os=.ok (.int (j:Nat)) os:=by
 show R.ofO ((aw (aB ns)).bind fun ns=>(ns.findIdx? fun z=>decide (z=c)).map fun j=>D.int (j:Nat)) os=_
 rw [cD]
 show R.ofO ((ns.findIdx? fun z=>decide (z=c)).map fun j=>D.int (j:Nat)) os=_
 rw [h]
 rfl
theorem AI {xs:List D}:recv os (gw .index) (.lst xs)=true:=rfl
end
end I
namespace I
noncomputable def Di:=And.intro @w6 <| And.intro @zz <| And.intro @n9 <| And.intro @CD <| And.intro @AL <| And.intro @E2 <| And.intro @CF <| And.intro @o_v <| And.intro @o_c <| And.intro @o_g <| And.intro @AW <| And.intro @Bw <| And.intro @xg <| And.intro @vD <| And.intro @yx <| And.intro @vV <| And.intro @DC <| And.intro @yc <| And.intro @Ag <| And.intro @DP <| And.intro @zK <| And.intro @AI <| And.intro @xq <| And.intro @gH <| And.intro @Ef <| And.intro @CP <| And.intro @CH <| And.intro @yq <| And.intro @Ba <| And.intro @CL <| And.intro @Cr <| And.intro @C9 <| And.intro @Ci <| And.intro @Co <| And.intro @yR <| And.intro @bH <| And.intro @qd <| And.intro @zw <| And.intro @Cu <| And.intro @As <| And.intro @Dw <| And.intro @AN <| And.intro @Bj <| And.intro @uh <| And.intro @tH <| And.intro @sM <| And.intro @wW <| And.intro @wR <| And.intro @BQ <| And.intro @zg <| And.intro @Aw <| And.intro @AG <| And.intro @BA <| And.intro @wt <| And.intro @pV <| And.intro @AA <| And.intro @Bv <| And.intro @Bl <| And.intro @qg <| And.intro @Dk <| And.intro @Ac <| And.intro @xu <| And.intro @Dx <| And.intro @A0 <| And.intro @B3 <| And.intro @tW <| And.intro @AD <| And.intro @B7 <| And.intro @ue <| And.intro @y4 <| And.intro @zp <| And.intro @yF <| And.intro @E4 <| And.intro @Bu <| And.intro @oq <| And.intro @ot <| And.intro @y8 <| And.intro @Ed <| And.intro @CM <| And.intro @B1 <| And.intro @BJ <| And.intro @zW <| And.intro @p8 <| And.intro @mz <| And.intro @zt <| And.intro @x9 <| And.intro @D6 <| And.intro @BO <| And.intro @zi <| And.intro @y_eq <| And.intro @EL <| And.intro @Cg <| And.intro @qI <| @B2
end I
namespace I
section
variable {P:Pg} {K:Orc} {W:Nat} {ρ:Fr} {os:OS} {Φ:Flow × Fr->OS->Prop} {Ψ:D->OS->Prop} {Ξ:List D × List D->OS->Prop}
theorem zq {R:List Int}:pr .min1 [.lst (aB R)] os=.ofO ((mL R).map .int) os:=by
 show I.R.ofO (((some (aB R)).bind aw).bind fun ns=>(mL ns).map D.int) os=_
 rw [show (some (aB R)).bind aw=some R from cD R]; rfl
theorem tG {n:Nat} {a:Option Cell}:(List.set os n a).length=os.length:=List.length_set ..
theorem uV {n:Nat} {x k:D} {t:Bool} {kvs:List (D × D)}:setC n x os (some (.dct t kvs)) k=.gd (keyOk t k=true/\kvs.length<SZ) (.ok () (os.set n (some (.dct t (et k x kvs))))):=rfl
theorem yM {i:Int}:keyOk false (.int i)=true:=rfl
theorem qL {n:Nat} {i:Int} {xs:List D} {y:D} (h:aa os n=some (.lst xs)) (h0:0<=i) (h1:i<=xs.length) (hz:xs.length<SZ):pr .insert [.cel n,.int i,y] os=.ok .non (os.set n (some (.lst (xs.take i.toNat++y::xs.drop i.toNat)))):=by
 show (match aa os n with | some (.lst xs)=>R.gd (0<=i/\i<=xs.length/\xs.length<SZ) (R.ok D.non (os.set n (some (Cell.lst (xs.take i.toNat++y::xs.drop i.toNat))))) | _=>R.stk)=_
 rw [h]
 exact fG ⟨h0,h1,hz⟩
theorem CZ {n:Nat}:recv os (gw .insert) (.cel n)=iB .list (aa os n):=rfl
theorem AJ {f i:Nat} {es:Es} {hs:List (Nat × List HS)}:Ok (exec P K W (.tryC f es i hs) ρ os) Φ=Ok (evs P K es ρ os) (fun ds os1=>Ok (m8 i hs ρ (K f ds os1)) Φ):=by
 show Ok (jy (k:=⟨_⟩) (evs P K es ρ os)) Φ=_
 cases evs P K es ρ os <;> rfl
noncomputable def Ce:=And.intro @uV <| And.intro @yM <| And.intro @tG <| And.intro @zq <| @AJ
end
end I
namespace IS
open PySem PySem.Spec L2
open PyProof.Rows hiding St
open I (D Cell OS Fr R SZ)
theorem aK.lH {K:PySem.W.Frag} {H H':Hp} {a:Addr} {xs:List V} (e:aK H H') (h:SqT K H a xs):SqT K H' a xs:=by
 rcases h with (h | ⟨o,h⟩) | h
 ·exact .inl (.inl (e _ _ h))
 ·exact .inl (.inr ⟨o,e _ _ h⟩)
 ·exact .inr h
noncomputable def dB:Key->D
 | .inl i=>.int i
 | .inr x=>.str x.cps.toList
structure GI where
 prog:Program
 w:World
 K:PySem.W.Frag
 mg:Str->Option Value
 base:Heap
 CA:Nat->Addr
 fl:Nat->Str
 ok:Nat->Prop
 tA:Nat->Addr
 tq:Nat->Str
section
variable (G:GI) (ι:List Addr) (Hf:Hp)
mutual
inductive Rp:V->D->Prop
 | non:Rp .non .non
 | bl (b:Bool):Rp (.bl b) (.bl b)
 | int (i:Int):Rp (.int i) (.int i)
 | str (x:Str):Rp (.str x) (.str x.cps.toList)
 | lst {a:Addr} {vs:List V} {xs:List D}:Hf a=some (.lst vs)->vs.length<=sizeLine->Rps vs xs->Rp (.ref a) (.lst xs)
 | scr {a:Addr} {vs:List V} {xs:List D}:SqL G.K Hf a vs->vs.length<=sizeLine->Rps vs xs->Rp (.ref a) (.scr xs)
 | tup {a:Addr} {vs:List V} {xs:List D}:Hf a=some (.tup vs)->vs.length<=sizeLine->Rps vs xs->Rp (.ref a) (.tup xs)
 | ktu {a:Addr} {vs:List V} {xs:List D}:SqT G.K Hf a vs->vs.length<=sizeLine->Rps vs xs->Rp (.ref a) (.ktu xs)
 | cel {a:Addr} {n:Nat}:ι[n]?=some a->Rp (.ref a) (.cel n)
inductive Rps:List V->List D->Prop
 | nil:Rps [] []
 | cons {v:V} {d:D} {vs:List V} {ds:List D}:Rp v d->Rps vs ds->Rps (v::vs) (d::ds)
end
noncomputable def iR (H:Hp) (a:Addr):Cell->Prop
 | .lst xs=>∃ vs,H a=some (.lst vs)/\vs.length<=sizeLine/\Rps G ι Hf vs xs
 | .dct false kvs=>∃ kk:List (Key × V),H a=some (.dK kk)/\kvs.map (·.1)=kk.map (fun p=>dB p.1)/\Rps G ι Hf (kk.map (·.2)) (kvs.map (·.2))
 | .dct true kvs=>∃ kk:List (List Key × V),H a=some (.dT kk)/\kvs.map (·.1)=kk.map (fun p=>D.tup (p.1.map dB))/\Rps G ι Hf (kk.map (·.2)) (kvs.map (·.2))
 | .ins c fs=>∃ dx vfs,(H a=some (.ins (G.CA c) dx vfs)/\G.ok c)/\vfs.map (·.1)=fs.map (fun p=>G.fl p.1)/\Rps G ι Hf (vfs.map (·.2)) (fs.map (·.2))
 | .tab n=>∃ ps,H a=some (.tbl ps)/\a=G.tA n/\PySem.TriplesOk ps.toList/\∀ pos cv,PySem.codeAmong pos ps.toList=some cv->∃ c',cv=.ref c'/\Hf c'=some (.ext fun h=>h.CodeRec (.ref c') (G.tq n))
structure Rel (H:Hp) (os:OS):Prop where
 len:ι.length=os.length
 sub:aK Hf H
 cell:∀ n c,I.aa os n=some c->∃ a,ι[n]?=some a/\Hf a=none/\iR G ι Hf H a c
 inj:∀ n m c c' a,I.aa os n=some c->I.aa os m=some c'->ι[n]?=some a->ι[m]?=some a->n=m
inductive Rf:St->Fr->Prop
 | nil:Rf [] []
 | no {o:Option V} {σ:St} {ρ:Fr}:Rf σ ρ->Rf (o::σ) (none::ρ)
 | so {v:V} {d:D} {σ:St} {ρ:Fr}:Rp G ι Hf v d->Rf σ ρ->Rf (some v::σ) (some d::ρ)
end
structure Ext (ι:List Addr) (Hf:Hp) (ι':List Addr) (Hf':Hp):Prop where
 pre:ι <+: ι'
 sub:aK Hf Hf'
theorem Ext.refl {ι:List Addr} {Hf:Hp}:Ext ι Hf ι Hf:=⟨List.prefix_refl _,aK.refl _⟩
theorem Ext.trans {ι ι' ι'':List Addr} {Hf Hf' Hf'':Hp} (a:Ext ι Hf ι' Hf') (b:Ext ι' Hf' ι'' Hf''):Ext ι Hf ι'' Hf'':=⟨a.pre.trans b.pre,a.sub.trans b.sub⟩
theorem Ext.get {ι ι':List Addr} {Hf Hf':Hp} (e:Ext ι Hf ι' Hf') {n:Nat} {a:Addr} (h:ι[n]?=some a):ι'[n]?=some a:=by
 obtain ⟨t,rfl⟩:=e.pre
 rw [List.getElem?_append_left (List.getElem?_eq_some_iff.mp h).1]
 exact h
section
variable {G:GI} {ι ι':List Addr} {Hf Hf' H H':Hp} {os os':OS}
mutual
theorem Rp.ext (e:Ext ι Hf ι' Hf'):∀ {v:V} {d:D},Rp G ι Hf v d->Rp G ι' Hf' v d
 | _,_,.non=>.non
 | _,_,.bl b=>.bl b
 | _,_,.int i=>.int i
 | _,_,.str x=>.str x
 | _,_,.lst h z r=>.lst (e.sub _ _ h) z (Rps.ext e r)
 | _,_,.scr h z r=>.scr (e.sub.seq h) z (Rps.ext e r)
 | _,_,.tup h z r=>.tup (e.sub _ _ h) z (Rps.ext e r)
 | _,_,.ktu h z r=>.ktu (aK.lH e.sub h) z (Rps.ext e r)
 | _,_,.cel h=>.cel (e.get h)
theorem Rps.ext (e:Ext ι Hf ι' Hf'):∀ {v:List V} {d:List D},Rps G ι Hf v d->Rps G ι' Hf' v d
 | _,_,.nil=>.nil
 | _,_,.cons h r=>.cons (Rp.ext e h) (Rps.ext e r)
end
theorem Rf.ext (e:Ext ι Hf ι' Hf'):∀ {σ:St} {ρ:Fr},Rf G ι Hf σ ρ->Rf G ι' Hf' σ ρ
 | _,_,.nil=>.nil
 | _,_,.no r=>.no (Rf.ext e r)
 | _,_,.so h r=>.so (h.ext e) (Rf.ext e r)
mutual
theorem Rp.low:∀ {v:V} {d:D},Rp G ι Hf v d->d.low ι.length=true
 | _,_,.non=>rfl
 | _,_,.bl b=>rfl
 | _,_,.int i=>rfl
 | _,_,.str x=>rfl
 | _,_,.lst h z r=>Rps.low r
 | _,_,.scr h z r=>Rps.low r
 | _,_,.ktu h z r=>Rps.low r
 | _,_,.tup h z r=>Rps.low r
 | _,_,.cel h=>decide_eq_true (List.getElem?_eq_some_iff.mp h).1
theorem Rps.low:∀ {v:List V} {d:List D},Rps G ι Hf v d->D.lows ι.length d=true
 | _,_,.nil=>rfl
 | _,_,.cons h r=>by
  show (_&&_)=true
  rw [Rp.low h,Rps.low r]
  rfl
end
mutual
theorem Rp.gq (p:ι <+: ι'):∀ {v:V} {d:D},Rp G ι' Hf v d->d.low ι.length=true->Rp G ι Hf v d
 | _,_,.non,_=>.non
 | _,_,.bl b,_=>.bl b
 | _,_,.int i,_=>.int i
 | _,_,.str x,_=>.str x
 | _,_,.lst h z r,l=>.lst h z (Rps.gq p r l)
 | _,_,.scr h z r,l=>.scr h z (Rps.gq p r l)
 | _,_,.ktu h z r,l=>.ktu h z (Rps.gq p r l)
 | _,_,.tup h z r,l=>.tup h z (Rps.gq p r l)
 | _,_,.cel (n:=n) h,l=>.cel (by
  obtain ⟨t,rfl⟩:=p
  rw [List.getElem?_append_left (of_decide_eq_true l)] at h
  exact h)
theorem Rps.gq (p:ι <+: ι'):∀ {v:List V} {d:List D},Rps G ι' Hf v d->D.lows ι.length d=true->Rps G ι Hf v d
 | _,_,.nil,_=>.nil
 | _,_,.cons h r,l=>by
  obtain ⟨l1,l2⟩:=Bool.and_eq_true_iff.mp (show (_&&_)=true from l)
  exact .cons (Rp.gq p h l1) (Rps.gq p r l2)
end
theorem Rps.len:∀ {v:List V} {d:List D},Rps G ι Hf v d->v.length=d.length
 | _,_,.nil=>rfl
 | _,_,.cons _ r=>by rw [List.length_cons,List.length_cons,Rps.len r]
theorem Rps.get:∀ {vs:List V} {ds:List D} {i:Nat} {d:D},Rps G ι Hf vs ds->ds[i]?=some d->∃ v,vs[i]?=some v/\Rp G ι Hf v d
 | _,_,_,_,.nil,e=>by simp at e
 | _,_,0,_,.cons h _,e=>by simp at e; subst e; exact ⟨_,rfl,h⟩
 | _,_,i+1,_,.cons _ r,e=>by simpa using Rps.get (i:=i) r (by simpa using e)
theorem Rps.BL:∀ {vs:List V} {ds:List D} {i:Nat} {v:V},Rps G ι Hf vs ds->vs[i]?=some v->∃ d,ds[i]?=some d/\Rp G ι Hf v d
 | _,_,_,_,.nil,e=>by simp at e
 | _,_,0,_,.cons h _,e=>by simp at e; subst e; exact ⟨_,rfl,h⟩
 | _,_,i+1,_,.cons _ r,e=>by simpa using Rps.BL (i:=i) r (by simpa using e)
theorem Rps.app:∀ {a b:List V} {c d:List D},Rps G ι Hf a c->Rps G ι Hf b d->Rps G ι Hf (a++b) (c++d)
 | _,_,_,_,.nil,s=>s
 | _,_,_,_,.cons h r,s=>.cons h (Rps.app r s)
theorem Rps.drop:∀ (n:Nat) {a:List V} {c:List D},Rps G ι Hf a c->Rps G ι Hf (a.drop n) (c.drop n)
 | 0,_,_,r=>r
 | _+1,_,_,.nil=>.nil
 | n+1,_,_,.cons _ r=>Rps.drop n r
theorem Rps.take:∀ (n:Nat) {a:List V} {c:List D},Rps G ι Hf a c->Rps G ι Hf (a.take n) (c.take n)
 | 0,_,_,_=>.nil
 | _+1,_,_,.nil=>.nil
 | n+1,_,_,.cons h r=>.cons h (Rps.take n r)
theorem Rps.set {v:V} {d:D} (h:Rp G ι Hf v d):∀ (n:Nat) {a:List V} {c:List D},Rps G ι Hf a c->Rps G ι Hf (a.set n v) (c.set n d)
 | _,_,_,.nil=>.nil
 | 0,_,_,.cons _ r=>.cons h r
 | n+1,_,_,.cons q r=>.cons q (Rps.set h n r)
theorem Rf.lk:∀ {σ:St} {ρ:Fr} {i:Nat} {d:D},Rf G ι Hf σ ρ->I.lk ρ i=some d->∃ v,σ[i]?=some (some v)/\Rp G ι Hf v d
 | _,_,_,_,.nil,e=>by simp [I.lk] at e
 | _,_,0,_,.no _,e=>by simp [I.lk] at e
 | _,_,0,_,.so h _,e=>by
  simp [I.lk] at e
  subst e
  exact ⟨_,rfl,h⟩
 | _,_,i+1,_,.no r,e=>by simpa using Rf.lk (i:=i) r e
 | _,_,i+1,_,.so _ r,e=>by simpa using Rf.lk (i:=i) r e
theorem Rf.st {v:V} {d:D} (h:Rp G ι Hf v d):∀ {σ:St} {ρ:Fr} (i:Nat),Rf G ι Hf σ ρ->Rf G ι Hf (σ.set i (some v)) (I.st ρ i d)
 | _,_,_,.nil=>.nil
 | _,_,0,.no r=>.so h r
 | _,_,0,.so _ r=>.so h r
 | _,_,i+1,.no r=>.no (Rf.st h i r)
 | _,_,i+1,.so q r=>.so q (Rf.st h i r)
theorem Rf.fW {σ:St} {ρ:Fr} (r:Rf G ι Hf σ ρ) (nl:Nat) (fr:List Nat):Rf G ι Hf (gT nl fr σ) (I.fW ρ nl fr):=by
 unfold gT I.fW
 have h2:Rf G ι Hf (fr.map fun j=>(σ[j]?).join) (fr.map fun j=>I.lk ρ j):=by
  induction fr with
  | nil=>exact .nil
  | cons j fr ih =>
   rw [List.map_cons,List.map_cons]
   cases e:I.lk ρ j with
   | none=>exact .no ih
   | some d =>
    obtain ⟨v,h1,h2⟩:=r.lk e
    rw [h1]
    exact .so h2 ih
 induction nl with
 | zero=>exact h2
 | succ n ih=>exact .no ih
theorem iR.ext (e:Ext ι Hf ι' Hf') {a:Addr} {c:Cell} (h:iR G ι Hf H a c) (hH:∀ o,H a=some o->H' a=some o):iR G ι' Hf' H' a c:=by
 cases c with
 | lst xs=>obtain ⟨vs,h1,z,h2⟩:=h; exact ⟨vs,hH _ h1,z,h2.ext e⟩
 | dct t kvs =>
  cases t with
  | false=>obtain ⟨kk,h1,h2,h3⟩:=h; exact ⟨kk,hH _ h1,h2,h3.ext e⟩
  | true=>obtain ⟨kk,h1,h2,h3⟩:=h; exact ⟨kk,hH _ h1,h2,h3.ext e⟩
 | ins c fs=>obtain ⟨dx,vfs,h1,h2,h3⟩:=h; exact ⟨dx,vfs,⟨hH _ h1.1,h1.2⟩,h2,h3.ext e⟩
 | tab n =>
  obtain ⟨ps,h1,h2,h3,h4⟩:=h
  exact ⟨ps,hH _ h1,h2,h3,fun pos cv q=>let ⟨c',e1,e2⟩:=h4 pos cv q; ⟨c',e1,e.sub _ _ e2⟩⟩
theorem iR.there {a:Addr} {c:Cell} (h:iR G ι Hf H a c):∃ o,H a=some o:=by
 cases c with
 | lst xs=>obtain ⟨vs,h1,_⟩:=h; exact ⟨_,h1⟩
 | dct t kvs =>
  cases t with
  | false=>obtain ⟨kk,h1,_⟩:=h; exact ⟨_,h1⟩
  | true=>obtain ⟨kk,h1,_⟩:=h; exact ⟨_,h1⟩
 | ins c fs=>obtain ⟨dx,vfs,h1,_⟩:=h; exact ⟨_,h1.1⟩
 | tab n=>obtain ⟨ps,h1,_⟩:=h; exact ⟨_,h1⟩
theorem Rel.fY {p:Addr} {o:HO} (r:Rel G ι Hf H os) (h:H p=none):Ext ι Hf ι (upd Hf p o)/\Rel G ι (upd Hf p o) (upd H p o) os:=by
 have e:Ext ι Hf ι (upd Hf p o):=⟨List.prefix_refl _,aK.new (r.sub.free h) _⟩
 refine ⟨e,r.len,fun b u q => ?_,fun n c hc => ?_,r.inj⟩
 ·by_cases hb:b=p
  ·subst hb; rw [ak] at q ⊢; exact q
  ·rw [ah hb] at q ⊢; exact r.sub b u q
 ·obtain ⟨a,h1,h2,h3⟩:=r.cell n c hc
  obtain ⟨o',ho'⟩:=h3.there
  have ne:a≠p:=az ho' h
  exact ⟨a,h1,by rw [ah ne]; exact h2,h3.ext e fun u q=>by rw [ah ne]; exact q⟩
theorem dQ {n:Nat} {c:Cell} (h:I.aa os n=some c):n<os.length:=by
 unfold I.aa at h
 cases e:os[n]? with
 | none=>rw [e] at h; cases h
 | some o=>exact (List.getElem?_eq_some_iff.mp e).1
theorem si {n:Nat} {l:OS} (h:n<os.length):I.aa (os++l) n=I.aa os n:=by
 unfold I.aa
 rw [List.getElem?_append_left h]
theorem sf {c:Cell}:I.aa (os++[some c]) os.length=some c:=by
 unfold I.aa
 simp
theorem g9 {n m:Nat} {c:Option Cell} (h:n<os.length):I.aa (os.set n c) m=if m=n then c else I.aa os m:=by
 unfold I.aa
 by_cases e:m=n
 ·subst e
  rw [if_pos rfl,List.getElem?_set_self h]
  rfl
 ·rw [if_neg e,List.getElem?_set_ne (Ne.symm e)]
theorem Rel.yD {p:Addr} {o:HO} {c:Cell} (r:Rel G ι Hf H os) (h:H p=none) (hc:iR G (ι++[p]) Hf (upd H p o) p c):Ext ι Hf (ι++[p]) Hf/\Rel G (ι++[p]) Hf (upd H p o) (os++[some c]):=by
 have e:Ext ι Hf (ι++[p]) Hf:=⟨List.prefix_append _ _,aK.refl _⟩
 have hp:=r.sub.free h
 have last:∀ n c',I.aa (os++[some c]) n=some c'->(n=os.length/\c'=c)\/(n<os.length/\I.aa os n=some c'):=fun n c' q=>by
  have hl:=dQ q
  rw [List.length_append,List.length_singleton] at hl
  by_cases hn:n=os.length
  ·subst hn
   rw [sf] at q
   exact .inl ⟨rfl,(Option.some.inj q).symm⟩
  ·rw [si (by omega)] at q
   exact .inr ⟨by omega,q⟩
 have atL:(ι++[p])[os.length]?=some p:=by rw [<-r.len]; simp
 have atO:∀ {n a},n<os.length->(ι++[p])[n]?=some a->ι[n]?=some a:=fun {n a} hn q=>by
  rw [List.getElem?_append_left (by rw [r.len]; exact hn)] at q
  exact q
 refine ⟨e,by rw [List.length_append,List.length_append,r.len]; rfl,fun b u q => ?_,fun n c' q => ?_,fun n m c1 c2 a q1 q2 e1 e2 => ?_⟩
 ·rw [ah (az q hp)]
  exact r.sub b u q
 ·rcases last n c' q with ⟨rfl,rfl⟩ | ⟨hn,q⟩
  ·exact ⟨p,atL,hp,hc⟩
  ·obtain ⟨a,h1,h2,h3⟩:=r.cell n c' q
   obtain ⟨o',ho'⟩:=h3.there
   have ne:a≠p:=az ho' h
   exact ⟨a,e.get h1,h2,h3.ext e fun u q=>by rw [ah ne]; exact q⟩
 ·have old:∀ {n c'},n<os.length->I.aa os n=some c'->(ι++[p])[n]?=some a->a≠p:=fun {n c'} hn q e1=>by
   obtain ⟨a',h1,h2,h3⟩:=r.cell n c' q
   have:=atO hn e1
   rw [h1] at this
   cases this
   obtain ⟨o',ho'⟩:=h3.there
   exact az ho' h
  rcases last n c1 q1 with ⟨rfl,_⟩ | ⟨hn,q1⟩
  ·rcases last m c2 q2 with ⟨rfl,_⟩ | ⟨hm,q2⟩
   ·rfl
   ·rw [atL] at e1
    exact absurd (Option.some.inj e1).symm (old hm q2 e2)
  ·rcases last m c2 q2 with ⟨rfl,_⟩ | ⟨hm,q2⟩
   ·rw [atL] at e2
    exact absurd (Option.some.inj e2).symm (old hn q1 e1)
   ·exact r.inj n m c1 c2 a q1 q2 (atO hn e1) (atO hm e2)
theorem Rel.kW {n:Nat} {a:Addr} {o:HO} {c c':Cell} (r:Rel G ι Hf H os) (hn:I.aa os n=some c) (ha:ι[n]?=some a) (hc:iR G ι Hf (upd H a o) a c'):Rel G ι Hf (upd H a o) (os.set n (some c')):=by
 have hl:=dQ hn
 obtain ⟨a',h1,h2,h3⟩:=r.cell n c hn
 rw [ha] at h1
 cases h1
 have back:∀ m c1,I.aa (os.set n (some c')) m=some c1->m≠n->I.aa os m=some c1:=fun m c1 q ne=>by
  rw [g9 hl,if_neg ne] at q
  exact q
 have any:∀ m c1,I.aa (os.set n (some c')) m=some c1->∃ c2,I.aa os m=some c2:=fun m c1 q=>by
  by_cases e:m=n
  ·subst e; exact ⟨c,hn⟩
  ·exact ⟨c1,back m c1 q e⟩
 refine ⟨by rw [List.length_set]; exact r.len,fun b u q => ?_,fun m c1 q => ?_,fun m k c1 c2 b q1 q2 e1 e2 => ?_⟩
 ·rw [ah (az q h2)]
  exact r.sub b u q
 ·by_cases e:m=n
  ·subst e
   rw [g9 hl,if_pos rfl] at q
   cases q
   exact ⟨a,ha,h2,hc⟩
  ·have q':=back m c1 q e
   obtain ⟨b,g1,g2,g3⟩:=r.cell m c1 q'
   have ne:b≠a:=fun z=>e (r.inj m n c1 c b q' hn g1 (by rw [z]; exact ha))
   exact ⟨b,g1,g2,g3.ext .refl fun u q=>by rw [ah ne]; exact q⟩
 ·obtain ⟨d1,q1⟩:=any m c1 q1
  obtain ⟨d2,q2⟩:=any k c2 q2
  exact r.inj m k d1 d2 b q1 q2 e1 e2
theorem Rel.fz {n:Nat} {xs:List D} (r:Rel G ι Hf H os) (hn:I.aa os n=some (.lst xs)):∃ a vs,ι[n]?=some a/\Ext ι Hf ι (upd Hf a (.lst vs))/\Rel G ι (upd Hf a (.lst vs)) H (os.set n none)/\Rp G ι (upd Hf a (.lst vs)) (.ref a) (.lst xs):=by
 have hl:=dQ hn
 obtain ⟨a,h1,h2,vs,h3,hz,h4⟩:=r.cell n _ hn
 have e:Ext ι Hf ι (upd Hf a (.lst vs)):=⟨List.prefix_refl _,aK.new h2 _⟩
 have back:∀ m c1,I.aa (os.set n none) m=some c1->m≠n/\I.aa os m=some c1:=fun m c1 q=>by
  rw [g9 hl] at q
  by_cases e:m=n
  ·rw [if_pos e] at q; cases q
  ·rw [if_neg e] at q; exact ⟨e,q⟩
 refine ⟨a,vs,h1,e,⟨by rw [List.length_set]; exact r.len,fun b u q => ?_,fun m c1 q => ?_,fun m k c1 c2 b q1 q2 e1 e2 => ?_⟩,.lst ak hz (h4.ext e)⟩
 ·by_cases hb:b=a
  ·subst hb; rw [ak] at q; cases q; exact h3
  ·rw [ah hb] at q; exact r.sub b u q
 ·obtain ⟨ne,q⟩:=back m c1 q
  obtain ⟨b,g1,g2,g3⟩:=r.cell m c1 q
  have nb:b≠a:=fun z=>ne (r.inj m n c1 _ b q hn g1 (by rw [z]; exact h1))
  exact ⟨b,g1,by rw [ah nb]; exact g2,g3.ext e fun _ q=>q⟩
 ·exact r.inj m k c1 c2 b (back m c1 q1).2 (back k c2 q2).2 e1 e2
theorem Rel.trunc {Hf0 H0:Hp} (r0:Rel G ι Hf0 H0 os) (e:Ext ι Hf0 ι' Hf') (r:Rel G ι' Hf' H' os') (ht:os'.take os.length=os):Rel G ι Hf' H' os:=by
 have gc:∀ n c,I.aa os n=some c->I.aa os' n=some c:=fun n c q=>by
  have hl:=dQ q
  unfold I.aa at q ⊢
  rw [<-ht,List.getElem?_take_of_lt hl] at q
  exact q
 have low:∀ n c a,I.aa os n=some c->iR G ι' Hf' H' a c->iR G ι Hf' H' a c:=fun n c a q h=>by
  obtain ⟨a0,_,_,h0⟩:=r0.cell n c q
  cases c with
  | lst xs =>
   obtain ⟨vs,h1,z,h2⟩:=h
   obtain ⟨_,_,_,g⟩:=h0
   exact ⟨vs,h1,z,h2.gq e.pre g.low⟩
  | dct t kvs =>
   cases t with
   | false =>
    obtain ⟨_,_,_,g⟩:=h0
    obtain ⟨kk,h1,h2,h3⟩:=h
    exact ⟨kk,h1,h2,h3.gq e.pre g.low⟩
   | true =>
    obtain ⟨_,_,_,g⟩:=h0
    obtain ⟨kk,h1,h2,h3⟩:=h
    exact ⟨kk,h1,h2,h3.gq e.pre g.low⟩
  | ins c fs =>
   obtain ⟨dx,vfs,h1,h2,h3⟩:=h
   obtain ⟨_,_,_,_,g⟩:=h0
   exact ⟨dx,vfs,h1,h2,h3.gq e.pre g.low⟩
  | tab n=>exact h
 refine ⟨r0.len,r.sub,fun n c q => ?_,fun n m c1 c2 a q1 q2 e1 e2=>r.inj n m c1 c2 a (gc n c1 q1) (gc m c2 q2) (e.get e1) (e.get e2)⟩
 obtain ⟨a0,g1,g2,g3⟩:=r0.cell n c q
 obtain ⟨a,h1,h2,h3⟩:=r.cell n c (gc n c q)
 rw [e.get g1] at h1
 cases h1
 exact ⟨a0,g1,h2,low n c a0 q h3⟩
end
end IS
namespace IS
open PySem PySem.Spec L2
open PyProof.Rows hiding St
open I (D Cell OS Fr R SZ Kt Ko)
noncomputable def WR {α:Type} (G:GI) (E:XK) (ι:List Addr) (Hf:Hp) (r:R α) (Q:List Addr->Hp->Hp->OS->α->Prop):Prop:=match r with
 | .ok a os'=>∀ ι' Hf' H',Ext ι Hf ι' Hf'->Rel G ι' Hf' H' os'->Q ι' Hf' H' os' a
 | .exc c _ os'=>∀ ι' Hf' H',Ext ι Hf ι' Hf'->Rel G ι' Hf' H' os'->E (.ref (G.CA c)) none H'
 | .stk=>False
section
variable {G:GI} {E:XK} {ι ι':List Addr} {Hf Hf' H:Hp} {os:OS} {α β:Type} {r:R α} {Q Q':List Addr->Hp->Hp->OS->α->Prop}
theorem WR.ext (w:WR G E ι Hf r Q) (e:Ext ι Hf ι' Hf'):WR G E ι' Hf' r Q:=by
 cases r with
 | ok a os=>exact fun i f h x=>w i f h (e.trans x)
 | exc c p os=>exact fun i f h x=>w i f h (e.trans x)
 | stk=>exact w
theorem WR.mono (w:WR G E ι Hf r Q) (h:∀ ι' Hf' H' os' a,Ext ι Hf ι' Hf'->Rel G ι' Hf' H' os'->Q ι' Hf' H' os' a->Q' ι' Hf' H' os' a):WR G E ι Hf r Q':=by
 cases r with
 | ok a os=>exact fun i f H' x rl=>h i f H' os a x rl (w i f H' x rl)
 | exc c p os=>exact w
 | stk=>exact w
theorem WR.bind {k:Kt α β} {Q:List Addr->Hp->Hp->OS->β->Prop} (w:WR G E ι Hf (@R.bind α β r k) Q):WR G E ι Hf r (fun ι' Hf' _ os' a=>WR G E ι' Hf' (k.go a os') Q):=by
 cases r with
 | ok a os=>exact fun i f h x _=>WR.ext (show WR G E ι Hf (k.go a os) Q from w) x
 | exc c p os=>exact w
 | stk=>exact w
theorem WR.now {a:α} (w:WR G E ι Hf (.ok a os) Q) (rel:Rel G ι Hf H os):Q ι Hf H os a:=w ι Hf H .refl rel
theorem WR.gd {c:Prop} [Decidable c] (w:WR G E ι Hf (.gd c r) Q):c/\WR G E ι Hf r Q:=by
 unfold I.R.gd at w
 split at w
 ·exact ⟨‹c›,w⟩
 ·exact False.elim w
theorem WR.ofO {o:Option α} (w:WR G E ι Hf (.ofO o os) Q):∃ a,o=some a/\WR G E ι Hf (.ok a os) Q:=by
 cases o with
 | none=>exact False.elim w
 | some a=>exact ⟨a,rfl,w⟩
end
theorem WR.cq {G:GI} {E:XK} {ι:List Addr} {Hf:Hp} {f:Int->Int->R D} {ds:List D} {Q:List Addr->Hp->Hp->OS->D->Prop} (w:WR G E ι Hf (I.cq f ds) Q):∃ i j,ds=[.int i,.int j]/\WR G E ι Hf (f i j) Q:=by
 unfold I.cq at w
 split at w
 ·exact ⟨_,_,rfl,w⟩
 ·exact False.elim w
theorem WR.kE {G:GI} {E:XK} {ι:List Addr} {Hf:Hp} {o:I.Cop} {a b:D} {os:OS} {Q:List Addr->Hp->Hp->OS->D->Prop} (w:WR G E ι Hf (match a,b with | .int i,.int j=>R.ofO ((I.kE o i j).map .bl) os | _,_=>.stk) Q):∃ i j,a=.int i/\b=.int j/\WR G E ι Hf (R.ofO ((I.kE o i j).map .bl) os) Q:=by
 split at w
 ·exact ⟨_,_,rfl,rfl,w⟩
 ·exact False.elim w
theorem WR.Eb {G:GI} {E:XK} {ι:List Addr} {Hf:Hp} {a b c:D} {os:OS} {Q:List Addr->Hp->Hp->OS->List D × List D->Prop} (w:WR G E ι Hf (I.ly [a,b,c] os) Q):∃ i j k,a=.int i/\b=.int j/\c=.int k:=by
 generalize e:[a,b,c]=l at w
 unfold I.ly at w
 split at w
 ·cases e
 ·cases e
 ·cases e; exact ⟨_,_,_,rfl,rfl,rfl⟩
 ·exact False.elim w
theorem WR.EZ {G:GI} {E:XK} {ι:List Addr} {Hf:Hp} {a b:D} {os:OS} {Q:List Addr->Hp->Hp->OS->List D × List D->Prop} (w:WR G E ι Hf (I.ly [a,b] os) Q):∃ i j,a=.int i/\b=.int j:=by
 generalize e:[a,b]=l at w
 unfold I.ly at w
 split at w
 ·cases e
 ·cases e; exact ⟨_,_,rfl,rfl⟩
 ·cases e
 ·exact False.elim w
theorem Rp.au {G:GI} {ι:List Addr} {Hf:Hp} {x:V} {i:Int} (h:Rp G ι Hf x (.int i)):x=.int i:=by cases h; rfl
theorem PE.weak {X:Cx} {e:Expr} {t t':TE} (h:PE X e t) (m:∀ σ H Q,t' σ H Q->t σ H Q):PE X e t':=fun pins s σ H Q I hw=>h pins s σ H Q I (m σ H Q hw)
theorem PT.weak {X:Cx} {e:Expr} {t t':TT} (h:PT X e t) (m:∀ σ H Q,t' σ H Q->t σ H Q):PT X e t':=fun pins s σ H Q I hw=>h pins s σ H Q I (m σ H Q hw)
theorem PW.weak {X:Cx} {e:Expr} {t t':TT} (h:PW X e t) (m:∀ σ H Q,t' σ H Q->t σ H Q):PW X e t':=fun wh pins s σ H Q I hw=>h wh pins s σ H Q I (m σ H Q hw)
theorem PA.weak {X:Cx} {e:List Expr} {t t':TA} (h:PA X e t) (m:∀ σ H Q,t' σ H Q->t σ H Q):PA X e t':=fun pos pins s σ H Q I hw=>h pos pins s σ H Q I (m σ H Q hw)
theorem PS.weak {X:Cx} {e:Stmt} {t t':TS} (h:PS X e t) (m:∀ D σ H,t' D σ H->t D σ H):PS X e t':=fun pins s σ H D I hw=>h pins s σ H D I (m D σ H hw)
theorem PSs.weak {X:Cx} {e:List Stmt} {t t':TS} (h:PSs X e t) (m:∀ D σ H,t' D σ H->t D σ H):PSs X e t':=fun pins s σ H D I hw=>h pins s σ H D I (m D σ H hw)
theorem PI.weak {X:Cx} {tg e:Expr} {t t':TI} (h:PI X tg e t) (m:∀ σ H R,t' σ H R->t σ H R):PI X tg e t':=fun pins s σ H R I hw=>h pins s σ H R I (m σ H R hw)
theorem PG.weak {X:Cx} {tg:Expr} {t t':TG} (h:PG X tg t) (m:∀ v σ H Q,t' v σ H Q->t v σ H Q):PG X tg t':=fun pins s σ H v u Q I r hw=>h pins s σ H v u Q I r (m v σ H Q hw)
theorem OpR.or {X:Cx} {f:Value->Value->Sem Value} {r r':R2} (h:OpR X f r) (h':OpR X f r'):OpR X f (fun x y H Q=>r x y H Q\/r' x y H Q):=by
 intro pins s σ H x y v u Q I rx ry q
 rcases q with q | q
 ·exact h pins s σ H x y v u Q I rx ry q
 ·exact h' pins s σ H x y v u Q I rx ry q
section
variable (G:GI) (E:XK) (P:I.Pg) (KO:I.Orc) (W:Nat)
noncomputable def T (e:I.E):TE:=fun σ H Q=>∃ ι Hf ρ os,Rel G ι Hf H os/\Rf G ι Hf σ ρ/\WR G E ι Hf (I.ev P KO e ρ os) (fun ι' Hf' H' _ d=>∀ v,Rp G ι' Hf' v d->Q v H')
noncomputable def TF (e:I.E):TE:=fun σ H Q=>∃ ι Hf ρ os,Rel G ι Hf H os/\Rf G ι Hf σ ρ/\WR G E ι Hf (I.ev P KO e ρ os) (fun ι' Hf' H' _ d=>∃ xs,d=.lst xs/\∀ vs p,Rps G ι' Hf' vs xs->vs.length<=sizeLine->H' p=none->Q (.ref p) (upd H' p (.lst vs)))
noncomputable def Ts (es:I.Es):TA:=fun σ H Q=>∃ ι Hf ρ os,Rel G ι Hf H os/\Rf G ι Hf σ ρ/\WR G E ι Hf (I.evs P KO es ρ os) (fun ι' Hf' H' _ ds=>∀ vs,Rps G ι' Hf' vs ds->Q vs H')
noncomputable def TCo (c:I.C):TT:=fun σ H Q=>∃ ι Hf ρ os,Rel G ι Hf H os/\Rf G ι Hf σ ρ/\WR G E ι Hf (I.evC P KO c ρ os) (fun _ _ H' _ b=>Q b H')
noncomputable def JOk (J:It) (ι:List Addr) (Hf:Hp) (os:OS) (d:List D) (xs:List D):Prop :=
 ∀ (i:Nat) ι' Hf' H' os',Ext ι Hf ι' Hf'->Rel G ι' Hf' H' os'->I.aX os d os' ->
  (∀ x,xs[i]?=some x->J.go i H'/\∀ v H'',J.yld i H' v H''->∃ Hf'',Ext ι' Hf' ι' Hf''/\Rel G ι' Hf'' H'' os'/\Rp G ι' Hf'' v x)/\(xs[i]?=none->i=xs.length->J.stop i H')
noncomputable def TIr (it:I.It):TI:=fun σ H R=>∃ ι Hf ρ os,Rel G ι Hf H os/\Rf G ι Hf σ ρ/\WR G E ι Hf (I.evI P KO it ρ os) (fun ι' Hf' H' os' q=>∀ J,JOk G J ι' Hf' os' q.1 q.2->R J H')
noncomputable def TTg (t:I.Tg):TG:=fun v σ H Q=>∃ ι Hf ρ os d,Rel G ι Hf H os/\Rf G ι Hf σ ρ/\Rp G ι Hf v d/\∃ ρ',I.aF t d ρ=some ρ'/\∀ σ',Rf G ι Hf σ' ρ'->Q σ' H
noncomputable def WS (D:Ends):List Addr->Hp->Hp->OS->I.Flow × Fr->Prop
 | ι,Hf,H,_,(.nx,ρ)=>∀ σ,Rf G ι Hf σ ρ->D.nx σ H
 | ι,Hf,H,_,(.bk,ρ)=>∀ σ,Rf G ι Hf σ ρ->D.bk σ H
 | ι,Hf,H,_,(.ct,ρ)=>∀ σ,Rf G ι Hf σ ρ->D.ct σ H
 | ι,Hf,H,_,(.rt d,_)=>∀ v,Rp G ι Hf v d->D.rt v H
noncomputable def TSt (s:I.S):TS:=fun D σ H=>∃ ι Hf ρ os,Rel G ι Hf H os/\Rf G ι Hf σ ρ/\WR G E ι Hf (I.exec P KO W s ρ os) (WS G D)
noncomputable def fm (s:I.Ss):TS:=fun D σ H=>∃ ι Hf ρ os,Rel G ι Hf H os/\Rf G ι Hf σ ρ/\WR G E ι Hf (I.execs P KO W s ρ os) (WS G D)
end
section
variable {G:GI} {E:XK} {P:I.Pg} {KO:I.Orc} {W:Nat} {X:Cx} {ι:List Addr} {Hf H:Hp} {os:OS} {σ:St} {ρ:Fr}
theorem T.use {e:I.E} {Q:VK} {Q0:List Addr->Hp->Hp->OS->D->Prop} (rel:Rel G ι Hf H os) (rf:Rf G ι Hf σ ρ) (w:WR G E ι Hf (I.ev P KO e ρ os) Q0)
  (h:∀ ι' Hf' H' os' d v,Ext ι Hf ι' Hf'->Rel G ι' Hf' H' os'->Rf G ι' Hf' σ ρ->Rp G ι' Hf' v d->Q0 ι' Hf' H' os' d->Q v H'):T G E P KO e σ H Q :=
 ⟨ι,Hf,ρ,os,rel,rf,w.mono fun ι' Hf' H' os' d x r q v hv=>h ι' Hf' H' os' d v x r (rf.ext x) hv q⟩
theorem Ts.use {es:I.Es} {Q:List V->Hp->Prop} {Q0:List Addr->Hp->Hp->OS->List D->Prop} (rel:Rel G ι Hf H os) (rf:Rf G ι Hf σ ρ) (w:WR G E ι Hf (I.evs P KO es ρ os) Q0)
  (h:∀ ι' Hf' H' os' ds vs,Ext ι Hf ι' Hf'->Rel G ι' Hf' H' os'->Rf G ι' Hf' σ ρ->Rps G ι' Hf' vs ds->Q0 ι' Hf' H' os' ds->Q vs H'):Ts G E P KO es σ H Q :=
 ⟨ι,Hf,ρ,os,rel,rf,w.mono fun ι' Hf' H' os' d x r q v hv=>h ι' Hf' H' os' d v x r (rf.ext x) hv q⟩
theorem TCo.use {c:I.C} {Q:Bool->Hp->Prop} {Q0:List Addr->Hp->Hp->OS->Bool->Prop} (rel:Rel G ι Hf H os) (rf:Rf G ι Hf σ ρ) (w:WR G E ι Hf (I.evC P KO c ρ os) Q0)
  (h:∀ ι' Hf' H' os' b,Ext ι Hf ι' Hf'->Rel G ι' Hf' H' os'->Rf G ι' Hf' σ ρ->Q0 ι' Hf' H' os' b->Q b H'):TCo G E P KO c σ H Q :=
 ⟨ι,Hf,ρ,os,rel,rf,w.mono fun ι' Hf' H' os' d x r q=>h ι' Hf' H' os' d x r (rf.ext x) q⟩
theorem one {a:I.E} {Q:List Addr->Hp->Hp->OS->List D->Prop} (w:WR G E ι Hf (I.evs P KO (.cons a .nil) ρ os) Q):WR G E ι Hf (I.ev P KO a ρ os) (fun ι1 Hf1 H1 os1 d1=>Q ι1 Hf1 H1 os1 [d1]) :=
 (WR.bind (k:=⟨_⟩) w).mono fun _ _ _ _ _ _ r q=>WR.now (WR.now (WR.bind (k:=⟨_⟩) q) r) r
theorem two {a b:I.E} {Q:List Addr->Hp->Hp->OS->List D->Prop} (w:WR G E ι Hf (I.evs P KO (.cons a (.cons b .nil)) ρ os) Q):WR G E ι Hf (I.ev P KO a ρ os) (fun ι1 Hf1 _ os1 d1=>WR G E ι1 Hf1 (I.ev P KO b ρ os1) (fun ι2 Hf2 H2 os2 d2=>Q ι2 Hf2 H2 os2 [d1,d2])) :=
 (WR.bind (k:=⟨_⟩) w).mono fun _ _ _ _ _ _ _ q=>(one (WR.bind (k:=⟨_⟩) q)).mono fun _ _ _ _ _ _ r q=>q.now r
theorem three {a b c:I.E} {Q:List Addr->Hp->Hp->OS->List D->Prop} (w:WR G E ι Hf (I.evs P KO (.cons a (.cons b (.cons c .nil))) ρ os) Q):WR G E ι Hf (I.ev P KO a ρ os) (fun ι1 Hf1 _ os1 d1=>WR G E ι1 Hf1 (I.ev P KO b ρ os1) (fun ι2 Hf2 _ os2 d2=>WR G E ι2 Hf2 (I.ev P KO c ρ os2) (fun ι3 Hf3 H3 os3 d3=>Q ι3 Hf3 H3 os3 [d1,d2,d3]))) :=
 (WR.bind (k:=⟨_⟩) w).mono fun _ _ _ _ _ _ _ q=>(two (WR.bind (k:=⟨_⟩) q)).mono fun _ _ _ _ _ _ _ q=>q.mono fun _ _ _ _ _ _ r q=>q.now r
theorem sA:PA X [] (Ts G E P KO .nil):=PA.weak fH fun σ H Q ⟨ι,Hf,ρ,os,rel,rf,w⟩=>w.now rel [] .nil
theorem jY {a:I.E} {as:I.Es} {e:Expr} {es:List Expr} (ha:PE X e (T G E P KO a)) (hr:PA X es (Ts G E P KO as)) (hs:starEach (e::es) X.env=(false,eval e X.env)::starEach es X.env):PA X (e::es) (Ts G E P KO (.cons a as)) :=
 PA.weak (bV ha hr hs) fun σ H Q ⟨ι,Hf,ρ,os,rel,rf,w⟩ =>
  T.use rel rf (WR.bind (k:=⟨_⟩) w) fun ι1 Hf1 H1 os1 d v x1 r1 f1 hv q =>
   Ts.use r1 f1 (WR.bind (k:=⟨_⟩) q) fun ι2 Hf2 H2 os2 ds vs x2 r2 f2 hvs q2=>q2.now r2 (v::vs) (.cons (hv.ext x2) hvs)
noncomputable def VR2 (G:GI) (E:XK) (p:I.Pr) (r:R2):Prop:=∀ ι Hf H os x y dx dy (Q:VK),Rel G ι Hf H os->Rp G ι Hf x dx->Rp G ι Hf y dy ->
 WR G E ι Hf (I.pr p [dx,dy] os) (fun ι' Hf' H' _ d=>∀ v,Rp G ι' Hf' v d->Q v H')->r x y H Q
noncomputable def A9 (G:GI) (E:XK) (p:I.Pr) (r:R2):Prop:=∀ ι Hf H os x y dx dy (Q:VK),Rel G ι Hf H os->Rp G ι Hf x dx->Rp G ι Hf y dy ->
 WR G E ι Hf (I.pr p [dx,dy] os) (fun ι' Hf' H' _ d=>∃ xs,d=.lst xs/\∀ vs p,Rps G ι' Hf' vs xs->vs.length<=sizeLine->H' p=none->Q (.ref p) (upd H' p (.lst vs)))->r x y H Q
noncomputable def VR1 (G:GI) (E:XK) (p:I.Pr) (r:V->Hp->VK->Prop):Prop:=∀ ι Hf H os x dx (Q:VK),Rel G ι Hf H os->Rp G ι Hf x dx ->
 WR G E ι Hf (I.pr p [dx] os) (fun ι' Hf' H' _ d=>∀ v,Rp G ι' Hf' v d->Q v H')->r x H Q
noncomputable def VRs (G:GI) (E:XK) (p:I.Pr) (r:List V->Hp->VK->Prop):Prop:=∀ ι Hf H os xs ds (Q:VK),Rel G ι Hf H os->Rps G ι Hf xs ds ->
 WR G E ι Hf (I.pr p ds os) (fun ι' Hf' H' _ d=>∀ v,Rp G ι' Hf' v d->Q v H')->r xs H Q
noncomputable def Bp (G:GI) (E:XK) (p:I.Pr) (r:List V->Hp->VK->Prop):Prop:=∀ ι Hf H os xs ds (Q:VK),Rel G ι Hf H os->Rps G ι Hf xs ds ->
 WR G E ι Hf (I.pr p ds os) (fun ι' Hf' H' _ d=>∃ xs,d=.lst xs/\∀ vs p,Rps G ι' Hf' vs xs->vs.length<=sizeLine->H' p=none->Q (.ref p) (upd H' p (.lst vs)))->r xs H Q
theorem uW {r:R2} {p:I.Pr} {a b:I.E} (hv:VR2 G E p r) (σ:St) (H:Hp) (Q:VK) (h:T G E P KO (.pr p (.cons a (.cons b .nil))) σ H Q):tOp r (T G E P KO a) (T G E P KO b) σ H Q:=by
 obtain ⟨ι,Hf,ρ,os,rel,rf,w⟩:=h
 exact T.use rel rf (two (WR.bind (k:=⟨_⟩) w)) fun ι1 Hf1 H1 os1 d1 v1 x1 r1 f1 hv1 q1 =>
  T.use r1 f1 q1 fun ι2 Hf2 H2 os2 d2 v2 x2 r2 f2 hv2 q2=>hv ι2 Hf2 H2 os2 v1 v2 d1 d2 Q r2 (hv1.ext x2) hv2 q2
theorem Am {r:R2} {p:I.Pr} {a b:I.E} (hv:A9 G E p r) (σ:St) (H:Hp) (Q:VK) (h:TF G E P KO (.pr p (.cons a (.cons b .nil))) σ H Q):tOp r (T G E P KO a) (T G E P KO b) σ H Q:=by
 obtain ⟨ι,Hf,ρ,os,rel,rf,w⟩:=h
 exact T.use rel rf (two (WR.bind (k:=⟨_⟩) w)) fun ι1 Hf1 H1 os1 d1 v1 x1 r1 f1 hv1 q1 =>
  T.use r1 f1 q1 fun ι2 Hf2 H2 os2 d2 v2 x2 r2 f2 hv2 q2=>hv ι2 Hf2 H2 os2 v1 v2 d1 d2 Q r2 (hv1.ext x2) hv2 q2
theorem E7 {r:V->Hp->VK->Prop} {p:I.Pr} {a:I.E} (hv:VR1 G E p r) (σ:St) (H:Hp) (Q:VK) (h:T G E P KO (.pr p (.cons a .nil)) σ H Q):tUn r (T G E P KO a) σ H Q:=by
 obtain ⟨ι,Hf,ρ,os,rel,rf,w⟩:=h
 exact T.use rel rf (one (WR.bind (k:=⟨_⟩) w)) fun ι1 Hf1 H1 os1 d1 v1 x1 r1 f1 hv1 q1=>hv ι1 Hf1 H1 os1 v1 d1 Q r1 hv1 q1
theorem yY {r:List V->Hp->VK->Prop} {p:I.Pr} {es:I.Es} (hv:VRs G E p r) (σ:St) (H:Hp) (Q:VK) (h:T G E P KO (.pr p es) σ H Q):tCB r (Ts G E P KO es) σ H Q:=by
 obtain ⟨ι,Hf,ρ,os,rel,rf,w⟩:=h
 exact Ts.use rel rf (WR.bind (k:=⟨_⟩) w) fun ι1 Hf1 H1 os1 ds vs x1 r1 f1 hv1 q1=>hv ι1 Hf1 H1 os1 vs ds Q r1 hv1 q1
theorem Dp {r:List V->Hp->VK->Prop} {p:I.Pr} {es:I.Es} (hv:Bp G E p r) (σ:St) (H:Hp) (Q:VK) (h:TF G E P KO (.pr p es) σ H Q):tCB r (Ts G E P KO es) σ H Q:=by
 obtain ⟨ι,Hf,ρ,os,rel,rf,w⟩:=h
 exact Ts.use rel rf (WR.bind (k:=⟨_⟩) w) fun ι1 Hf1 H1 os1 ds vs x1 r1 f1 hv1 q1=>hv ι1 Hf1 H1 os1 vs ds Q r1 hv1 q1
theorem ow {e:I.E} (hd:∀ ρ os d os',I.ev P KO e ρ os=.ok d os'->∃ xs,d=.lst xs) (σ:St) (H:Hp) (Q:VK) (h:T G E P KO e σ H Q):TF G E P KO e σ H Q:=by
 obtain ⟨ι,Hf,ρ,os,rel,rf,w⟩:=h
 refine ⟨ι,Hf,ρ,os,rel,rf,?_⟩
 cases e1:I.ev P KO e ρ os with
 | stk=>rw [e1] at w; exact w
 | exc c p os'=>rw [e1] at w; exact w
 | ok d os' =>
  rw [e1] at w
  obtain ⟨xs,rfl⟩:=hd ρ os d os' e1
  intro ι' Hf' H' x r
  refine ⟨xs,rfl,fun vs p hvs hz hp => ?_⟩
  obtain ⟨x2,r2⟩:=r.fY (o:=.lst vs) hp
  exact w ι' (upd Hf' p (.lst vs)) (upd H' p (.lst vs)) (x.trans x2) r2 (.ref p) (.lst ak hz (hvs.ext x2))
theorem qQ {e:I.E} (σ:St) (H:Hp) (Q:VK) (h:T G E P KO (.cell e) σ H Q):TF G E P KO e σ H Q:=by
 obtain ⟨ι,Hf,ρ,os,rel,rf,w⟩:=h
 refine ⟨ι,Hf,ρ,os,rel,rf,?_⟩
 have w':=WR.bind (k:=⟨_⟩) w
 refine w'.mono fun ι' Hf' H' os' d x r q => ?_
 cases d with
 | lst xs =>
  refine ⟨xs,rfl,fun vs p hvs hz hp => ?_⟩
  have x2:Ext ι' Hf' (ι'++[p]) Hf':=⟨List.prefix_append _ _,aK.refl _⟩
  obtain ⟨_,r2⟩:=r.yD (o:=.lst vs) (c:=.lst xs) hp ⟨vs,ak,hz,hvs.ext x2⟩
  exact (show WR G E ι' Hf' (.ok (D.cel os'.length) (os'++[some (.lst xs)])) _ from q) (ι'++[p]) Hf' (upd H' p (.lst vs)) x2 r2 (.ref p) (.cel (by rw [<-r.len]; simp))
 | _=>exact False.elim q
end
end IS
namespace IS
open PySem PySem.Spec L2
open PyProof.Rows hiding St
open I (D Cell OS Fr R SZ Kt Ko)
section
variable {G:GI} {E:XK} {P:I.Pg} {KO:I.Orc} {W:Nat} {X:Cx} {ι:List Addr} {Hf H:Hp} {os:OS} {σ:St} {ρ:Fr}
theorem cF:SZ=sizeLine:=by rw [sizeLine_eq]; rfl
theorem ja {n:Nat} {xs:List D} (h:I.aj os (.cel n)=.lst xs):I.aa os n=some (.lst xs):=by
 have h':(match I.aa os n with | some (.lst xs)=>D.lst xs | _=>D.cel n)=.lst xs:=h
 cases e:I.aa os n with
 | none=>rw [e] at h'; cases h'
 | some c =>
  rw [e] at h'
  cases c with
  | lst ys=>cases h'; rfl
  | _=>cases h'
theorem jm {n:Nat} {xs:List D} (h:I.items os (.cel n)=some xs):I.aa os n=some (.lst xs):=by
 have h':(match I.aa os n with | some (.lst xs)=>some xs | _=>none)=some xs:=h
 cases e:I.aa os n with
 | none=>rw [e] at h'; cases h'
 | some c =>
  rw [e] at h'
  cases c with
  | lst ys=>cases h'; rfl
  | _=>cases h'
theorem Rel.asL {x:V} {d:D} {xs:List D} (rel:Rel G ι Hf H os) (h:Rp G ι Hf x d) (hd:I.aj os d=.lst xs):∃ a vs,x=.ref a/\H a=some (.lst vs)/\vs.length<=sizeLine/\Rps G ι Hf vs xs:=by
 cases h with
 | lst h z r=>cases hd; exact ⟨_,_,rfl,rel.sub _ _ h,z,r⟩
 | @cel a n h =>
  obtain ⟨a',h1,h2,vs,h3,z,h4⟩:=rel.cell n _ (ja hd)
  rw [h] at h1
  cases h1
  exact ⟨a,vs,rfl,h3,z,h4⟩
 | _=>cases hd
theorem Rel.asC {x:V} {n:Nat} {xs:List D} (rel:Rel G ι Hf H os) (h:Rp G ι Hf x (.cel n)) (hd:I.aa os n=some (.lst xs)):∃ a vs,x=.ref a/\ι[n]?=some a/\Hf a=none/\H a=some (.lst vs)/\vs.length<=sizeLine/\Rps G ι Hf vs xs:=by
 cases h with
 | @cel a n h =>
  obtain ⟨a',h1,h2,vs,h3,z,h4⟩:=rel.cell n _ hd
  rw [h] at h1
  cases h1
  exact ⟨a,vs,rfl,h,h2,h3,z,h4⟩
theorem Rel.asI {x:V} {d:D} {xs:List D} (rel:Rel G ι Hf H os) (h:Rp G ι Hf x d) (hd:I.items os d=some xs):∃ a vs,x=.ref a/\(SqL G.K H a vs\/SqT G.K H a vs)/\vs.length<=sizeLine/\Rps G ι Hf vs xs:=by
 cases h with
 | lst h z r=>cases hd; exact ⟨_,_,rfl,.inl (SqL.of (rel.sub _ _ h)),z,r⟩
 | scr h z r=>cases hd; exact ⟨_,_,rfl,.inl (rel.sub.seq h),z,r⟩
 | tup h z r=>cases hd; exact ⟨_,_,rfl,.inr (SqT.of (rel.sub _ _ h)),z,r⟩
 | ktu h z r=>cases hd; exact ⟨_,_,rfl,.inr (aK.lH rel.sub h),z,r⟩
 | @cel a n h =>
  obtain ⟨a',vs,h1,h2,h3,h4,z,h5⟩:=rel.asC (.cel h) (jm hd)
  cases h1
  exact ⟨_,vs,rfl,.inl (SqL.of h4),z,h5⟩
 | _=>cases hd
theorem mO (vs:List V) (xs:List D) (r:Rps G ι Hf vs xs) (lo hi:Option Int):Rps G ι Hf (iP vs lo hi) (I.cut xs lo hi):=by
 have e:∀ (n d:Nat) (o:Option Int),HT.sIx n d o=I.mJ n d o:=fun n d o=>by
  cases o with
  | none=>rfl
  | some i =>
   show (if i<0 then (i+(n:Int)).toNat else min i.toNat n)=if 0<=i then min i.toNat n else (i+(n:Int)).toNat
   by_cases hi:i<0
   ·rw [if_pos hi,if_neg (by omega)]
   ·rw [if_neg hi,if_pos (by omega)]
 unfold iP I.cut
 rw [e,e,r.len]
 exact (r.drop _).take _
theorem qk (n:Nat) (i:Int):ixN n i=I.aO n i:=rfl
theorem v_sub:VR2 G E .sub (rI0 fun i j=>.int (i - j)):=by
 intro ι Hf H os x y dx dy Q rel hx hy w
 obtain ⟨i,j,e,w⟩:=WR.cq w
 cases e
 obtain rfl:=hx.au
 obtain rfl:=hy.au
 exact ⟨_,_,rfl,rfl,w.now rel _ (.int _)⟩
theorem yK:VR2 G E .fdiv (rI (fun _ j=>0<j/\j<2 ^ 200) fun i j=>.int (i / j)):=by
 intro ι Hf H os x y dx dy Q rel hx hy w
 obtain ⟨i,j,e,w⟩:=WR.cq w
 cases e
 obtain rfl:=hx.au
 obtain rfl:=hy.au
 exact ⟨_,_,rfl,rfl,(WR.gd w).1,(WR.gd w).2.now rel _ (.int _)⟩
theorem v_mod:VR2 G E .mod (rI (fun _ j=>0<j) fun i j=>.int (i % j)):=by
 intro ι Hf H os x y dx dy Q rel hx hy w
 obtain ⟨i,j,e,w⟩:=WR.cq w
 cases e
 obtain rfl:=hx.au
 obtain rfl:=hy.au
 exact ⟨_,_,rfl,rfl,(WR.gd w).1,(WR.gd w).2.now rel _ (.int _)⟩
theorem v_pow:VR2 G E .pow (rI CB fun i j=>.int (i ^ j.toNat)):=by
 intro ι Hf H os x y dx dy Q rel hx hy w
 obtain ⟨i,j,e,w⟩:=WR.cq w
 cases e
 obtain rfl:=hx.au
 obtain rfl:=hy.au
 exact ⟨_,_,rfl,rfl,(WR.gd w).1,(WR.gd w).2.now rel _ (.int _)⟩
theorem v_shr:VR2 G E .shr (rI (fun _ j=>0<=j) fun i j=>.int (i / 2 ^ j.toNat)):=by
 intro ι Hf H os x y dx dy Q rel hx hy w
 obtain ⟨i,j,e,w⟩:=WR.cq w
 cases e
 obtain rfl:=hx.au
 obtain rfl:=hy.au
 exact ⟨_,_,rfl,rfl,(WR.gd w).1,(WR.gd w).2.now rel _ (.int _)⟩
theorem fc {i:Int} {n:Nat} (h:i.natAbs<2 ^ n):Builtin.Int.intBits i<=n:=intBits_le_iff.mpr h
theorem v_shl:VR2 G E .shl (rI DD fun i j=>.int (i * 2 ^ j.toNat)):=by
 intro ι Hf H os x y dx dy Q rel hx hy w
 obtain ⟨i,j,e,w⟩:=WR.cq w
 cases e
 obtain rfl:=hx.au
 obtain rfl:=hy.au
 obtain ⟨⟨a,b,c⟩,w⟩:=WR.gd w
 refine ⟨_,_,rfl,rfl,⟨a,?_⟩,w.now rel _ (.int _)⟩
 have:=fc c
 omega
theorem xD:VR2 G E .mul (fun x y H Q=>(rI IntMulOk fun i j=>.int (i * j)) x y H Q\/Cc x y H Q):=by
 intro ι Hf H os x y dx dy Q rel hx hy w
 cases hx with
 | int i =>
  cases hy with
  | int j =>
   obtain ⟨h,w⟩:=WR.gd w
   refine .inl ⟨_,_,rfl,rfl,?_,w.now rel _ (.int _)⟩
   rcases h with (h | h) | ⟨h1,h2⟩
   ·exact .of_left (fc h)
   ·exact .of_right (fc h)
   ·exact IntMulOk.of_le (fc h1) (fc h2) (by decide)
  | _=>exact False.elim w
 | lst h z r =>
  cases hy with
  | int k =>
   obtain ⟨⟨h1,h2,h3⟩,w⟩:=WR.gd w
   refine .inr ⟨_,_,_,rfl,rfl,rel.sub _ _ h,h1,h2,?_,fun p hp => ?_⟩
   ·rw [r.len,<-cF]; exact h3
   ·obtain ⟨x2,r2⟩:=rel.fY (o:=HO.lst (List.replicate k.toNat _).flatten) hp
    refine w ι _ _ x2 r2 (.ref p) (.lst ak ?_ ?_)
    ·rw [len_rep,Nat.mul_comm,r.len,<-cF]; exact h3
    ·have:∀ n:Nat,∀ {a:List V} {c:List D},Rps G ι Hf a c->Rps G ι Hf (List.replicate n a).flatten (List.replicate n c).flatten:=fun n=>by
      induction n with
      | zero=>exact fun _=>.nil
      | succ n ih =>
       intro a c h
       rw [List.replicate_succ,List.replicate_succ,List.flatten_cons,List.flatten_cons]
       exact h.app (ih h)
     exact (this _ r).ext x2
  | _=>exact False.elim w
 | _=>cases hy <;> exact False.elim w
theorem v_band:VR2 G E .band (rI0 fun i j=>.int (Builtin.bitAnd i j)):=by
 intro ι Hf H os x y dx dy Q rel hx hy w
 obtain ⟨i,j,e,w⟩:=WR.cq w
 cases e
 obtain rfl:=hx.au
 obtain rfl:=hy.au
 obtain ⟨⟨a,b⟩,w⟩:=WR.gd w
 refine ⟨_,_,rfl,rfl,?_⟩
 have q:=w.now rel _ (.int _)
 obtain ⟨n,rfl⟩:=Int.eq_ofNat_of_zero_le a
 obtain ⟨m,rfl⟩:=Int.eq_ofNat_of_zero_le b
 exact q
theorem v_bor:VR2 G E .bor (rI0 fun i j=>.int (Builtin.bitOr i j)):=by
 intro ι Hf H os x y dx dy Q rel hx hy w
 obtain ⟨i,j,e,w⟩:=WR.cq w
 cases e
 obtain rfl:=hx.au
 obtain rfl:=hy.au
 obtain ⟨⟨a,b⟩,w⟩:=WR.gd w
 refine ⟨_,_,rfl,rfl,?_⟩
 have q:=w.now rel _ (.int _)
 obtain ⟨n,rfl⟩:=Int.eq_ofNat_of_zero_le a
 obtain ⟨m,rfl⟩:=Int.eq_ofNat_of_zero_le b
 show Q (V.int (Builtin.bitOr _ _)) H
 rw [PyProof.Rows.bitOr_and]
 exact q
theorem v_bxor:VR2 G E .bxor (rI0 fun i j=>.int (Builtin.bitXor i j)):=by
 intro ι Hf H os x y dx dy Q rel hx hy w
 obtain ⟨i,j,e,w⟩:=WR.cq w
 cases e
 obtain rfl:=hx.au
 obtain rfl:=hy.au
 obtain ⟨⟨a,b⟩,w⟩:=WR.gd w
 refine ⟨_,_,rfl,rfl,?_⟩
 have q:=w.now rel _ (.int _)
 obtain ⟨n,rfl⟩:=Int.eq_ofNat_of_zero_le a
 obtain ⟨m,rfl⟩:=Int.eq_ofNat_of_zero_le b
 show Q (V.int (Builtin.bitOr _ _ - Builtin.bitAnd _ _)) H
 rw [PyProof.Rows.bitOr_and]
 exact q
theorem C4:VR1 G E .neg (rU fun i=>.int (-i)):=by
 intro ι Hf H os x dx Q rel hx w
 cases hx <;> first
  | exact False.elim w
  | exact ⟨_,rfl,w.now rel _ (.int _)⟩
noncomputable def ji (K:PySem.W.Frag):R2:=fun x y H Q=>(rI0 (fun i j=>.int (i+j)) x y H Q\/Au x y H Q)\/wN K x y H Q
theorem nW (hK:X.K=G.K):OpR X (binaryOp .Add) (ji G.K):=OpR.or (OpR.or yC ze) (hK ▸ vM)
theorem v_add:VR2 G E .add (ji G.K):=by
 intro ι Hf H os x y dx dy Q rel hx hy w
 have lists:∀ xs ys,I.aj os dx=.lst xs->I.aj os dy=.lst ys->WR G E ι Hf (.gd (xs.length+ys.length<=SZ) (.ok (.lst (xs++ys)) os)) (fun ι' Hf' H' _ d=>∀ v,Rp G ι' Hf' v d->Q v H')->ji G.K x y H Q:=fun xs ys e1 e2 w=>by
  obtain ⟨a,vs,rfl,h1,z1,r1⟩:=rel.asL hx e1
  obtain ⟨b,us,rfl,h2,z2,r2⟩:=rel.asL hy e2
  obtain ⟨hz,w⟩:=WR.gd w
  have hz':vs.length+us.length<=sizeLine:=by rw [r1.len,r2.len,<-cF]; exact hz
  refine .inl (.inr ⟨a,b,vs,us,rfl,rfl,h1,h2,hz',fun p hp => ?_⟩)
  obtain ⟨x2,rr⟩:=rel.fY (o:=.lst (vs++us)) hp
  exact w ι _ _ x2 rr (.ref p) (.lst ak (by rw [List.length_append]; exact hz') ((r1.app r2).ext x2))
 have stuck:∀ {A:Prop},(∀ xs ys,I.aj os dx=.lst xs->I.aj os dy=.lst ys->WR G E ι Hf (.gd (xs.length+ys.length<=SZ) (.ok (.lst (xs++ys)) os)) (fun ι' Hf' H' _ d=>∀ v,Rp G ι' Hf' v d->Q v H')->A) ->
   WR G E ι Hf (match I.aj os dx,I.aj os dy with | .lst xs,.lst ys=>R.gd (xs.length+ys.length<=SZ) (R.ok (D.lst (xs++ys)) os) | _,_=>R.stk) (fun ι' Hf' H' _ d=>∀ v,Rp G ι' Hf' v d->Q v H')->A:=fun f w=>by
  split at w
  ·exact f _ _ ‹_› ‹_› w
  ·exact False.elim w
 cases hx with
 | int i =>
  cases hy with
  | int j=>exact .inl (.inl ⟨_,_,rfl,rfl,w.now rel _ (.int _)⟩)
  | _=>exact stuck lists w
 | tup h z r =>
  cases hy with
  | tup h' z' r' =>
   obtain ⟨⟨hn,hz⟩,w⟩:=WR.gd w
   refine .inr ⟨_,_,_,_,rfl,rfl,SqT.of (rel.sub _ _ h),SqT.of (rel.sub _ _ h'),?_,by rw [r.len,r'.len,<-cF]; exact hz,fun e => ?_,fun e p hp => ?_⟩
   ·intro e; subst e; cases r; exact hn rfl
   ·subst e
    cases r'
    rw [List.append_nil] at w
    exact w.now rel _ (.tup h z r)
   ·obtain ⟨x2,rr⟩:=rel.fY (o:=HO.tup (_++_)) hp
    exact w ι _ _ x2 rr (.ref p) (.tup ak (by rw [List.length_append,r.len,r'.len,<-cF]; exact hz) ((r.app r').ext x2))
  | _=>exact stuck lists w
 | _=>cases hy <;> exact stuck lists w
theorem zZ:A9 G E .add (ji G.K):=by
 intro ι Hf H os x y dx dy Q rel hx hy w
 have lists:∀ xs ys,I.aj os dx=.lst xs->I.aj os dy=.lst ys->WR G E ι Hf (.gd (xs.length+ys.length<=SZ) (.ok (.lst (xs++ys)) os)) (fun ι' Hf' H' _ d=>∃ xs,d=D.lst xs/\∀ vs p,Rps G ι' Hf' vs xs->vs.length<=sizeLine->H' p=none->Q (V.ref p) (upd H' p (HO.lst vs)))->ji G.K x y H Q:=fun xs ys e1 e2 w=>by
  obtain ⟨a,vs,rfl,h1,z1,r1⟩:=rel.asL hx e1
  obtain ⟨b,us,rfl,h2,z2,r2⟩:=rel.asL hy e2
  obtain ⟨hz,w⟩:=WR.gd w
  have hz':vs.length+us.length<=sizeLine:=by rw [r1.len,r2.len,<-cF]; exact hz
  refine .inl (.inr ⟨a,b,vs,us,rfl,rfl,h1,h2,hz',fun p hp => ?_⟩)
  obtain ⟨zs,e,w⟩:=w.now rel
  cases e
  exact w _ p (r1.app r2) (by rw [List.length_append]; exact hz') hp
 have stuck:WR G E ι Hf (match I.aj os dx,I.aj os dy with | .lst xs,.lst ys=>R.gd (xs.length+ys.length<=SZ) (R.ok (D.lst (xs++ys)) os) | _,_=>R.stk) (fun ι' Hf' H' _ d=>∃ xs,d=D.lst xs/\∀ vs p,Rps G ι' Hf' vs xs->vs.length<=sizeLine->H' p=none->Q (V.ref p) (upd H' p (HO.lst vs)))->ji G.K x y H Q:=fun w=>by
  split at w
  ·exact lists _ _ ‹_› ‹_› w
  ·exact False.elim w
 cases hx with
 | int i =>
  cases hy with
  | int j=>obtain ⟨_,e,_⟩:=w.now rel; cases e
  | _=>exact stuck w
 | tup h z r =>
  cases hy with
  | tup h' z' r'=>obtain ⟨_,e,_⟩:=(WR.gd w).2.now rel; cases e
  | _=>exact stuck w
 | _=>cases hy <;> exact stuck w
end
end IS
namespace IS
open PySem PySem.Spec L2
open PyProof.Rows hiding St
open I (D Cell OS Fr R SZ Kt Ko)
mutual
inductive eG (K:PySem.W.Frag) (H:Hp):V->PyData->Prop
 | non:eG K H .non .none
 | bl (b:Bool):eG K H (.bl b) (.bool b)
 | int (i:Int):eG K H (.int i) (.int i)
 | str (x:Str):eG K H (.str x) (.str x)
 | lst {a:Addr} {xs:List V} {ds:List PyData}:SqL K H a xs->dw K H xs ds->eG K H (.ref a) (.list ds)
 | tup {a:Addr} {xs:List V} {ds:List PyData}:SqT K H a xs->dw K H xs ds->eG K H (.ref a) (.tuple ds)
inductive dw (K:PySem.W.Frag) (H:Hp):List V->List PyData->Prop
 | nil:dw K H [] []
 | cons {x:V} {d:PyData} {xs:List V} {ds:List PyData}:eG K H x d->dw K H xs ds->dw K H (x::xs) (d::ds)
end
section
variable {X:Cx} {pins:List (Addr × Obj)} {σ:St} {H:Hp} {s:Shared}
mutual
theorem eG.reads (I:Inv X pins σ H s):∀ {x:V} {d:PyData} {u:Value},eG X.K H x d->RelV x u->∃ as,Reads s.heap u d as
 | _,_,_,.non,r=>⟨[],by cases r; exact .none⟩
 | _,_,_,.bl b,r=>⟨[],by cases r; exact .bool b⟩
 | _,_,_,.int i,r=>⟨[],by obtain ⟨t,rfl⟩:=r; exact .int i t⟩
 | _,_,_,.str x,r=>⟨[],by obtain ⟨t,rfl⟩:=r; exact .str x t⟩
 | _,_,_,.lst h hd,r=>by
  cases r
  obtain ⟨its,rv,p,_⟩:=I.list h
  obtain ⟨as,ra⟩:=dw.reads I hd rv
  obtain ⟨o,ho,hc,n,hdt⟩:=p.isList
  exact ⟨_,.list ho hc hdt (by simpa using ra)⟩
 | _,_,_,.tup h hd,r=>by
  cases r
  obtain ⟨its,rv,p,_⟩:=I.tuple h
  obtain ⟨as,ra⟩:=dw.reads I hd rv
  obtain ⟨o,ho,hc,n,hdt⟩:=p
  exact ⟨_,.tuple ho hc hdt (by simpa using ra)⟩
theorem dw.reads (I:Inv X pins σ H s):∀ {xs:List V} {ds:List PyData} {us:List Value},dw X.K H xs ds->Vals xs us->∃ as,ReadsAll s.heap us ds as
 | _,_,_,.nil,r=>⟨[],by cases r; exact .nil⟩
 | _,_,_,.cons h hd,r=>by
  cases r with
  | cons r1 rr =>
   obtain ⟨as,ra⟩:=eG.reads I h r1
   obtain ⟨bs,rb⟩:=dw.reads I hd rr
   exact ⟨_,.cons ra rb⟩
end
noncomputable def qJ (K:PySem.W.Frag) (neg:Bool):R2:=fun x y H Q=>∃ d d':PyData,eG K H x d/\eG K H y d'/\SeqAt.shaped d=true/\SeqAt.shaped d'=true/\SeqAt.noMix d d'=true/\Q (.bl (if neg then !same d d' else same d d')) H
theorem qU (hu:X.A.units+64<cLine):OpR X (compareOp .Eq) (qJ X.K false):=by
 intro pins s σ H x y v u Q I rx ry h
 obtain ⟨d,d',h1,h2,s1,s2,nm,q⟩:=h
 obtain ⟨as,ra⟩:=h1.reads I rx
 obtain ⟨bs,rb⟩:=h2.reads I ry
 exact eq_dataH_same ra rb s1 s2 hu nm ⟨.bl (same d d'),H,I,rfl,q⟩
theorem x8 (hu:X.A.units+64<cLine):OpR X (compareOp .NotEq) (qJ X.K true):=by
 intro pins s σ H x y v u Q I rx ry h
 obtain ⟨d,d',h1,h2,s1,s2,nm,q⟩:=h
 obtain ⟨as,ra⟩:=h1.reads I rx
 obtain ⟨bs,rb⟩:=h2.reads I ry
 exact ne_dataH_same ra rb s1 s2 hu nm ⟨.bl (!same d d'),H,I,rfl,q⟩
end
mutual
noncomputable def toPy:D->PyData
 | .bl b=>.bool b
 | .int i=>.int i
 | .str s=>.str ⟨s.toArray⟩
 | .lst xs=>.list (br xs)
 | .tup xs=>.tuple (br xs)
 | _=>.none
noncomputable def br:List D->List PyData
 | []=>[]
 | x::r=>toPy x::br r
end
theorem xo {n:Nat} {s:List Nat} (h:D.pl n (.str s)=true):(s.all fun c=>decide (c<55296))=true:=by cases n <;> exact h
theorem eN {n:Nat} {xs:List D} (h:D.pl n (.lst xs)=true):∃ m,n=m+1/\∀ x∈xs,D.pl m x=true:=by
 cases n with
 | zero=>cases h
 | succ m=>exact ⟨m,rfl,List.all_eq_true.mp h⟩
theorem hI {n:Nat} {xs:List D} (h:D.pl n (.tup xs)=true):∃ m,n=m+1/\∀ x∈xs,D.pl m x=true:=by
 cases n with
 | zero=>cases h
 | succ m=>exact ⟨m,rfl,List.all_eq_true.mp h⟩
section
variable {G:GI} {E:XK} {ι:List Addr} {Hf H:Hp} {os:OS}
mutual
theorem Rp.dat (hs:aK Hf H):∀ {v:V} {d:D} {n:Nat},Rp G ι Hf v d->D.pl n d=true->eG G.K H v (toPy d)
 | _,_,_,.non,_=>.non
 | _,_,_,.bl b,_=>.bl b
 | _,_,_,.int i,_=>.int i
 | _,_,_,.str x,_=>.str x
 | _,_,n,.lst h z r,p=>by
  obtain ⟨m,_,q⟩:=eN p
  exact .lst (SqL.of (hs _ _ h)) (Rps.dat hs r q)
 | _,_,n,.tup h z r,p=>by
  obtain ⟨m,_,q⟩:=hI p
  exact .tup (SqT.of (hs _ _ h)) (Rps.dat hs r q)
 | _,_,n,.scr h z r,p=>by cases n <;> cases p
 | _,_,n,.ktu h z r,p=>by cases n <;> cases p
 | _,_,n,.cel h,p=>by cases n <;> cases p
theorem Rps.dat (hs:aK Hf H):∀ {vs:List V} {ds:List D} {n:Nat},Rps G ι Hf vs ds->(∀ d∈ds,D.pl n d=true)->dw G.K H vs (br ds)
 | _,_,_,.nil,_=>.nil
 | _,_,_,.cons h r,q=>.cons (Rp.dat hs h (q _ (.head _))) (Rps.dat hs r fun d hd=>q d (.tail _ hd))
end
theorem Rp.vg (rel:Rel G ι Hf H os) {v:V} {d:D} {n:Nat} (h:Rp G ι Hf v d) (p:D.pl n (I.aj os d)=true):eG G.K H v (toPy (I.aj os d)):=by
 cases h with
 | cel h =>
  rename_i a m
  cases e:I.aa os m with
  | none =>
   have:I.aj os (.cel m)=.cel m:=by show (match I.aa os m with | some (.lst xs)=>D.lst xs | _=>D.cel m)=_; rw [e]
   rw [this] at p
   cases n <;> cases p
  | some c =>
   cases c with
   | lst xs =>
    have ed:I.aj os (.cel m)=.lst xs:=by show (match I.aa os m with | some (.lst xs)=>D.lst xs | _=>D.cel m)=_; rw [e]
    rw [ed] at p ⊢
    obtain ⟨a',vs,h1,h2,h3,h4,z,h5⟩:=rel.asC (.cel h) e
    cases h1
    obtain ⟨m',_,q⟩:=eN p
    exact .lst (SqL.of h4) (Rps.dat rel.sub h5 q)
   | _ =>
    have:I.aj os (.cel m)=.cel m:=by show (match I.aa os m with | some (.lst xs)=>D.lst xs | _=>D.cel m)=_; rw [e]
    rw [this] at p
    cases n <;> cases p
 | non=>exact Rp.dat (ι:=ι) rel.sub .non p
 | bl b=>exact Rp.dat (ι:=ι) rel.sub (.bl b) p
 | int b=>exact Rp.dat (ι:=ι) rel.sub (.int b) p
 | str b=>exact Rp.dat (ι:=ι) rel.sub (.str b) p
 | lst a b c=>exact Rp.dat rel.sub (.lst a b c) p
 | tup a b c=>exact Rp.dat rel.sub (.tup a b c) p
 | scr a b c=>exact Rp.dat rel.sub (.scr a b c) p
 | ktu a b c=>exact Rp.dat rel.sub (.ktu a b c) p
end
mutual
theorem gG:∀ (a b:D) {n m:Nat},D.pl n a=true->D.pl m b=true->same (toPy a) (toPy b)=D.same a b
 | .non,b,_,m,_,q=>by cases b <;> first | (simp [toPy,same,D.same]; done) | (cases m <;> cases q)
 | .bl x,b,_,m,_,q=>by cases b <;> first | (simp [toPy,same,D.same]; done) | (cases m <;> cases q)
 | .int x,b,_,m,_,q=>by
  cases b <;> first | (simp [toPy,same,D.same]; done) | (simp [toPy,same,D.same,Bool.beq_eq_decide_eq]; done) | (cases m <;> cases q; done)
 | .str x,b,_,m,_,q=>by
  cases b with
  | str y =>
   simp only [toPy,same,D.same]
   by_cases h:x=y
   ·subst h; simp
   ·rw [decide_eq_false h]
    refine beq_eq_false_iff_ne.mpr fun e=>h ?_
    have:=congrArg (fun s:Str=>s.cps.toList) e
    simpa using this
  | _=>first | (simp [toPy,same,D.same]; done) | (cases m <;> cases q)
 | .lst xs,b,n,m,p,q=>by
  cases b with
  | lst ys =>
   obtain ⟨n',_,p'⟩:=eN p
   obtain ⟨m',_,q'⟩:=eN q
   simp only [toPy,same,D.same]
   exact iq xs ys p' q'
  | _=>first | (simp [toPy,same,D.same]; done) | (cases m <;> cases q)
 | .tup xs,b,n,m,p,q=>by
  cases b with
  | tup ys =>
   obtain ⟨n',_,p'⟩:=hI p
   obtain ⟨m',_,q'⟩:=hI q
   simp only [toPy,same,D.same]
   exact iq xs ys p' q'
  | _=>first | (simp [toPy,same,D.same]; done) | (cases m <;> cases q)
 | .scr _,_,n,_,p,_=>by cases n <;> cases p
 | .ktu _,_,n,_,p,_=>by cases n <;> cases p
 | .cel _,_,n,_,p,_=>by cases n <;> cases p
 | .exn _ _,_,n,_,p,_=>by cases n <;> cases p
theorem iq:∀ (xs ys:List D) {n m:Nat},(∀ x∈xs,D.pl n x=true)->(∀ y∈ys,D.pl m y=true)->sameAll (br xs) (br ys)=D.dv xs ys
 | [],[],_,_,_,_=>by simp [br,sameAll,D.dv]
 | [],_::_,_,_,_,_=>by simp [br,sameAll,D.dv]
 | _::_,[],_,_,_,_=>by simp [br,sameAll,D.dv]
 | x::xs,y::ys,_,_,p,q=>by
  simp only [br,sameAll,D.dv]
  rw [gG x y (p x (.head _)) (q y (.head _)),iq xs ys (fun z hz=>p z (.tail _ hz)) (fun z hz=>q z (.tail _ hz))]
end
mutual
theorem oA:∀ (a b:D),D.nm a b=true->SeqAt.noMix (toPy a) (toPy b)=true
 | .non,b,h=>by cases b <;> simp [toPy,SeqAt.noMix]
 | .bl x,b,h=>by cases b <;> first | (simp [toPy,SeqAt.noMix]; done) | (cases h)
 | .int x,b,h=>by cases b <;> first | (simp [toPy,SeqAt.noMix]; done) | (cases h)
 | .str x,b,h=>by cases b <;> simp [toPy,SeqAt.noMix]
 | .lst xs,b,h=>by
  cases b with
  | lst ys=>simp only [toPy,SeqAt.noMix]; exact mQ xs ys h
  | _=>simp [toPy,SeqAt.noMix]
 | .tup xs,b,h=>by
  cases b with
  | tup ys=>simp only [toPy,SeqAt.noMix]; exact mQ xs ys h
  | _=>simp [toPy,SeqAt.noMix]
 | .scr _,b,h=>by cases b <;> simp [toPy,SeqAt.noMix]
 | .ktu _,b,h=>by cases b <;> simp [toPy,SeqAt.noMix]
 | .cel _,b,h=>by cases b <;> simp [toPy,SeqAt.noMix]
 | .exn _ _,b,h=>by cases b <;> simp [toPy,SeqAt.noMix]
theorem mQ:∀ (xs ys:List D),D.nms xs ys=true->SeqAt.noMixAll (br xs) (br ys)=true
 | [],[],_=>by simp [br,SeqAt.noMixAll]
 | [],_::_,_=>by simp [br,SeqAt.noMixAll]
 | _::_,[],_=>by simp [br,SeqAt.noMixAll]
 | x::xs,y::ys,h=>by
  obtain ⟨h1,h2⟩:=Bool.and_eq_true_iff.mp (show (D.nm x y&&D.nms xs ys)=true from h)
  simp only [br,SeqAt.noMixAll]
  rw [oA x y h1,mQ xs ys h2]
  rfl
end
mutual
theorem j8:∀ (d:D) {n:Nat},D.pl n d=true->(toPy d).canLay0=true/\(toPy d).depth<=n
 | .non,_,_=>⟨rfl,Nat.zero_le _⟩
 | .bl x,_,_=>⟨rfl,Nat.zero_le _⟩
 | .int x,_,_=>⟨rfl,Nat.zero_le _⟩
 | .str x,_,p=>by
  refine ⟨?_,Nat.zero_le _⟩
  show PyData.strOk ⟨x.toArray⟩=true
  have q:=List.all_eq_true.mp (xo p)
  unfold PyData.strOk
  rw [List.all_toArray]
  refine List.all_eq_true.mpr fun c hc => ?_
  have:=of_decide_eq_true (q c hc)
  exact decide_eq_true (by omega)
 | .lst xs,n,p=>by
  obtain ⟨m,rfl,q⟩:=eN p
  obtain ⟨h1,h2⟩:=fS xs q
  exact ⟨h1,Nat.succ_le_succ h2⟩
 | .tup xs,n,p=>by
  obtain ⟨m,rfl,q⟩:=hI p
  obtain ⟨h1,h2⟩:=fS xs q
  exact ⟨h1,Nat.succ_le_succ h2⟩
 | .scr _,n,p=>by cases n <;> cases p
 | .ktu _,n,p=>by cases n <;> cases p
 | .cel _,n,p=>by cases n <;> cases p
 | .exn _ _,n,p=>by cases n <;> cases p
theorem fS:∀ (xs:List D) {n:Nat},(∀ x∈xs,D.pl n x=true)->PyData.canLayAll0 (br xs)=true/\PyData.depthAll (br xs)<=n
 | [],_,_=>⟨rfl,Nat.zero_le _⟩
 | x::r,n,q=>by
  obtain ⟨a1,a2⟩:=j8 x (q x (.head _))
  obtain ⟨b1,b2⟩:=fS r fun z hz=>q z (.tail _ hz)
  refine ⟨?_,Nat.max_le.mpr ⟨a2,b2⟩⟩
  show (_&&_)=true
  rw [a1,b1]
  rfl
end
theorem bZ {d:D} (h:D.pl 60 d=true):SeqAt.shaped (toPy d)=true:=by
 obtain ⟨h1,h2⟩:=j8 d h
 unfold SeqAt.shaped
 rw [h1,decide_eq_true (show (toPy d).depth<=64 by omega)]
 rfl
section
variable {G:GI} {E:XK} {ι:List Addr} {Hf H:Hp} {os:OS}
theorem jI {a b:D} {k:Bool} (h:D.eq a b=some k):D.pl 60 a=true/\D.pl 60 b=true/\D.nm a b=true/\k=D.same a b:=by
 unfold I.D.eq at h
 split at h
 ·rename_i e
  obtain ⟨e,e3⟩:=Bool.and_eq_true_iff.mp e
  obtain ⟨e1,e2⟩:=Bool.and_eq_true_iff.mp e
  exact ⟨e1,e2,e3,(Option.some.inj h).symm⟩
 ·cases h
theorem v_eq:VR2 G E (.cmp .eq) (qJ G.K false):=by
 intro ι Hf H os x y dx dy Q rel hx hy w
 obtain ⟨d,e,w⟩:=WR.ofO (show WR G E ι Hf (R.ofO ((D.eq (I.aj os dx) (I.aj os dy)).map D.bl) os) _ from w)
 cases e':D.eq (I.aj os dx) (I.aj os dy) with
 | none=>rw [e'] at e; cases e
 | some k =>
  rw [e'] at e
  cases e
  obtain ⟨p1,p2,nm,rfl⟩:=jI e'
  refine ⟨_,_,Rp.vg rel hx p1,Rp.vg rel hy p2,bZ p1,bZ p2,oA _ _ nm,?_⟩
  rw [gG _ _ p1 p2]
  exact w.now rel _ (.bl _)
theorem DN:VR2 G E (.cmp .ne) (qJ G.K true):=by
 intro ι Hf H os x y dx dy Q rel hx hy w
 obtain ⟨d,e,w⟩:=WR.ofO (show WR G E ι Hf (R.ofO ((D.eq (I.aj os dx) (I.aj os dy)).map fun x=>D.bl (!x)) os) _ from w)
 cases e':D.eq (I.aj os dx) (I.aj os dy) with
 | none=>rw [e'] at e; cases e
 | some k =>
  rw [e'] at e
  cases e
  obtain ⟨p1,p2,nm,rfl⟩:=jI e'
  refine ⟨_,_,Rp.vg rel hx p1,Rp.vg rel hy p2,bZ p1,bZ p2,oA _ _ nm,?_⟩
  rw [gG _ _ p1 p2]
  exact w.now rel _ (.bl _)
theorem v_lt:VR2 G E (.cmp .lt) (rI0 fun i j=>.bl (decide (i<j))):=by
 intro ι Hf H os x y dx dy Q rel hx hy w
 obtain ⟨i,j,rfl,rfl,w⟩:=WR.kE (o:=.lt) w
 obtain rfl:=hx.au
 obtain rfl:=hy.au
 exact ⟨_,_,rfl,rfl,w.now rel _ (.bl _)⟩
theorem E1:VR2 G E (.cmp .le) (rI0 fun i j=>.bl (decide (i<=j))):=by
 intro ι Hf H os x y dx dy Q rel hx hy w
 obtain ⟨i,j,rfl,rfl,w⟩:=WR.kE (o:=.le) w
 obtain rfl:=hx.au
 obtain rfl:=hy.au
 exact ⟨_,_,rfl,rfl,w.now rel _ (.bl _)⟩
theorem Eh:VR2 G E (.cmp .gt) (rI0 fun i j=>.bl (decide (j<i))):=by
 intro ι Hf H os x y dx dy Q rel hx hy w
 obtain ⟨i,j,rfl,rfl,w⟩:=WR.kE (o:=.gt) w
 obtain rfl:=hx.au
 obtain rfl:=hy.au
 exact ⟨_,_,rfl,rfl,w.now rel _ (.bl _)⟩
theorem ES:VR2 G E (.cmp .ge) (rI0 fun i j=>.bl (decide (j<=i))):=by
 intro ι Hf H os x y dx dy Q rel hx hy w
 obtain ⟨i,j,rfl,rfl,w⟩:=WR.kE (o:=.ge) w
 obtain rfl:=hx.au
 obtain rfl:=hy.au
 exact ⟨_,_,rfl,rfl,w.now rel _ (.bl _)⟩
end
end IS
namespace IS
open PySem PySem.Spec L2
open PyProof.Rows hiding St
open I (D Cell OS Fr R SZ Kt Ko)
section
variable {G:GI} {E:XK} {P:I.Pg} {KO:I.Orc} {W:Nat} {X:Cx}
theorem Rps.two {ι:List Addr} {Hf:Hp} {xs:List V} {d e:D} (h:Rps G ι Hf xs [d,e]):∃ x y,xs=[x,y]/\Rp G ι Hf x d/\Rp G ι Hf y e:=by
 cases h with
 | cons h r=>cases r with | cons h2 r=>cases r; exact ⟨_,_,rfl,h,h2⟩
theorem Rps.three {ι:List Addr} {Hf:Hp} {xs:List V} {d e f:D} (h:Rps G ι Hf xs [d,e,f]):∃ x y z,xs=[x,y,z]/\Rp G ι Hf x d/\Rp G ι Hf y e/\Rp G ι Hf z f:=by
 cases h with
 | cons h r=>cases r with | cons h2 r=>cases r with | cons h3 r=>cases r; exact ⟨_,_,_,rfl,h,h2,h3⟩
noncomputable def C7 (K:PySem.W.Frag):List V->Hp->VK->Prop:=fun xs H Q=>(∃ x n,xs=[x]/\By K x H n/\Q (.int n) H)\/∃ a kvs,xs=[V.ref a]/\H a=some (.dK kvs)/\Q (.int kvs.length) H
theorem pB:bR X (.builtin "len") (fun xs H Q=>∃ a kvs,xs=[V.ref a]/\H a=some (.dK kvs)/\Q (.int kvs.length) H):=by
 intro pins s σ H xs us Q I r h
 obtain ⟨a,kvs,rfl,ha,q⟩:=h
 obtain ⟨u,rfl,ru⟩:=vals1 r
 cases ru
 exact C8 I (.inl ha) fun t s' I'=>⟨.int kvs.length,H,I',⟨t,rfl⟩,q⟩
theorem oK (hK:X.K=G.K):bR X (.builtin "len") (C7 G.K):=bR.or (hK ▸ rR) pB
theorem BK:VRs G E .len (C7 G.K):=by
 intro ι Hf H os xs ds Q rel hx w
 cases hx with
 | nil=>exact False.elim w
 | cons hx r =>
  cases r with
  | cons _ _=>exact False.elim (by cases hx <;> exact w)
  | nil =>
   cases hx with
   | lst h z r =>
    refine .inl ⟨_,_,rfl,.inl ⟨_,SqL.of (rel.sub _ _ h),rfl⟩,?_⟩
    rw [r.len]
    exact w.now rel _ (.int _)
   | scr h z r =>
    refine .inl ⟨_,_,rfl,.inl ⟨_,rel.sub.seq h,rfl⟩,?_⟩
    rw [r.len]
    exact w.now rel _ (.int _)
   | tup h z r =>
    refine .inl ⟨_,_,rfl,.inr ⟨_,SqT.of (rel.sub _ _ h),rfl⟩,?_⟩
    rw [r.len]
    exact w.now rel _ (.int _)
   | ktu h z r =>
    refine .inl ⟨_,_,rfl,.inr ⟨_,aK.lH rel.sub h,rfl⟩,?_⟩
    rw [r.len]
    exact w.now rel _ (.int _)
   | str x =>
    obtain ⟨hz,w⟩:=WR.gd w
    exact .inl ⟨_,_,rfl,⟨by rw [<-cF]; exact hz,rfl⟩,w.now rel _ (.int _)⟩
   | @cel a n h =>
    have w':WR G E ι Hf (match I.aa os n with | some (.lst xs)=>R.ok (D.int xs.length) os | some (.dct false kvs)=>R.ok (D.int kvs.length) os | _=>R.stk) (fun ι' Hf' H' _ d=>∀ v,Rp G ι' Hf' v d->Q v H'):=w
    cases e:I.aa os n with
    | none=>rw [e] at w'; exact False.elim w'
    | some c =>
     rw [e] at w'
     cases c with
     | lst xs =>
      obtain ⟨a',vs,h1,h2,h3,h4,z,h5⟩:=rel.asC (.cel h) e
      cases h1
      refine .inl ⟨_,_,rfl,.inl ⟨_,SqL.of h4,rfl⟩,?_⟩
      rw [h5.len]
      exact w'.now rel _ (.int _)
     | dct t kvs =>
      cases t with
      | true=>exact False.elim w'
      | false =>
       obtain ⟨a',h1,h2,kk,h3,h4,h5⟩:=rel.cell n _ e
       rw [h] at h1
       cases h1
       refine .inr ⟨_,kk,rfl,h3,?_⟩
       have el:kk.length=kvs.length:=by have:=h5.len; simpa using this
       rw [el]
       exact w'.now rel _ (.int _)
     | ins _ _=>exact False.elim w'
     | tab _=>exact False.elim w'
   | _=>exact False.elim w
end
end IS
namespace IS
open PySem PySem.Spec L2
open PyProof.Rows hiding St
open I (D Cell OS Fr R SZ Kt Ko)
theorem iK (a b:Key):D.same (dB a) (dB b)=decide (a=b):=by
 cases a with
 | inl i =>
  cases b with
  | inl j =>
   show decide (i=j)=decide (Sum.inl i=Sum.inl j)
   by_cases h:i=j
   ·subst h; simp
   ·rw [decide_eq_false h,decide_eq_false fun z=>h (Sum.inl.inj z)]
  | inr y=>exact (decide_eq_false fun z=>nomatch z).symm
 | inr x =>
  cases b with
  | inl j=>exact (decide_eq_false fun z=>nomatch z).symm
  | inr y =>
   show decide (x.cps.toList=y.cps.toList)=decide (Sum.inr x=Sum.inr y)
   by_cases h:x=y
   ·subst h; simp
   ·rw [decide_eq_false fun z=>h (Sum.inr.inj z),decide_eq_false fun z=>h ?_]
    cases x; cases y
    simp at z
    rw [z]
theorem i8:∀ (a b:List Key),D.dv (a.map dB) (b.map dB)=decide (a=b)
 | [],[]=>rfl
 | [],_::_=>rfl
 | _::_,[]=>rfl
 | x::a,y::b=>by
  show (D.same (dB x) (dB y)&&D.dv (a.map dB) (b.map dB))=_
  rw [iK,i8 a b]
  by_cases h:x=y
  ·subst h
   by_cases h2:a=b
   ·subst h2; simp
   ·simp [h2]
  ·rw [decide_eq_false h,Bool.false_and,decide_eq_false fun z=>h (List.cons.inj z).1]
section
variable {G:GI} {E:XK} {ι:List Addr} {Hf H:Hp} {os:OS}
theorem y9 {y:V} {k:D} (h:Rp G ι Hf y k) (hk:I.kS k=true):∃ key,y=kV key/\k=dB key:=by
 cases h with
 | int i=>exact ⟨.inl i,rfl,rfl⟩
 | str x=>exact ⟨.inr x,rfl,rfl⟩
 | _=>cases hk
theorem tQ:∀ {vs:List V} {ds:List D},Rps G ι Hf vs ds->(ds.all I.kS)=true->∃ keys:List Key,vs=keys.map kV/\ds=keys.map dB
 | _,_,.nil,_=>⟨[],rfl,rfl⟩
 | _,_,.cons h r,p=>by
  rw [List.all_cons] at p
  obtain ⟨p1,p2⟩:=Bool.and_eq_true_iff.mp p
  obtain ⟨k,e1,e2⟩:=y9 h p1
  obtain ⟨ks,e3,e4⟩:=tQ r p2
  exact ⟨k::ks,by rw [e1,e3]; rfl,by rw [e2,e4]; rfl⟩
noncomputable def ORp (G:GI) (ι:List Addr) (Hf:Hp):Option V->Option D->Prop
 | some v,some d=>Rp G ι Hf v d
 | none,none=>True
 | _,_=>False
theorem jF {κ:Type} [DecidableEq κ] (f:κ->D) (hf:∀ a b,D.same (f a) (f b)=decide (a=b)) (k:κ):∀ {kk:List (κ × V)} {kvs:List (D × D)},kvs.map (·.1)=kk.map (fun p=>f p.1)->Rps G ι Hf (kk.map (·.2)) (kvs.map (·.2))->ORp G ι Hf (fM kk k) (I.bu (f k) kvs)
 | [],[],_,_=>trivial
 | [],_::_,e,_=>by cases e
 | _::_,[],e,_=>by cases e
 | p::kk,q::kvs,e,r=>by
  obtain ⟨e1,e2⟩:=List.cons.inj e
  obtain ⟨q1,q2⟩:=q
  have e1':q1=f p.1:=e1
  subst e1'
  cases r with
  | cons h r =>
   have ih:=jF f hf k e2 r
   show ORp G ι Hf _ (if D.same (f p.1) (f k)=true then some q2 else I.bu (f k) kvs)
   rw [hf]
   by_cases hp:p.1=k
   ·rw [fe hp,decide_eq_true hp,if_pos rfl]
    exact h
   ·rw [fj hp,decide_eq_false hp,if_neg (by decide)]
    exact ih
theorem nj {κ:Type} [DecidableEq κ] (f:κ->D) (hf:∀ a b,D.same (f a) (f b)=decide (a=b)) (k:κ):∀ {kk:List (κ × V)} {kvs:List (D × D)},kvs.map (·.1)=kk.map (fun p=>f p.1)->(kvs.any fun p=>D.same p.1 (f k))=kk.any fun p=>decide (p.1=k)
 | [],[],_=>rfl
 | [],_::_,e=>by cases e
 | _::_,[],e=>by cases e
 | p::kk,q::kvs,e=>by
  obtain ⟨e1,e2⟩:=List.cons.inj e
  rw [List.any_cons,List.any_cons,nj f hf k e2,show q.1=f p.1 from e1,hf]
theorem oa {κ:Type} [DecidableEq κ] (f:κ->D) (hf:∀ a b,D.same (f a) (f b)=decide (a=b)) (k:κ) {v:V} {d:D} (hv:Rp G ι Hf v d) {kk:List (κ × V)} {kvs:List (D × D)} (e:kvs.map (·.1)=kk.map (fun p=>f p.1)) (r:Rps G ι Hf (kk.map (·.2)) (kvs.map (·.2))) :
  (I.et (f k) d kvs).map (·.1)=(putK kk k v).map (fun p=>f p.1)/\Rps G ι Hf ((putK kk k v).map (·.2)) ((I.et (f k) d kvs).map (·.2)):=by
 unfold I.et putK
 rw [nj f hf k e]
 split
 ·rename_i hany
  clear hany
  induction kk generalizing kvs with
  | nil =>
   cases kvs with
   | nil=>exact ⟨rfl,.nil⟩
   | cons _ _=>cases e
  | cons p kk ih =>
   cases kvs with
   | nil=>cases e
   | cons q kvs =>
    obtain ⟨e1,e2⟩:=List.cons.inj e
    have e1':q.1=f p.1:=e1
    cases r with
    | cons h r =>
     obtain ⟨i1,i2⟩:=ih e2 r
     have hs:D.same q.1 (f k)=decide (p.1=k):=by rw [e1',hf]
     by_cases hp:p.1=k
     ·simp only [List.map_cons,hs,decide_eq_true hp,if_true,if_pos hp]
      exact ⟨by rw [i1,e1'],.cons hv i2⟩
     ·simp only [List.map_cons,hs,decide_eq_false hp,if_neg hp,Bool.false_eq_true,if_false]
      exact ⟨by rw [i1,e1'],.cons h i2⟩
 ·simp only [List.map_append,List.map_cons,List.map_nil]
  exact ⟨by rw [e],r.app (.cons hv .nil)⟩
theorem iY (a b:List Key):D.same (.tup (a.map dB)) (.tup (b.map dB))=decide (a=b):=i8 a b
theorem Rel.El {x y:V} {n:Nat} {t:Bool} {kvs:List (D × D)} {k:D} (rel:Rel G ι Hf H os) (hx:Rp G ι Hf x (.cel n)) (hn:I.aa os n=some (.dct t kvs)) (hy:Rp G ι Hf y k) (hk:I.keyOk t k=true) :
  ∃ a r,x=.ref a/\ι[n]?=some a/\g7 H a y r/\ORp G ι Hf r (I.bu k kvs):=by
 obtain ⟨a,h1,h2,h3⟩:=rel.cell n _ hn
 cases hx with
 | @cel a' n h =>
  rw [h] at h1
  cases h1
  cases t with
  | false =>
   obtain ⟨kk,g1,g2,g3⟩:=h3
   obtain ⟨key,rfl,rfl⟩:=y9 hy hk
   exact ⟨_,_,rfl,h,g7.k g1,jF dB iK key g2 g3⟩
  | true =>
   obtain ⟨kk,g1,g2,g3⟩:=h3
   cases hy with
   | tup hb z r =>
    obtain ⟨keys,rfl,rfl⟩:=tQ r hk
    exact ⟨_,_,rfl,h,g7.t g1 (rel.sub _ _ hb),jF (fun ks:List Key=>D.tup (ks.map dB)) iY keys g2 g3⟩
   | _=>cases hk
theorem Rel.dput {x y v:V} {n:Nat} {t:Bool} {kvs:List (D × D)} {k d:D} (rel:Rel G ι Hf H os) (hx:Rp G ι Hf x (.cel n)) (hn:I.aa os n=some (.dct t kvs)) (hy:Rp G ι Hf y k) (hk:I.keyOk t k=true) (hv:Rp G ι Hf v d) (hl:kvs.length<SZ) :
  ∃ a H',x=.ref a/\ι[n]?=some a/\jH H a y v H'/\Rel G ι Hf H' (os.set n (some (.dct t (I.et k d kvs)))):=by
 obtain ⟨a,h1,h2,h3⟩:=rel.cell n _ hn
 cases hx with
 | @cel a' n h =>
  rw [h] at h1
  cases h1
  cases t with
  | false =>
   obtain ⟨kk,g1,g2,g3⟩:=h3
   obtain ⟨key,rfl,rfl⟩:=y9 hy hk
   obtain ⟨p1,p2⟩:=oa dB iK key hv g2 g3
   have el:kk.length=kvs.length:=by have:=g3.len; simpa using this
   exact ⟨_,_,rfl,h,jH.k g1 (by rw [el,<-cF]; exact hl),rel.kW hn h ⟨_,ak,p1,p2⟩⟩
  | true =>
   obtain ⟨kk,g1,g2,g3⟩:=h3
   cases hy with
   | tup hb z r =>
    obtain ⟨keys,rfl,rfl⟩:=tQ r hk
    obtain ⟨p1,p2⟩:=oa (fun ks:List Key=>D.tup (ks.map dB)) iY keys hv g2 g3
    have el:kk.length=kvs.length:=by have:=g3.len; simpa using this
    exact ⟨_,_,rfl,h,jH.t g1 (rel.sub _ _ hb) (by rw [el,<-cF]; exact hl),rel.kW hn h ⟨_,ak,p1,p2⟩⟩
   | _=>cases hk
end
end IS
namespace IS
open PySem PySem.Spec L2
open PyProof.Rows hiding St
open I (D Cell OS Fr R SZ Kt Ko)
section
variable {G:GI} {E:XK} {P:I.Pg} {KO:I.Orc} {W:Nat} {X:Cx}
theorem uD (hu:X.A.units+1<cLine):IxR X (fun x y H Q=>∃ a v,x=.ref a/\g7 H a y (some v)/\Q v H):=by
 intro value slice pins s σ H x y v u Q I rx ry h hs
 obtain ⟨a,w,rfl,g,q⟩:=h
 cases rx
 exact tail_any (ki I g) PySem.F.slot_dict_getitem.lookup (pK hu I g ry fun w' s3 I3 rw'=>⟨w,H,I3,rw',q⟩) hs
noncomputable def BN (K:PySem.W.Frag):R2:=fun x y H Q=>rIx K x y H Q\/∃ a v,x=.ref a/\g7 H a y (some v)/\Q v H
theorem zH (hK:X.K=G.K) (hu:X.A.units+1<cLine):IxR X (BN G.K):=(hK ▸ zT).or (uD hu)
theorem bQ {ι:List Addr} {Hf:Hp} {vs:List V} {xs:List D} {i:Int} {d:D} (r:Rps G ι Hf vs xs) (h:((I.aO xs.length i).bind fun j=>xs[j]?)=some d):∃ v,atI vs i=some v/\Rp G ι Hf v d:=by
 cases e:I.aO xs.length i with
 | none=>rw [e] at h; cases h
 | some j =>
  rw [e] at h
  obtain ⟨v,h1,h2⟩:=r.get (show xs[j]?=some d from h)
  refine ⟨v,?_,h2⟩
  unfold atI
  rw [qk,r.len,e]
  exact h1
theorem Ff:VR2 G E .ix (BN G.K):=by
 intro ι Hf H os x y dx dy Q rel hx hy w
 cases hx with
 | lst h z r =>
  cases hy with
  | int i =>
   obtain ⟨d,e,w⟩:=WR.ofO w
   obtain ⟨v,h1,h2⟩:=bQ r e
   exact .inl (.inl ⟨_,_,_,v,rfl,rfl,SqL.of (rel.sub _ _ h),h1,w.now rel v h2⟩)
  | _=>exact False.elim w
 | scr h z r =>
  cases hy with
  | int i =>
   obtain ⟨d,e,w⟩:=WR.ofO w
   obtain ⟨v,h1,h2⟩:=bQ r e
   exact .inl (.inl ⟨_,_,_,v,rfl,rfl,rel.sub.seq h,h1,w.now rel v h2⟩)
  | _=>exact False.elim w
 | tup h z r =>
  cases hy with
  | int i =>
   obtain ⟨d,e,w⟩:=WR.ofO w
   obtain ⟨v,h1,h2⟩:=bQ r e
   exact .inl (.inr (.inl ⟨_,_,_,v,rfl,rfl,SqT.of (rel.sub _ _ h),h1,w.now rel v h2⟩))
  | _=>exact False.elim w
 | ktu h z r =>
  cases hy with
  | int i =>
   obtain ⟨d,e,w⟩:=WR.ofO w
   obtain ⟨v,h1,h2⟩:=bQ r e
   exact .inl (.inr (.inl ⟨_,_,_,v,rfl,rfl,aK.lH rel.sub h,h1,w.now rel v h2⟩))
  | _=>exact False.elim w
 | str x =>
  cases hy with
  | int i =>
   obtain ⟨hz,w⟩:=WR.gd w
   obtain ⟨d,e,w⟩:=WR.ofO w
   have e':∃ c,atI x.cps.toList i=some c/\d=D.str [c]:=by
    unfold atI
    rw [qk]
    cases e2:I.aO x.cps.toList.length i with
    | none=>rw [e2] at e; cases e
    | some j =>
     rw [e2] at e
     have e3:(x.cps.toList[j]?).map (fun c=>D.str [c])=some d:=e
     cases e4:x.cps.toList[j]? with
     | none=>rw [e4] at e3; cases e3
     | some c=>rw [e4] at e3; exact ⟨c,e4,(Option.some.inj e3).symm⟩
   obtain ⟨c,e1,rfl⟩:=e'
   exact .inl (.inr (.inr ⟨x,i,c,rfl,rfl,by rw [<-cF]; exact hz,e1,w.now rel _ (.str ⟨#[c]⟩)⟩))
  | _=>exact False.elim w
 | @cel a n h =>
  have w':WR G E ι Hf (match I.aa os n,dy with
   | some (.lst xs),.int i=>R.ofO ((I.aO xs.length i).bind fun j=>xs[j]?) os
   | some (.dct t kvs),k=>R.gd (I.keyOk t k=true) (R.ofO (I.bu k kvs) os)
   | _,_=>R.stk) (fun ι' Hf' H' _ d=>∀ v,Rp G ι' Hf' v d->Q v H'):=by cases hy <;> exact w
  cases e:I.aa os n with
  | none=>rw [e] at w'; exact False.elim w'
  | some c =>
   rw [e] at w'
   cases c with
   | lst xs =>
    cases hy with
    | int i =>
     obtain ⟨d,e2,w⟩:=WR.ofO w'
     obtain ⟨a',vs,h1,h2,h3,h4,z,h5⟩:=rel.asC (.cel h) e
     cases h1
     obtain ⟨v,g1,g2⟩:=bQ h5 e2
     exact .inl (.inl ⟨_,_,_,v,rfl,rfl,SqL.of h4,g1,w.now rel v g2⟩)
    | _=>exact False.elim w'
   | dct t kvs =>
    have w2:WR G E ι Hf (R.gd (I.keyOk t dy=true) (R.ofO (I.bu dy kvs) os)) (fun ι' Hf' H' _ d=>∀ v,Rp G ι' Hf' v d->Q v H'):=by cases hy <;> exact w'
    obtain ⟨hk,w2⟩:=WR.gd w2
    obtain ⟨d,e2,w2⟩:=WR.ofO w2
    obtain ⟨a',r,h1,h2,h3,h4⟩:=rel.El (.cel h) e hy hk
    cases h1
    rw [e2] at h4
    cases r with
    | none=>exact False.elim h4
    | some v=>exact .inr ⟨_,v,rfl,h3,w2.now rel v h4⟩
   | ins _ _=>exact False.elim (by cases hy <;> exact w')
   | tab _=>exact False.elim (by cases hy <;> exact w')
 | _=>cases hy <;> exact False.elim w
noncomputable def sH (K:PySem.W.Frag):V->Option Int->Option Int->Hp->VK->Prop:=fun x lo hi H Q=>B8 K x lo hi H Q\/C3 K x lo hi H Q
theorem dC (hK:X.K=G.K):SlR X (sH G.K):=(hK ▸ uw).or (hK ▸ yn)
theorem eX {os:OS} (n:Nat):I.aj os (.cel n)=.cel n\/∃ xs,I.aj os (.cel n)=.lst xs:=by
 show (match I.aa os n with | some (.lst xs)=>D.lst xs | _=>D.cel n)=_\/∃ xs,(match I.aa os n with | some (.lst xs)=>D.lst xs | _=>D.cel n)=D.lst xs
 cases I.aa os n with
 | none=>exact .inl rfl
 | some c =>
  cases c with
  | lst xs=>exact .inr ⟨xs,rfl⟩
  | _=>exact .inl rfl
theorem uK {ι:List Addr} {Hf H:Hp} {os:OS} {x:V} {d:D} {o:Option Int × Option Int} {Q:VK} (rel:Rel G ι Hf H os) (hx:Rp G ι Hf x d)
  (w:WR G E ι Hf (I.slK os (I.aj os d) (some o)) (fun ι' Hf' H' _ d=>∀ v,Rp G ι' Hf' v d->Q v H')):sH G.K x o.1 o.2 H Q:=by
 have list:∀ {a:Addr} {vs:List V} {xs:List D},x=.ref a->SqL G.K H a vs->vs.length<=sizeLine->Rps G ι Hf vs xs->WR G E ι Hf (.ok (D.lst (I.cut xs o.1 o.2)) os) (fun ι' Hf' H' _ d=>∀ v,Rp G ι' Hf' v d->Q v H')->sH G.K x o.1 o.2 H Q:=fun {a vs xs} e hq z r w=>by
  refine .inl ⟨a,vs,e,hq,fun p hp => ?_⟩
  obtain ⟨x2,rr⟩:=rel.fY (o:=.lst (iP vs o.1 o.2)) hp
  exact w ι _ _ x2 rr (.ref p) (.lst ak (Nat.le_trans (bF _ _ _) z) ((mO vs xs r o.1 o.2).ext x2))
 cases e:I.aj os d with
 | lst xs =>
  rw [e] at w
  obtain ⟨a,vs,rfl,h1,z,r⟩:=rel.asL hx e
  exact list rfl (SqL.of h1) z r w
 | scr xs =>
  rw [e] at w
  cases hx with
  | scr h z r=>cases e; exact list rfl (rel.sub.seq h) z r w
  | @cel a n h =>
   rcases eX (os:=os) n with q | ⟨ys,q⟩
   ·rw [q] at e; cases e
   ·rw [q] at e; cases e
  | _=>cases e
 | tup xs =>
  rw [e] at w
  obtain ⟨hn,w⟩:=WR.gd w
  cases hx with
  | tup h z r =>
   cases e
   have e3:∀ (n d:Nat) (o:Option Int),HT.sIx n d o=I.mJ n d o:=fun n d o=>by
    cases o with
    | none=>rfl
    | some i =>
     show (if i<0 then (i+(n:Int)).toNat else min i.toNat n)=if 0<=i then min i.toNat n else (i+(n:Int)).toNat
     by_cases hi:i<0
     ·rw [if_pos hi,if_neg (by omega)]
     ·rw [if_neg hi,if_pos (by omega)]
   refine .inr ⟨_,_,rfl,SqT.of (rel.sub _ _ h),?_,fun p hp => ?_⟩
   ·rw [e3,e3,r.len]; exact hn
   ·obtain ⟨x2,rr⟩:=rel.fY (o:=.tup (iP _ o.1 o.2)) hp
    exact w ι _ _ x2 rr (.ref p) (.tup ak (Nat.le_trans (bF _ _ _) z) ((mO _ xs r o.1 o.2).ext x2))
  | @cel a n h =>
   rcases eX (os:=os) n with q | ⟨ys,q⟩
   ·rw [q] at e; cases e
   ·rw [q] at e; cases e
  | _=>cases e
 | _=>rw [e] at w; exact False.elim w
theorem nO {ι:List Addr} {Hf H:Hp} {os:OS} {x:V} {d:D} {o:Option Int × Option Int} {Q:VK} (rel:Rel G ι Hf H os) (hx:Rp G ι Hf x d)
  (w:WR G E ι Hf (I.slK os (I.aj os d) (some o)) (fun ι' Hf' H' _ d=>∃ xs,d=.lst xs/\∀ vs p,Rps G ι' Hf' vs xs->vs.length<=sizeLine->H' p=none->Q (.ref p) (upd H' p (.lst vs)))):sH G.K x o.1 o.2 H Q:=by
 have list:∀ {a:Addr} {vs:List V} {xs:List D},x=.ref a->SqL G.K H a vs->vs.length<=sizeLine->Rps G ι Hf vs xs->WR G E ι Hf (.ok (D.lst (I.cut xs o.1 o.2)) os) (fun ι' Hf' H' _ d=>∃ xs,d=.lst xs/\∀ vs p,Rps G ι' Hf' vs xs->vs.length<=sizeLine->H' p=none->Q (.ref p) (upd H' p (.lst vs)))->sH G.K x o.1 o.2 H Q:=fun {a vs xs} e hq z r w=>by
  refine .inl ⟨a,vs,e,hq,fun p hp => ?_⟩
  obtain ⟨zs,e,w⟩:=w.now rel
  cases e
  exact w _ p (mO vs xs r o.1 o.2) (Nat.le_trans (bF _ _ _) z) hp
 cases e:I.aj os d with
 | lst xs =>
  rw [e] at w
  obtain ⟨a,vs,rfl,h1,z,r⟩:=rel.asL hx e
  exact list rfl (SqL.of h1) z r w
 | scr xs =>
  rw [e] at w
  cases hx with
  | scr h z r=>cases e; exact list rfl (rel.sub.seq h) z r w
  | @cel a n h =>
   rcases eX (os:=os) n with q | ⟨ys,q⟩
   ·rw [q] at e; cases e
   ·rw [q] at e; cases e
  | _=>cases e
 | tup xs=>rw [e] at w; obtain ⟨_,e,_⟩:=(WR.gd w).2.now rel; cases e
 | _=>rw [e] at w; exact False.elim w
end
end IS
namespace IS
open PySem PySem.Spec L2
open PyProof.Rows hiding St
open I (D Cell OS Fr R SZ Kt Ko)
section
variable {G:GI} {E:XK} {P:I.Pg} {KO:I.Orc} {W:Nat} {X:Cx}
noncomputable def vi (K:PySem.W.Frag):List V->Hp->VK->Prop:=fun xs H Q=>∃ p ys,xs=[.ref p]/\(SqL K H p ys\/SqT K H p ys)/\∀ l,H l=none->Q (.ref l) (upd H l (.lst ys))
theorem vz:Bp G E .list (vi G.K):=by
 intro ι Hf H os xs ds Q rel hx w
 cases hx with
 | nil=>exact False.elim w
 | cons hx r =>
  cases r with
  | cons _ _=>exact False.elim w
  | nil =>
   obtain ⟨d,e,w⟩:=WR.ofO w
   cases e2:I.items os _ with
   | none=>rw [e2] at e; cases e
   | some ys =>
    rw [e2] at e
    cases e
    obtain ⟨a,vs,rfl,hq,z,r⟩:=rel.asI hx e2
    refine ⟨a,vs,rfl,hq,fun l hl => ?_⟩
    obtain ⟨zs,e,w⟩:=w.now rel
    cases e
    exact w vs l r z hl
theorem df:∀ {ds:List D} {bs:List Int},I.aw ds=some bs->ds=bs.map D.int
 | [],bs,h=>by cases h; rfl
 | .int b::r,bs,h=>by
  cases e:I.aw r with
  | none=>rw [show I.aw (.int b::r)=(I.aw r).map (b :: ·) from rfl,e] at h; cases h
  | some l =>
   rw [show I.aw (.int b::r)=(I.aw r).map (b :: ·) from rfl,e] at h
   cases h
   rw [df e]
   rfl
 | .non::_,_,h=>by cases h
 | .bl _::_,_,h=>by cases h
 | .str _::_,_,h=>by cases h
 | .lst _::_,_,h=>by cases h
 | .tup _::_,_,h=>by cases h
 | .scr _::_,_,h=>by cases h
 | .ktu _::_,_,h=>by cases h
 | .cel _::_,_,h=>by cases h
 | .exn _ _::_,_,h=>by cases h
theorem Rps.ints {ι:List Addr} {Hf:Hp}:∀ {vs:List V} {ns:List Int},Rps G ι Hf vs (ns.map D.int)->vs=ns.map V.int
 | _,[],.nil=>rfl
 | _,n::ns,.cons h r=>by
  cases h
  rw [Rps.ints r]
  rfl
noncomputable def tyN:I.Ty->String
 | .int => "int" | .bool => "bool" | .list => "list" | .tuple => "tuple" | .str => "str"
noncomputable def v8 (K:PySem.W.Frag):List V->Hp->VK->Prop:=fun xs H Q=>∃ x c cv t b,xs=[x,c]/\eM K H x t/\vG c=some cv/\PySem.W.kitOne K t cv=some b/\Q (.bl b) H
theorem cM (K:PySem.W.Frag) {a b:String} {k:Bool} (h0:(Value.type a == Value.type b)=false) (h1:PySem.W.kitMeta b=true) (h2:(fastBuiltinMro a).map (·.contains (Value.type b))=some k):PySem.W.kitOne K (.type a) (.type b)=some k:=by
 unfold PySem.W.kitOne
 rw [if_neg (by rw [h0]; decide)]
 show (if PySem.W.kitMeta b=true then PySem.W.subIn K (.type a) (.type b) else none)=some k
 rw [if_pos h1]
 exact h2
theorem sZ (K:PySem.W.Frag) (a:String):PySem.W.kitOne K (.type a) (.type a)=some true:=by
 unfold PySem.W.kitOne
 rw [if_pos (by simp)]
theorem km (t:I.Ty):PySem.W.kitMeta (tyN t)=true:=by cases t <;> kernel_rfl
theorem vm (K:PySem.W.Frag) (t:I.Ty):PySem.W.kitOne K (.type "NoneType") (.type (tyN t))=some false:=by
 refine cM K ?_ (km t) ?_
 ·cases t <;> rfl
 ·cases t <;> kernel_rfl
theorem xE (K:PySem.W.Frag) (t:I.Ty):PySem.W.kitOne K (.type "bool") (.type (tyN t))=some (match t with | .int=>true | .bool=>true | _=>false):=by
 cases t with
 | bool=>exact sZ K _
 | int=>exact cM K rfl (km .int) (by kernel_rfl)
 | list=>exact cM K rfl (km .list) (by kernel_rfl)
 | tuple=>exact cM K rfl (km .tuple) (by kernel_rfl)
 | str=>exact cM K rfl (km .str) (by kernel_rfl)
theorem vc (K:PySem.W.Frag) (t:I.Ty):PySem.W.kitOne K (.type "int") (.type (tyN t))=some (match t with | .int=>true | _=>false):=by
 cases t with
 | int=>exact sZ K _
 | bool=>exact cM K rfl (km .bool) (by kernel_rfl)
 | list=>exact cM K rfl (km .list) (by kernel_rfl)
 | tuple=>exact cM K rfl (km .tuple) (by kernel_rfl)
 | str=>exact cM K rfl (km .str) (by kernel_rfl)
theorem kJ (K:PySem.W.Frag) (t:I.Ty):PySem.W.kitOne K (.type "list") (.type (tyN t))=some (match t with | .list=>true | _=>false):=by
 cases t with
 | list=>exact sZ K _
 | int=>exact cM K rfl (km .int) (by kernel_rfl)
 | bool=>exact cM K rfl (km .bool) (by kernel_rfl)
 | tuple=>exact cM K rfl (km .tuple) (by kernel_rfl)
 | str=>exact cM K rfl (km .str) (by kernel_rfl)
theorem uC (K:PySem.W.Frag) (t:I.Ty):PySem.W.kitOne K (.type "tuple") (.type (tyN t))=some (match t with | .tuple=>true | _=>false):=by
 cases t with
 | tuple=>exact sZ K _
 | int=>exact cM K rfl (km .int) (by kernel_rfl)
 | bool=>exact cM K rfl (km .bool) (by kernel_rfl)
 | list=>exact cM K rfl (km .list) (by kernel_rfl)
 | str=>exact cM K rfl (km .str) (by kernel_rfl)
theorem uS (K:PySem.W.Frag) (t:I.Ty):PySem.W.kitOne K (.type "str") (.type (tyN t))=some (match t with | .str=>true | _=>false):=by
 cases t with
 | str=>exact sZ K _
 | int=>exact cM K rfl (km .int) (by kernel_rfl)
 | bool=>exact cM K rfl (km .bool) (by kernel_rfl)
 | list=>exact cM K rfl (km .list) (by kernel_rfl)
 | tuple=>exact cM K rfl (km .tuple) (by kernel_rfl)
theorem ye (t:I.Ty) {ι:List Addr} {Hf H:Hp} {os:OS} {x:V} {d:D} {Q:VK} (rel:Rel G ι Hf H os) (hx:Rp G ι Hf x d)
  (w:WR G E ι Hf (I.pr (.isInst t) [d] os) (fun ι' Hf' H' _ d=>∀ v,Rp G ι' Hf' v d->Q v H')):v8 G.K [x,.ty (tyN t)] H Q:=by
 obtain ⟨d',e,w⟩:=WR.ofO (show WR G E ι Hf (R.ofO ((I.zA t (I.aj os d)).map D.bl) os) _ from w)
 cases e2:I.zA t (I.aj os d) with
 | none=>rw [e2] at e; cases e
 | some b =>
  rw [e2] at e
  cases e
  have fin:∀ {tv:Value} {k:Bool},eM G.K H x tv->PySem.W.kitOne G.K tv (.type (tyN t))=some k->b=k->v8 G.K [x,.ty (tyN t)] H Q:=fun {tv k} h1 h2 h3 =>
   ⟨x,_,_,tv,k,rfl,h1,rfl,h2,by rw [<-h3]; exact w.now rel _ (.bl _)⟩
  cases hx with
  | non=>exact fin .non (vm _ t) (by cases t <;> cases e2 <;> rfl)
  | bl b'=>exact fin (.bl b') (xE _ t) (by cases t <;> cases e2 <;> rfl)
  | int i=>exact fin (.int i) (vc _ t) (by cases t <;> cases e2 <;> rfl)
  | str i=>exact fin (.str i) (uS _ t) (by cases t <;> cases e2 <;> rfl)
  | lst h z r=>exact fin (.lst (rel.sub _ _ h)) (kJ _ t) (by cases t <;> cases e2 <;> rfl)
  | tup h z r=>exact fin (.tup (rel.sub _ _ h)) (uC _ t) (by cases t <;> cases e2 <;> rfl)
  | scr h z r=>cases t <;> cases e2
  | ktu h z r=>cases t <;> cases e2
  | @cel a n h =>
   rcases eX (os:=os) n with q | ⟨ys,q⟩
   ·rw [q] at e2; cases t <;> cases e2
   ·rw [q] at e2
    obtain ⟨a',vs,h1,h2,h3,h4,z,h5⟩:=rel.asC (.cel h) (ja q)
    cases h1
    exact fin (.lst h4) (kJ _ t) (by cases t <;> cases e2 <;> rfl)
noncomputable def VRm (G:GI) (E:XK) (p:I.Pr) (r:V->List V->Hp->VK->Prop):Prop:=∀ ι Hf H os x xs d ds (Q:VK),Rel G ι Hf H os->Rp G ι Hf x d->Rps G ι Hf xs ds ->
 WR G E ι Hf (I.pr p (d::ds) os) (fun ι' Hf' H' _ d=>∀ v,Rp G ι' Hf' v d->Q v H')->r x xs H Q
noncomputable def rkN:I.Rk->String
 | .list => "list" | .dict => "dict" | .int => "int" | .str => "str"
theorem nc {ι:List Addr} {Hf H:Hp} {os:OS} {x:V} {d:D} {k:I.Rk} (rel:Rel G ι Hf H os) (hx:Rp G ι Hf x d) (h:I.recv os k d=true):tyV G.K (rkN k) x H:=by
 cases hx with
 | int i=>cases k <;> first | rfl | cases h
 | str i=>cases k <;> first | rfl | cases h
 | lst g z r =>
  cases k with
  | list=>exact .inl ⟨rfl,_,SqL.of (rel.sub _ _ g)⟩
  | _=>cases h
 | scr g z r =>
  cases k with
  | list=>exact .inl ⟨rfl,_,rel.sub.seq g⟩
  | _=>cases h
 | @cel a n g =>
  have h':I.iB k (I.aa os n)=true:=by cases k <;> exact h
  cases e:I.aa os n with
  | none=>rw [e] at h'; cases k <;> cases h'
  | some c =>
   rw [e] at h'
   obtain ⟨a',g1,g2,g3⟩:=rel.cell n c e
   rw [g] at g1
   cases g1
   cases c with
   | lst xs =>
    cases k with
    | list=>obtain ⟨vs,q1,_⟩:=g3; exact .inl ⟨rfl,vs,SqL.of q1⟩
    | _=>cases h'
   | dct t kvs =>
    cases k with
    | dict =>
     cases t with
     | false=>obtain ⟨kk,q1,_⟩:=g3; exact .inr (.inr (.inl ⟨rfl,.inl ⟨kk,q1⟩⟩))
     | true=>obtain ⟨kk,q1,_⟩:=g3; exact .inr (.inr (.inl ⟨rfl,.inr ⟨kk,q1⟩⟩))
    | _=>cases h'
   | ins _ _=>cases k <;> cases h'
   | tab _=>cases k <;> cases h'
 | _=>cases k <;> cases h
theorem zd {p:I.Pr} {o:I.E} {es:I.Es} {r:V->List V->Hp->VK->Prop} (hv:VRm G E p r) (σ:St) (H:Hp) (Q:VK) (h:T G E P KO (.bm p o es) σ H Q):tBM G.K (rkN (I.gw p)) r (T G E P KO o) (Ts G E P KO es) σ H Q:=by
 obtain ⟨ι,Hf,ρ,os,rel,rf,w⟩:=h
 refine T.use rel rf (WR.bind (k:=⟨_⟩) w) fun ι1 Hf1 H1 os1 d1 v1 x1 r1 f1 hv1 q1 => ?_
 obtain ⟨hr,q1⟩:=WR.gd q1
 exact ⟨nc r1 hv1 hr,Ts.use r1 f1 (WR.bind (k:=⟨_⟩) q1) fun ι2 Hf2 H2 os2 ds vs x2 r2 f2 hvs q2=>hv ι2 Hf2 H2 os2 v1 vs d1 ds Q r2 (hv1.ext x2) hvs q2⟩
theorem qW {p:I.Pr} {o:I.E} {r:V->List V->Hp->VK->Prop} (hv:VRm G E p r) (σ:St) (H:Hp) (Q:VK) (h:T G E P KO (.bm p o .nil) σ H Q):A5 G.K (rkN (I.gw p)) r (T G E P KO o) σ H Q:=by
 obtain ⟨ι,Hf,ρ,os,rel,rf,w⟩:=h
 refine T.use rel rf (WR.bind (k:=⟨_⟩) w) fun ι1 Hf1 H1 os1 d1 v1 x1 r1 f1 hv1 q1 => ?_
 obtain ⟨hr,q1⟩:=WR.gd q1
 exact ⟨nc r1 hv1 hr,hv ι1 Hf1 H1 os1 v1 [] d1 [] Q r1 hv1 .nil q1⟩
theorem ka:VRm G E .append ny:=by
 intro ι Hf H os x xs d ds Q rel hx hxs w
 cases hxs with
 | nil=>exact False.elim (by cases hx <;> exact w)
 | cons hy r =>
  cases r with
  | cons _ _=>exact False.elim (by cases hx <;> exact w)
  | nil =>
   cases hx with
   | @cel a n h =>
    rename_i y dy
    have w':WR G E ι Hf (match I.aa os n with | some (.lst xs)=>R.gd (xs.length<SZ) (R.ok D.non (os.set n (some (.lst (xs++[dy]))))) | _=>R.stk) (fun ι' Hf' H' _ d=>∀ v,Rp G ι' Hf' v d->Q v H'):=w
    cases e:I.aa os n with
    | none=>rw [e] at w'; exact False.elim w'
    | some c =>
     rw [e] at w'
     cases c with
     | lst xs =>
      obtain ⟨hz,w'⟩:=WR.gd w'
      obtain ⟨a',vs,h1,h2,h3,h4,z,h5⟩:=rel.asC (.cel h) e
      cases h1
      have hz':vs.length<sizeLine:=by rw [h5.len,<-cF]; exact hz
      refine ⟨_,vs,_,rfl,rfl,h4,hz',?_⟩
      have rr:=rel.kW e h (o:=.lst (vs++[y])) (c':=.lst (xs++[dy])) ⟨_,ak,by rw [List.length_append]; exact hz',h5.app (.cons hy .nil)⟩
      exact w' ι Hf _ .refl rr _ .non
     | _=>exact False.elim w'
   | _=>exact False.elim w
end
end IS
namespace IS
open PySem PySem.Spec L2
open PyProof.Rows hiding St
open I (D Cell OS Fr R SZ Kt Ko)
section
variable {G:GI} {E:XK} {P:I.Pg} {KO:I.Orc} {W:Nat} {X:Cx} {e a b c d:Expr} {ea eb ec ed:I.E} {pos:Pos}
theorem Bx {i:Nat} {x:Str} (hN:X.N[i]?=some x) (hv:Vis X.env.scope x) (hd:(x == ("__debug__" : Str))=false) (hcd:(x == ("__classdict__" : Str))=false):PE X (.Name x pos) (T G E P KO (.v i)) :=
 PE.weak (jK hN hv hd hcd) fun σ H Q ⟨ι,Hf,ρ,os,rel,rf,w⟩=>by
  obtain ⟨d,e,w⟩:=WR.ofO w
  obtain ⟨v,h1,h2⟩:=rf.lk e
  exact ⟨v,h1,w.now rel v h2⟩
theorem BD {i:Int} {j:Nat}:PE X (.Constant (.int i) j pos) (T G E P KO (.c (.int i))):=PE.weak xQ fun σ H Q ⟨ι,Hf,ρ,os,rel,rf,w⟩=>w.now rel _ (.int _)
theorem Ep {i:Bool} {j:Nat}:PE X (.Constant (.bool i) j pos) (T G E P KO (.c (.bl i))):=PE.weak wI fun σ H Q ⟨ι,Hf,ρ,os,rel,rf,w⟩=>w.now rel _ (.bl _)
theorem Dc {j:Nat}:PE X (.Constant .none j pos) (T G E P KO (.c .non)):=PE.weak xn fun σ H Q ⟨ι,Hf,ρ,os,rel,rf,w⟩=>w.now rel _ .non
theorem DA {x:Str} {j:Nat}:PE X (.Constant (.str x) j pos) (T G E P KO (.c (.str x.cps.toList))):=PE.weak yS fun σ H Q ⟨ι,Hf,ρ,os,rel,rf,w⟩=>w.now rel _ (.str _)
theorem zC {x:Str} {i:Nat} {v:V} {u:Value} (hg:Gl X x) (hm:X.mg x=some u) (r:RelV v u) (hd:(x == ("__debug__" : Str))=false) (hr:∀ ι Hf,Rp G ι Hf v (P.g i)):PE X (.Name x pos) (T G E P KO (.g i)) :=
 PE.weak (jw hg hm r hd) fun σ H Q ⟨ι,Hf,ρ,os,rel,rf,w⟩=>w.now rel v (hr ι Hf)
theorem DK {op:Operator} {r:R2} {p:I.Pr} (ho:OpR X (binaryOp op) r) (hv:VR2 G E p r) (ha:PE X a (T G E P KO ea)) (hb:PE X b (T G E P KO eb)):PE X (.BinOp a op b pos) (T G E P KO (.pr p (.cons ea (.cons eb .nil)))) :=
 PE.weak (wU ho ha hb) (uW hv)
theorem Ei {op:UnaryOp} {r:V->Hp->VK->Prop} {p:I.Pr} (ho:UnR X (unaryOp op) r) (hv:VR1 G E p r) (ha:PE X a (T G E P KO ea)):PE X (.UnaryOp op a pos) (T G E P KO (.pr p (.cons ea .nil))) :=
 PE.weak (Ap ho ha) (E7 hv)
theorem Bm {op:CmpOp} {r:R2} {p:I.Pr} (ho:OpR X (compareOp op) r) (hv:VR2 G E p r) (ha:PE X a (T G E P KO ea)) (hb:PE X b (T G E P KO eb)) (hm:behindInMarks op b=false):PE X (.Compare a [op] [b] pos) (T G E P KO (.pr p (.cons ea (.cons eb .nil)))) :=
 PE.weak (t8 ho ha hb hm) (uW hv)
theorem xI {ea:I.E} (σ:St) (H:Hp) (Q:Bool->Hp->Prop) (h:TCo G E P KO (.e ea) σ H Q) (hb:∀ ρ os d os',I.ev P KO ea ρ os=.ok d os'->∃ k,d=.bl k):T G E P KO ea σ H (fun x H1=>∃ k,x=.bl k/\Q k H1):=by
 obtain ⟨ι,Hf,ρ,os,rel,rf,w⟩:=h
 refine ⟨ι,Hf,ρ,os,rel,rf,?_⟩
 have w':=WR.bind (k:=⟨_⟩) w
 cases e1:I.ev P KO ea ρ os with
 | stk=>rw [e1] at w'; exact w'
 | exc c p os'=>rw [e1] at w'; exact w'
 | ok d os' =>
  rw [e1] at w'
  obtain ⟨k,rfl⟩:=hb ρ os d os' e1
  intro ι' Hf' H' x r v hv
  cases hv
  exact ⟨k,rfl,(w' ι' Hf' H' x r).now r⟩
theorem Ec {r:R2} {p:I.Pr} (ho:IxR X r) (hv:VR2 G E p r) (ha:PE X a (T G E P KO ea)) (hb:PE X b (T G E P KO eb)) (hs:jR b):PE X (.Subscript a b pos) (T G E P KO (.pr p (.cons ea (.cons eb .nil)))) :=
 PE.weak (BZ ho ha hb hs) (uW hv)
theorem DE {rest:List Expr} (ha:PE X a (T G E P KO ea)) (hb:PE X (.BoolOp .And (b::rest) pos) (T G E P KO eb)):PE X (.BoolOp .And (a::b::rest) pos) (T G E P KO (.and ea eb)) :=
 PE.weak (tu ha hb) fun σ H Q ⟨ι,Hf,ρ,os,rel,rf,w⟩=>T.use rel rf (WR.bind (k:=⟨_⟩) w) fun ι1 Hf1 H1 os1 d v x1 r1 f1 hv q=>by
  cases hv with
  | bl k =>
   refine ⟨k,rfl,?_⟩
   cases k with
   | true=>rw [if_pos rfl]; exact ⟨ι1,Hf1,ρ,os1,r1,f1,q⟩
   | false=>rw [if_neg (by decide)]; exact q.now r1 _ (.bl _)
  | _=>exact False.elim q
theorem E5 {rest:List Expr} (ha:PE X a (T G E P KO ea)) (hb:PE X (.BoolOp .Or (b::rest) pos) (T G E P KO eb)):PE X (.BoolOp .Or (a::b::rest) pos) (T G E P KO (.or ea eb)) :=
 PE.weak (v9 ha hb) fun σ H Q ⟨ι,Hf,ρ,os,rel,rf,w⟩=>T.use rel rf (WR.bind (k:=⟨_⟩) w) fun ι1 Hf1 H1 os1 d v x1 r1 f1 hv q=>by
  cases hv with
  | bl k =>
   refine ⟨k,rfl,?_⟩
   cases k with
   | true=>rw [if_pos rfl]; exact q.now r1 _ (.bl _)
   | false=>rw [if_neg (by decide)]; exact ⟨ι1,Hf1,ρ,os1,r1,f1,q⟩
  | _=>exact False.elim q
theorem Dy (ha:PE X a (T G E P KO ea)):PE X (.UnaryOp .Not a pos) (T G E P KO (.not ea)) :=
 PE.weak (rj ha) fun σ H Q ⟨ι,Hf,ρ,os,rel,rf,w⟩=>T.use rel rf (WR.bind (k:=⟨_⟩) w) fun ι1 Hf1 H1 os1 d v x1 r1 f1 hv q=>by
  cases hv with
  | bl k=>exact ⟨k,rfl,q.now r1 _ (.bl _)⟩
  | _=>exact False.elim q
theorem CU {cc:I.C} (hc:PT X c (TCo G E P KO cc)) (ha:PE X a (T G E P KO ea)) (hb:PE X b (T G E P KO eb)):PE X (.IfExp c a b pos) (T G E P KO (.ite cc ea eb)) :=
 PE.weak (tF hc ha hb) fun σ H Q ⟨ι,Hf,ρ,os,rel,rf,w⟩=>TCo.use rel rf (WR.bind (k:=⟨_⟩) w) fun ι1 Hf1 H1 os1 k x1 r1 f1 q=>by
  cases k with
  | true=>rw [if_pos rfl]; exact ⟨ι1,Hf1,ρ,os1,r1,f1,q⟩
  | false=>rw [if_neg (by decide)]; exact ⟨ι1,Hf1,ρ,os1,r1,f1,q⟩
theorem BS {rest:List Expr} {ca cb:I.C} (ha:PT X a (TCo G E P KO ca)) (hb:PW X (.BoolOp .And (b::rest) pos) (TCo G E P KO cb)):PW X (.BoolOp .And (a::b::rest) pos) (TCo G E P KO (.and ca cb)) :=
 PW.weak (xX ha hb) fun σ H Q ⟨ι,Hf,ρ,os,rel,rf,w⟩=>TCo.use rel rf (WR.bind (k:=⟨_⟩) w) fun ι1 Hf1 H1 os1 k x1 r1 f1 q=>by
  cases k with
  | true=>rw [if_pos rfl]; exact ⟨ι1,Hf1,ρ,os1,r1,f1,q⟩
  | false=>rw [if_neg (by decide)]; exact q.now r1
theorem Ee {rest:List Expr} {ca cb:I.C} (ha:PT X a (TCo G E P KO ca)) (hb:PW X (.BoolOp .Or (b::rest) pos) (TCo G E P KO cb)):PW X (.BoolOp .Or (a::b::rest) pos) (TCo G E P KO (.or ca cb)) :=
 PW.weak (Aj ha hb) fun σ H Q ⟨ι,Hf,ρ,os,rel,rf,w⟩=>TCo.use rel rf (WR.bind (k:=⟨_⟩) w) fun ι1 Hf1 H1 os1 k x1 r1 f1 q=>by
  cases k with
  | true=>rw [if_pos rfl]; exact q.now r1
  | false=>rw [if_neg (by decide)]; exact ⟨ι1,Hf1,ρ,os1,r1,f1,q⟩
theorem Ds {ca:I.C} (ha:PT X a (TCo G E P KO ca)):PT X (.UnaryOp .Not a pos) (TCo G E P KO (.not ca)) :=
 PT.weak (yO ha) fun σ H Q ⟨ι,Hf,ρ,os,rel,rf,w⟩=>TCo.use rel rf (WR.bind (k:=⟨_⟩) w) fun ι1 Hf1 H1 os1 k x1 r1 f1 q=>q.now r1
theorem xW {ι:List Addr} {Hf H:Hp} {os:OS} {x:V} {d:D} {k:Bool} (rel:Rel G ι Hf H os) (hx:Rp G ι Hf x d) (h:I.truth os d=some k):zS G.K x H k:=by
 cases hx with
 | non=>cases h; rfl
 | bl b=>cases h; rfl
 | int i =>
  cases h
  show decide (i≠0)=(i != 0)
  by_cases hi:i=0 <;> simp [hi]
 | str x =>
  have h0:(if x.cps.toList.length<=SZ then some (!x.cps.toList.isEmpty) else none)=some k:=h
  split at h0
  case isFalse=>cases h0
  rename_i hz0
  cases h0
  refine ⟨by rw [<-cF]; exact hz0,?_⟩
  have:(x.cps.toList).isEmpty=decide (x.length=0):=by
   show (x.cps.toList).isEmpty=decide (x.cps.size=0)
   cases e:x.cps.toList with
   | nil =>
    have:x.cps.size=0:=by rw [<-Array.length_toList,e]; rfl
    simp [this]
   | cons a r =>
    have:x.cps.size=r.length+1:=by rw [<-Array.length_toList,e]; rfl
    simp [this]
  rw [this]
  by_cases hz:x.length=0
  ·simp [hz]
  ·simp [hz]
 | lst g z r=>cases h; exact .inl ⟨_,SqL.of (rel.sub _ _ g),by cases r <;> rfl⟩
 | scr g z r=>cases h; exact .inl ⟨_,rel.sub.seq g,by cases r <;> rfl⟩
 | tup g z r=>cases h; exact .inr (.inl ⟨_,SqT.of (rel.sub _ _ g),by cases r <;> rfl⟩)
 | ktu g z r=>cases h; exact .inr (.inl ⟨_,aK.lH rel.sub g,by cases r <;> rfl⟩)
 | @cel a n g =>
  have h':(match I.aa os n with | some (.lst xs)=>some (!xs.isEmpty) | some (.dct false kvs)=>some (!kvs.isEmpty) | some (.ins _ _)=>none | _=>none)=some k:=h
  cases e:I.aa os n with
  | none=>rw [e] at h'; cases h'
  | some c =>
   rw [e] at h'
   obtain ⟨a',g1,g2,g3⟩:=rel.cell n c e
   rw [g] at g1
   cases g1
   cases c with
   | lst xs =>
    cases h'
    obtain ⟨vs,q1,z,q2⟩:=g3
    exact .inl ⟨vs,SqL.of q1,by cases q2 <;> rfl⟩
   | dct t kvs =>
    cases t with
    | true=>cases h'
    | false =>
     cases h'
     obtain ⟨kk,q1,q2,q3⟩:=g3
     refine .inr (.inr ⟨kk,q1,?_⟩)
     cases kk with
     | nil=>cases kvs with
      | nil=>rfl
      | cons _ _=>cases q2
     | cons _ _=>cases kvs with
      | nil=>cases q2
      | cons _ _=>rfl
   | ins _ _=>cases h'
   | tab _=>cases h'
end
end IS
namespace IS
open PySem PySem.Spec L2
open PyProof.Rows hiding St
open I (D Cell OS Fr R SZ Kt Ko)
section
variable {G:GI} {E:XK} {P:I.Pg} {KO:I.Orc} {W:Nat} {X:Cx} {e a b c d:Expr} {ea eb ec ed:I.E} {pos:Pos}
theorem c_e (hK:X.K=G.K) (ha:PE X a (T G E P KO ea)) (he:∀ whole,isTrue a X.env whole=(do let v <-whole; standAt a.pos; holding [v] (truthy v))):PT X a (TCo G E P KO (.e ea)) :=
 PT.weak (qF ha he) fun σ H Q ⟨ι,Hf,ρ,os,rel,rf,w⟩=>T.use rel rf (WR.bind (k:=⟨_⟩) w) fun ι1 Hf1 H1 os1 d v x1 r1 f1 hv q=>by
  obtain ⟨k,e,q⟩:=WR.ofO q
  exact ⟨k,hK ▸ xW r1 hv e,q.now r1⟩
theorem ym {o:I.Cop} {x y:D} {os os':OS} {d:D} (h:I.cmp o x y os=.ok d os'):∃ k,d=.bl k:=by
 have of1:∀ {r:Option Bool} {f:Bool->Bool},R.ofO (r.map fun x=>D.bl (f x)) os=.ok d os'->∃ k,d=.bl k:=fun {r f} h=>by
  cases r with
  | none=>cases h
  | some k=>cases h; exact ⟨_,rfl⟩
 unfold I.cmp at h
 split at h
 ·exact of1 (f:=id) h
 ·exact of1 h
 ·exact of1 (f:=id) h
 ·split at h <;> first | (cases h; exact ⟨_,rfl⟩) | cases h
 ·split at h <;> first | (cases h; exact ⟨_,rfl⟩) | cases h
 ·split at h <;> first | (cases h; exact ⟨_,rfl⟩) | cases h
 ·exact of1 (f:=id) h
 ·exact of1 h
 ·split at h
  ·exact of1 (f:=id) h
  ·cases h
theorem Be {op:CmpOp} {r:R2} {o:I.Cop} (ho:OpR X (compareOp op) r) (hv:VR2 G E (.cmp o) r) (ha:PE X a (T G E P KO ea)) (hb:PE X b (T G E P KO eb)) (hm:behindInMarks op b=false):PT X (.Compare a [op] [b] pos) (TCo G E P KO (.e (.pr (.cmp o) (.cons ea (.cons eb .nil))))) :=
 PT.weak (vj ho ha hb hm) fun σ H Q h=>uW hv σ H _ (xI σ H Q h fun ρ os d os' e=>by
  have e':@R.bind _ _ (I.evs P KO (.cons ea (.cons eb .nil)) ρ os) ⟨fun ds os1=>I.pr (.cmp o) ds os1⟩=.ok d os':=e
  cases e2:I.evs P KO (.cons ea (.cons eb .nil)) ρ os with
  | stk=>rw [e2] at e'; cases e'
  | exc c p os2=>rw [e2] at e'; cases e'
  | ok ds os2 =>
   rw [e2] at e'
   have e3:I.pr (.cmp o) ds os2=R.ok d os':=e'
   clear e' e2
   cases ds with
   | nil=>cases (show (R.stk:R D)=R.ok d os' from e3)
   | cons a r=>cases r with
    | nil=>cases (show (R.stk:R D)=R.ok d os' from e3)
    | cons b r=>cases r with
     | nil=>exact ym (show I.cmp o a b os2=R.ok d os' from e3)
     | cons _ _=>cases (show (R.stk:R D)=R.ok d os' from e3))
noncomputable def ay:I.Es->Nat
 | .nil=>0
 | .cons _ es=>ay es+1
theorem bind_some {α β:Type} {r:R α} {f:α->OS->R β} {b:β} {os':OS} (h:@R.bind α β r ⟨f⟩=.ok b os'):∃ a os1,r=.ok a os1/\f a os1=.ok b os':=by
 cases r with
 | ok a os=>exact ⟨a,os,rfl,h⟩
 | exc c p os=>cases h
 | stk=>cases h
theorem jz:∀ {es:I.Es} {ρ:Fr} {os os':OS} {ds:List D},I.evs P KO es ρ os=.ok ds os'->ds.length=ay es
 | .nil,_,_,_,_,h=>by cases h; rfl
 | .cons e es,_,_,_,_,h=>by
  obtain ⟨d,os1,_,h2⟩:=bind_some (f:=fun d os1 => @R.bind _ _ (I.evs P KO es _ os1) ⟨fun ds os2=>.ok (d::ds) os2⟩) h
  obtain ⟨ds,os2,h3,h4⟩:=bind_some (f:=fun ds os2=>R.ok (d::ds) os2) h2
  cases h4
  show ds.length+1=_
  rw [jz h3]
  rfl
theorem WR.dJ {es:I.Es} {ρ:Fr} {ι:List Addr} {Hf:Hp} {os:OS} {Q:List Addr->Hp->Hp->OS->List D->Prop} (w:WR G E ι Hf (I.evs P KO es ρ os) Q):WR G E ι Hf (I.evs P KO es ρ os) (fun ι' Hf' H' os' ds=>ds.length=ay es/\Q ι' Hf' H' os' ds):=by
 cases e:I.evs P KO es ρ os with
 | stk=>rw [e] at w; exact w
 | exc c p os'=>rw [e] at w; exact w
 | ok ds os' =>
  rw [e] at w
  exact fun ι' Hf' H' x r=>⟨jz e,w ι' Hf' H' x r⟩
theorem AB {es:List Expr} {as:I.Es} {k:Nat} (h:PA X es (Ts G E P KO as)) (hl:ay as<=1000):PE X (.Tuple es k pos) (T G E P KO (.tup as)) :=
 PE.weak (tK h) fun σ H Q ⟨ι,Hf,ρ,os,rel,rf,w⟩=>Ts.use rel rf (WR.dJ (WR.bind (k:=⟨_⟩) w)) fun ι1 Hf1 H1 os1 ds vs x1 r1 f1 hvs ⟨hz,q⟩=>by
  have hz':vs.length<=sizeLine:=by rw [hvs.len,hz]; exact Nat.le_of_lt (fL hl)
  refine ⟨hz',fun p hp => ?_⟩
  obtain ⟨x2,rr⟩:=r1.fY (o:=.tup vs) hp
  exact q ι1 _ _ x2 rr (.ref p) (.tup ak hz' (hvs.ext x2))
theorem xN {es:List Expr} {as:I.Es} (h:PA X es (Ts G E P KO as)) (hl:ay as<=1000):PE X (.List es pos) (TF G E P KO (.lst as)) :=
 PE.weak (zM h) fun σ H Q ⟨ι,Hf,ρ,os,rel,rf,w⟩=>Ts.use rel rf (WR.dJ (WR.bind (k:=⟨_⟩) w)) fun ι1 Hf1 H1 os1 ds vs x1 r1 f1 hvs ⟨hz,q⟩=>by
  have hz':vs.length<=sizeLine:=by rw [hvs.len,hz]; exact Nat.le_of_lt (fL hl)
  refine ⟨hz',fun p hp => ?_⟩
  obtain ⟨zs,e,q⟩:=q.now r1
  cases e
  exact q vs p hvs hz' hp
theorem gz (h:PE X e (TF G E P KO ea)) (hd:∀ ρ os d os',I.ev P KO ea ρ os=.ok d os'->∃ xs,d=.lst xs):PE X e (T G E P KO ea):=PE.weak h (ow hd)
theorem Ae (h:PE X e (TF G E P KO ea)):PE X e (T G E P KO (.cell ea)):=PE.weak h qQ
theorem lst_is {as:I.Es} (ρ:Fr) (os:OS) (d:D) (os':OS) (h:I.ev P KO (.lst as) ρ os=.ok d os'):∃ xs,d=.lst xs:=by
 obtain ⟨ds,os1,_,h2⟩:=bind_some (f:=fun ds os1=>R.ok (D.lst ds) os1) h
 cases h2
 exact ⟨_,rfl⟩
theorem t9:PE X (.Dict [] [] pos) (T G E P KO (.dict false)) :=
 PE.weak qM fun σ H Q ⟨ι,Hf,ρ,os,rel,rf,w⟩ p hp=>by
  obtain ⟨x2,rr⟩:=rel.yD (o:=.dK []) (c:=.dct false []) hp ⟨[],ak,rfl,.nil⟩
  exact (show WR G E ι Hf (.ok (D.cel os.length) (os++[some (.dct false [])])) _ from w) (ι++[p]) Hf _ x2 rr (.ref p) (.cel (by rw [<-rel.len]; simp))
theorem uk:PE X (.Dict [] [] pos) (T G E P KO (.dict true)) :=
 PE.weak rh fun σ H Q ⟨ι,Hf,ρ,os,rel,rf,w⟩ p hp=>by
  obtain ⟨x2,rr⟩:=rel.yD (o:=.dT []) (c:=.dct true []) hp ⟨[],ak,rfl,.nil⟩
  exact (show WR G E ι Hf (.ok (D.cel os.length) (os++[some (.dct true [])])) _ from w) (ι++[p]) Hf _ x2 rr (.ref p) (.cel (by rw [<-rel.len]; simp))
theorem EB (h:PE X e (T G E P KO ea)):PE X e (T G E P KO (.fz ea)) :=
 PE.weak h fun σ H Q ⟨ι,Hf,ρ,os,rel,rf,w⟩=>T.use rel rf (WR.bind (k:=⟨_⟩) w) fun ι1 Hf1 H1 os1 d v x1 r1 f1 hv q=>by
  cases hv with
  | @cel a n h =>
   have q':WR G E ι1 Hf1 (I.fzC n os1 (I.aa os1 n)) (fun ι' Hf' H' _ d=>∀ v,Rp G ι' Hf' v d->Q v H'):=q
   cases e:I.aa os1 n with
   | none=>rw [e] at q'; exact False.elim q'
   | some c =>
    rw [e] at q'
    cases c with
    | lst xs =>
     obtain ⟨a',vs,h1,x2,rr,hr⟩:=r1.fz e
     rw [h] at h1
     cases h1
     exact q' ι1 _ H1 x2 rr _ hr
    | _=>exact False.elim q'
  | _=>exact False.elim q
end
end IS
namespace IS
open PySem PySem.Spec L2
open PyProof.Rows hiding St
open I (D Cell OS Fr R SZ Kt Ko)
theorem zX {X:Cx} {tg l:Expr} {tl:TE} (hl:PE X l tl):PI X tg l (fun σ H R=>tl σ H fun x H1=>∃ a,x=.ref a/\(((∃ xs,SqL X.K H1 a xs)/\R (Itl X.K a) H1)\/((∃ xs,SqT X.K H1 a xs)/\R (Itt X.K a) H1))):=by
 intro pins s σ H R I h
 refine thn (hl pins s σ H _ I h) fun v s1 ⟨x,H1,I1,r1,q1⟩ => ?_
 obtain ⟨a,e,alt⟩:=q1
 subst e
 cases r1
 rcases alt with ⟨⟨xs,hq⟩,q⟩ | ⟨⟨xs,hq⟩,q⟩
 ·obtain ⟨its,rv,p,hz⟩:=I1.list hq
  refine wpAny_pyIter_list p.isList ?_
  refine ⟨s1.heap.objs.size,[s1.heap.objs.size],_,_,H1,rfl,I1.kept (t':=s1.toks) fun b o e=>Heap.get?_push_of_some _ e,pP a _,⟨_,Heap.get?_push_size _ rfl,rfl,rfl⟩,fun b hb => ?_,q⟩
  have e:b=s1.heap.objs.size:=by simpa using hb
  subst e
  exact I1.s9 (Nat.le_refl _) (I1.hok.fresh (Nat.le_refl _))
 ·obtain ⟨its,rv,p,hz⟩:=I1.tuple hq
  refine wpAny_pyIter_tuple (show s1.heap.IsTuple a its.toArray from p) ?_
  refine ⟨s1.heap.objs.size,[s1.heap.objs.size],_,_,H1,rfl,I1.kept (t':=s1.toks) fun b o e=>Heap.get?_push_of_some _ e,mV a _,⟨_,Heap.get?_push_size _ rfl,rfl,rfl⟩,fun b hb => ?_,q⟩
  have e:b=s1.heap.objs.size:=by simpa using hb
  subst e
  exact I1.s9 (Nat.le_refl _) (I1.hok.fresh (Nat.le_refl _))
section
variable {G:GI} {E:XK} {P:I.Pg} {KO:I.Orc} {W:Nat} {X:Cx} {e a b c d l:Expr} {ea eb ec ed:I.E} {pos:Pos} {tg:Expr}
theorem tI {os:OS} {d:D} {xs:List D} (h:I.items os d=some xs):I.aA os d=some xs\/I.mC d=some xs:=by
 cases d <;> first | exact .inl h | exact .inr h | cases h
theorem qS {ι:List Addr} {Hf H:Hp} {os:OS} {x:V} {d:D} {xs:List D} (rel:Rel G ι Hf H os) (hx:Rp G ι Hf x d) (hd:I.aA os d=some xs) :
  ∃ a,x=.ref a/\∀ ι' Hf' H' os',Ext ι Hf ι' Hf'->Rel G ι' Hf' H' os'->I.aX os [d] os'->∃ vs,SqL G.K H' a vs/\vs.length<=sizeLine/\Rps G ι' Hf' vs xs:=by
 cases hx with
 | lst h z r=>cases hd; exact ⟨_,rfl,fun ι' Hf' H' os' x2 r2 _=>⟨_,SqL.of (r2.sub _ _ (x2.sub _ _ h)),z,r.ext x2⟩⟩
 | scr h z r=>cases hd; exact ⟨_,rfl,fun ι' Hf' H' os' x2 r2 _=>⟨_,r2.sub.seq (x2.sub.seq h),z,r.ext x2⟩⟩
 | @cel a n h =>
  refine ⟨a,rfl,fun ι' Hf' H' os' x2 r2 st => ?_⟩
  have e:I.aa os n=some (.lst xs):=jm hd
  have e2:I.aa os' n=some (.lst xs):=st.1.trans e
  obtain ⟨a',vs,h1,h2,h3,h4,z,h5⟩:=r2.asC (.cel (x2.get h)) e2
  cases h1
  exact ⟨vs,SqL.of h4,z,h5⟩
 | _=>cases hd
theorem xS {ι:List Addr} {Hf H:Hp} {os:OS} {x:V} {d:D} {xs:List D} (rel:Rel G ι Hf H os) (hx:Rp G ι Hf x d) (hd:I.mC d=some xs) :
  ∃ a,x=.ref a/\∀ ι' Hf' H' os',Ext ι Hf ι' Hf'->Rel G ι' Hf' H' os'->∃ vs,SqT G.K H' a vs/\vs.length<=sizeLine/\Rps G ι' Hf' vs xs:=by
 cases hx with
 | tup h z r=>cases hd; exact ⟨_,rfl,fun ι' Hf' H' os' x2 r2=>⟨_,SqT.of (r2.sub _ _ (x2.sub _ _ h)),z,r.ext x2⟩⟩
 | ktu h z r=>cases hd; exact ⟨_,rfl,fun ι' Hf' H' os' x2 r2=>⟨_,aK.lH r2.sub (aK.lH x2.sub h),z,r.ext x2⟩⟩
 | _=>cases hd
theorem aH {os:OS}:∀ (ds:List D),I.aX os ds os
 | []=>trivial
 | .cel n::r=>⟨rfl,aH r⟩
 | .non::r=>aH r
 | .bl _::r=>aH r
 | .int _::r=>aH r
 | .str _::r=>aH r
 | .lst _::r=>aH r
 | .tup _::r=>aH r
 | .scr _::r=>aH r
 | .ktu _::r=>aH r
 | .exn _ _::r=>aH r
theorem yy {ι:List Addr} {Hf:Hp} {os:OS} {a:Addr} {ds xs:List D} (h:∀ ι' Hf' H' os',Ext ι Hf ι' Hf'->Rel G ι' Hf' H' os'->I.aX os ds os'->∃ vs,SqL G.K H' a vs/\vs.length<=sizeLine/\Rps G ι' Hf' vs xs):JOk G (Itl G.K a) ι Hf os ds xs:=by
 intro i ι' Hf' H' os' x2 r2 st
 obtain ⟨vs,hq,z,r⟩:=h ι' Hf' H' os' x2 r2 st
 refine ⟨fun x hx => ?_,fun hn _=>⟨vs,hq,by rw [r.len]; exact List.getElem?_eq_none_iff.mp hn⟩⟩
 obtain ⟨v,h1,h2⟩:=r.get hx
 refine ⟨⟨vs,v,hq,h1⟩,fun v' H'' y => ?_⟩
 obtain ⟨e,y⟩:=y
 subst e
 have:=y vs hq
 rw [h1] at this
 cases this
 exact ⟨Hf',.refl,r2,h2⟩
theorem A2 {ι:List Addr} {Hf:Hp} {os:OS} {a:Addr} {ds xs:List D} (h:∀ ι' Hf' H' os',Ext ι Hf ι' Hf'->Rel G ι' Hf' H' os'->∃ vs,SqT G.K H' a vs/\vs.length<=sizeLine/\Rps G ι' Hf' vs xs):JOk G (Itt G.K a) ι Hf os ds xs:=by
 intro i ι' Hf' H' os' x2 r2 st
 obtain ⟨vs,hq,z,r⟩:=h ι' Hf' H' os' x2 r2
 refine ⟨fun x hx => ?_,fun hn _=>⟨vs,hq,by rw [r.len]; exact List.getElem?_eq_none_iff.mp hn⟩⟩
 obtain ⟨v,h1,h2⟩:=r.get hx
 refine ⟨⟨vs,v,hq,h1⟩,fun v' H'' y => ?_⟩
 obtain ⟨e,y⟩:=y
 subst e
 have:=y vs hq
 rw [h1] at this
 cases this
 exact ⟨Hf',.refl,r2,h2⟩
theorem BW (hK:X.K=G.K) (h:PE X e (T G E P KO ea)):PI X tg e (TIr G E P KO (.seq ea)) :=
 PI.weak (zX h) fun σ H R ⟨ι,Hf,ρ,os,rel,rf,w⟩=>T.use rel rf (WR.bind (k:=⟨_⟩) w) fun ι1 Hf1 H1 os1 d v x1 r1 f1 hv q=>by
  obtain ⟨p,e,q⟩:=WR.ofO q
  cases e2:I.items os1 d with
  | none=>rw [e2] at e; cases e
  | some xs =>
   rw [e2] at e
   cases e
   rw [hK]
   rcases tI e2 with e3 | e3
   ·obtain ⟨a,rfl,la⟩:=qS r1 hv e3
    obtain ⟨vs,hq,_⟩:=la ι1 Hf1 H1 os1 .refl r1 (aH _)
    exact ⟨a,rfl,.inl ⟨⟨vs,hq⟩,q.now r1 _ (yy la)⟩⟩
   ·obtain ⟨a,rfl,la⟩:=xS r1 hv e3
    obtain ⟨vs,hq,_⟩:=la ι1 Hf1 H1 os1 .refl r1
    exact ⟨a,rfl,.inr ⟨⟨vs,hq⟩,q.now r1 _ (A2 la)⟩⟩
theorem wF {ι:List Addr} {Hf:Hp} {os:OS} (lo:Int) (n:Nat):JOk G (Itr lo n) ι Hf os [] ((List.range n).map fun k=>D.int (lo+(k:Nat))):=by
 intro i ι' Hf' H' os' x2 r2 st
 refine ⟨fun x hx => ?_,fun hn _ => ?_⟩
 ·rw [List.getElem?_map] at hx
  cases e:(List.range n)[i]? with
  | none=>rw [e] at hx; cases hx
  | some k =>
   rw [e] at hx
   cases hx
   have hi:i<n:=by
    have:=(List.getElem?_eq_some_iff.mp e).1
    rwa [List.length_range] at this
   rw [List.getElem?_range hi] at e
   cases e
   refine ⟨hi,fun v H'' y => ?_⟩
   obtain ⟨e1,e2⟩:=y
   subst e1 e2
   exact ⟨Hf',.refl,r2,.int _⟩
 ·have:=List.getElem?_eq_none_iff.mp hn
  rw [List.length_map,List.length_range] at this
  exact this
end
end IS
namespace IS
open PySem PySem.Spec L2
open PyProof.Rows hiding St
open I (D Cell OS Fr R SZ Kt Ko)
section
variable {G:GI} {E:XK} {P:I.Pg} {KO:I.Orc} {W:Nat} {X:Cx} {e a b c d l:Expr} {ea eb ec ed:I.E} {p pos:Pos} {tg:Expr}
theorem yd (hg:Gl X "range") (hm:X.mg "range" = none) (ha:PA X [a] (Ts G E P KO (.cons ea .nil))) (hs:starEach [a] X.env=[(false,eval a X.env)]):PI X tg (.Call (.Name "range" p) [a] [] pos) (TIr G E P KO (.rng (.cons ea .nil))) :=
 PI.weak (oO hg hm ha hs) fun σ H R ⟨ι,Hf,ρ,os,rel,rf,w⟩=>Ts.use rel rf (WR.dJ (WR.bind (k:=⟨_⟩) w)) fun ι1 Hf1 H1 os1 ds vs x1 r1 f1 hvs ⟨hl,q⟩=>by
  cases hvs with
  | nil=>cases hl
  | cons hv r =>
   cases r with
   | cons _ _=>cases hl
   | nil =>
    cases hv with
    | int j =>
     obtain ⟨⟨h1,h2⟩,q⟩:=WR.gd q
     refine ⟨j,rfl,h1,h2,q.now r1 _ ?_⟩
     have:=wF (G:=G) (ι:=ι1) (Hf:=Hf1) (os:=os1) 0 j.toNat
     simpa using this
    | _=>exact False.elim q
theorem xB (hg:Gl X "range") (hm:X.mg "range" = none) (ha:PA X [a,b] (Ts G E P KO (.cons ea (.cons eb .nil)))) (hs:starEach [a,b] X.env=[(false,eval a X.env),(false,eval b X.env)]) (hs2:starEach [b] X.env=[(false,eval b X.env)]):PI X tg (.Call (.Name "range" p) [a,b] [] pos) (TIr G E P KO (.rng (.cons ea (.cons eb .nil)))) :=
 PI.weak (pI hg hm ha hs hs2) fun σ H R ⟨ι,Hf,ρ,os,rel,rf,w⟩=>Ts.use rel rf (WR.dJ (WR.bind (k:=⟨_⟩) w)) fun ι1 Hf1 H1 os1 ds vs x1 r1 f1 hvs ⟨hl,q⟩=>by
  match ds,vs,hvs,hl with
  | [d1,d2],[v1,v2],hvs,_ =>
   obtain ⟨_,_,ee,h1,h2⟩:=hvs.two
   cases ee
   obtain ⟨i,j,rfl,rfl⟩:=WR.EZ q
   obtain rfl:=h1.au
   obtain rfl:=h2.au
   obtain ⟨h,q⟩:=WR.gd q
   exact ⟨i,j,rfl,h,q.now r1 _ (wF i _)⟩
  | [d1,d2],[],hvs,_=>cases hvs
  | [d1,d2],[_],hvs,_=>obtain ⟨_,_,ee,_⟩:=hvs.two; cases ee
  | [d1,d2],_::_::_::_,hvs,_=>obtain ⟨_,_,ee,_⟩:=hvs.two; cases ee
theorem zO (hg:Gl X "range") (hm:X.mg "range" = none) (ha:PA X [a,b,c] (Ts G E P KO (.cons ea (.cons eb (.cons ec .nil))))) (hs:starEach [a,b,c] X.env=(false,eval a X.env)::starEach [b,c] X.env) (hs2:(backTo pos (starEach [b,c] X.env)).any (·.1)=false):PI X tg (.Call (.Name "range" p) [a,b,c] [] pos) (TIr G E P KO (.rng (.cons ea (.cons eb (.cons ec .nil))))) :=
 PI.weak (oR hg hm ha hs hs2) fun σ H R ⟨ι,Hf,ρ,os,rel,rf,w⟩=>Ts.use rel rf (WR.dJ (WR.bind (k:=⟨_⟩) w)) fun ι1 Hf1 H1 os1 ds vs x1 r1 f1 hvs ⟨hl,q⟩=>by
  match ds,hl with
  | [d1,d2,d3],_ =>
   obtain ⟨v1,v2,v3,rfl,h1,h2,h3⟩:=hvs.three
   obtain ⟨i,j,k,rfl,rfl,rfl⟩:=WR.Eb q
   obtain rfl:=h1.au
   obtain rfl:=h2.au
   obtain rfl:=h3.au
   exact by
     exact by
      obtain ⟨⟨a1,a2,a3,a4,a5,a6⟩,q⟩:=WR.gd q
      have hsz0:Builtin.Range.rangeSize i j k=if i<j then (j - i - 1) / k+1 else 0:=by
       unfold Builtin.Range.rangeSize
       rw [if_pos (show k > 0 from a5)]
      have hnn:0<=(if i<j then (j - i - 1) / k+1 else 0)/\(if i<j then (j - i - 1) / k+1 else 0)<=2 ^ 42:=by
       split
       ·have h1:0<=(j - i - 1) / k:=Int.ediv_nonneg (by omega) (by omega)
        have h2:(j - i - 1) / k<=j - i - 1:=Int.ediv_le_self _ (by omega)
        omega
       ·omega
      have hsz:Builtin.Range.rangeSize i j k=((if i<j then (j - i - 1) / k+1 else 0).toNat:Int):=by
       rw [hsz0,Int.toNat_of_nonneg hnn.1]
      refine ⟨i,j,k,(if i<j then (j - i - 1) / k+1 else 0).toNat,rfl,by omega,by omega,?_,hsz,q.now r1 _ ?_⟩
      ·unfold Builtin.Range.small
       rw [hsz0]
       generalize (if i<j then (j - i - 1) / k+1 else 0)=z at hnn
       simp only [Builtin.Range.rangeFitsLong,Bool.and_eq_true,Bool.or_eq_true,decide_eq_true_eq,beq_iff_eq,show k > 0 from a5,if_true]
       omega
      ·intro n ι' Hf' H' os' x2 r2 st
       refine ⟨fun x hx => ?_,fun hn _ => ?_⟩
       ·rw [List.getElem?_map] at hx
        cases e:(List.range (if i<j then (j - i - 1) / k+1 else 0).toNat)[n]? with
        | none=>rw [e] at hx; cases hx
        | some m =>
         rw [e] at hx
         cases hx
         have hi:n<(if i<j then (j - i - 1) / k+1 else 0).toNat:=by
          have:=(List.getElem?_eq_some_iff.mp e).1
          rwa [List.length_range] at this
         rw [List.getElem?_range hi] at e
         cases e
         refine ⟨hi,fun v H'' y => ?_⟩
         obtain ⟨e1,e2⟩:=y
         subst e1 e2
         exact ⟨Hf',.refl,r2,.int _⟩
       ·have:=List.getElem?_eq_none_iff.mp hn
        rw [List.length_map,List.length_range] at this
        exact this
end
end IS
namespace IS
open PySem PySem.Spec L2
open PyProof.Rows hiding St
open I (D Cell OS Fr R SZ Kt Ko)
section
variable {G:GI} {E:XK} {P:I.Pg} {KO:I.Orc} {W:Nat} {X:Cx} {e a b c d l:Expr} {ea eb ec ed:I.E} {p pos:Pos} {tg iter:Expr}
theorem rV {i:Nat} {x:Str} (hN:X.N.Nodup) (hi:X.N[i]?=some x) (hx:Loc X.env.scope x) (hf:X.fn x=true\/X.env.scope.names.lookup x=some .local):PG X (.Name x pos) (TTg G (.v i)) :=
 PG.weak (vh hN hi hx hf) fun v σ H Q ⟨ι,Hf,ρ,os,d,rel,rf,hv,ρ',e,q⟩=>by
  cases e
  exact q _ (rf.st hv i)
noncomputable def rM (G:GI) (is:List Nat):TGs:=fun vs σ H Q=>∃ ι Hf ρ os ds,Rel G ι Hf H os/\Rf G ι Hf σ ρ/\Rps G ι Hf vs ds/\∃ ρ',I.dG ρ is ds=some ρ'/\∀ σ',Rf G ι Hf σ' ρ'->Q σ' H
theorem PGs.weak {ts:List Expr} {t t':TGs} (h:PGs X ts t) (m:∀ v σ H Q,t' v σ H Q->t v σ H Q):PGs X ts t':=fun pins s σ H vs us Q I r hw=>h pins s σ H vs us Q I r (m vs σ H Q hw)
theorem Aa:PGs X [] (rM G []):=PGs.weak u9 fun vs σ H Q ⟨ι,Hf,ρ,os,ds,rel,rf,hv,ρ',e,q⟩=>by
 cases ds with
 | cons _ _=>cases e
 | nil=>cases hv; cases e; exact ⟨rfl,q _ rf⟩
theorem uu {i:Nat} {is:List Nat} {es:List Expr} (h1:PG X e (TTg G (.v i))) (h2:PGs X es (rM G is)) (hs:(assignEach (e::es) X.env).map (·.2)=assign e X.env::(assignEach es X.env).map (·.2)):PGs X (e::es) (rM G (i::is)) :=
 PGs.weak (tf h1 h2 hs) fun vs σ H Q ⟨ι,Hf,ρ,os,ds,rel,rf,hv,ρ',e,q⟩=>by
  cases hv with
  | nil=>cases e
  | cons hv hr =>
   exact ⟨_,_,rfl,ι,Hf,ρ,os,_,rel,rf,hv,_,rfl,fun σ' rf'=>⟨ι,Hf,_,os,_,rel,rf',hr,ρ',e,q⟩⟩
theorem CJ {is:List Nat} {es:List Expr} {k n:Nat} (hK:X.K=G.K) (hc:X.calm=true) (h:PGs X es (rM G is)) (hl:is.length=n) (hn:(assignEach es X.env).length=n) (hst:(assignEach es X.env).findIdx? (·.1)=none):PG X (.Tuple es k pos) (TTg G (.tup is)) :=
 PG.weak (yb hc h hn hst) fun v σ H Q ⟨ι,Hf,ρ,os,d,rel,rf,hv,ρ',e,q⟩=>by
  have key:∀ {ρ:Fr} {is:List Nat} {ds:List D} {ρ':Fr},I.dG ρ is ds=some ρ'->ds.length=is.length:=fun {ρ is ds ρ'}=>by
   induction is generalizing ρ ds with
   | nil=>intro h; cases ds with
    | nil=>rfl
    | cons _ _=>cases h
   | cons i is ih=>intro h; cases ds with
    | nil=>cases h
    | cons d ds=>exact congrArg (· + 1) (ih h)
  cases hv with
  | tup hh z r=>exact ⟨_,_,rfl,hK ▸ SqT.of (rel.sub _ _ hh),by rw [r.len,key (show I.dG ρ is _=some ρ' from e),hl],ι,Hf,ρ,os,_,rel,rf,r,ρ',e,q⟩
  | _=>cases e
theorem CQ {t:I.Tg} {it:I.It} {bs:I.Ss} {body:List Stmt} (hp:PassesOwn (model X.prog X.w) X.A X.env X.xe) (hc:X.calm=true) (hi:PI X tg iter (TIr G E P KO it)) (hg:PG X tg (TTg G t)) (hb:PSs X body (fm G E P KO W bs))
  (hs:∀ x,foldedSetIterable iter X.env x=pure x):PS X (.For tg iter body [] pos) (TSt G E P KO W (.fr t it bs)) :=
 PS.weak (y2 hp hc hi hg hb hs) fun D σ H ⟨ι,Hf,ρ,os,rel,rf,w⟩=>by
  refine ⟨ι,Hf,ρ,os,rel,rf,(WR.bind (k:=⟨_⟩) w).mono ?_⟩
  rintro ι1 Hf1 H1 os1 ⟨ds,xs⟩ x1 r1 q J hJ
  have q0:WR G E ι1 Hf1 (I.forL (body:=⟨fun x ρ os=>I.dc (k:=⟨fun ρ1 os2=>I.execs P KO W bs ρ1 os2⟩) os (I.aF t x ρ)⟩) (I.aX os1 ds) xs ρ os1) (WS G D):=q
  refine ⟨fun i m σ H=>m=xs.length - i/\∃ ι Hf ρ os,Ext ι1 Hf1 ι Hf/\Rel G ι Hf H os/\Rf G ι Hf σ ρ/\i<=xs.length /\
   WR G E ι Hf (I.forL (body:=⟨fun x ρ os=>I.dc (k:=⟨fun ρ1 os2=>I.execs P KO W bs ρ1 os2⟩) os (I.aF t x ρ)⟩) (I.aX os1 ds) (xs.drop i) ρ os) (WS G D),
   ⟨xs.length,rfl,ι1,Hf1,ρ,os1,.refl,r1,rf.ext x1,Nat.zero_le _,q0⟩,?_⟩
  rintro i m σ2 H2 ⟨rfl,ι2,Hf2,ρ2,os2,x2,r2,f2,hi2,w2⟩
  cases e:xs[i]? with
  | none =>
   have hil:i=xs.length:=by have:=List.getElem?_eq_none_iff.mp e; omega
   rw [List.drop_of_length_le (by omega)] at w2
   unfold I.forL at w2
   split at w2
   ·rename_i lv
    exact .inl ⟨(hJ i ι2 Hf2 H2 os2 x2 r2 lv).2 e hil,w2.now r2 σ2 f2⟩
   ·exact False.elim w2
  | some x =>
   have hil:i<xs.length:=(List.getElem?_eq_some_iff.mp e).1
   have ed:xs.drop i=x::xs.drop (i+1):=by
    rw [List.drop_eq_getElem_cons hil]
    rw [List.getElem?_eq_getElem hil] at e
    rw [Option.some.inj e]
   rw [ed] at w2
   unfold I.forL at w2
   split at w2
   ·rename_i lv
    obtain ⟨go,yl⟩:=(hJ i ι2 Hf2 H2 os2 x2 r2 lv).1 x e
    refine .inr ⟨go,fun σ' H'=>∃ ι Hf ρ os,Ext ι1 Hf1 ι Hf/\Rel G ι Hf H' os/\Rf G ι Hf σ' ρ /\
     WR G E ι Hf (I.forL (body:=⟨fun x ρ os=>I.dc (k:=⟨fun ρ1 os2=>I.execs P KO W bs ρ1 os2⟩) os (I.aF t x ρ)⟩) (I.aX os1 ds) (xs.drop (i+1)) ρ os) (WS G D),
     fun σ' H' ⟨ι,Hf,ρ,os,h1,h2,h3,h4⟩=>⟨xs.length - (i+1),by omega,rfl,ι,Hf,ρ,os,h1,h2,h3,hil,h4⟩,fun v H3 y => ?_⟩
    obtain ⟨Hf3,x3,r3,hv⟩:=yl v H3 y
    have w3:=WR.bind (k:=⟨_⟩) (w2.ext x3)
    have w3':WR G E ι2 Hf3 (I.dc (k:=⟨fun ρ1 os2=>I.execs P KO W bs ρ1 os2⟩) os2 (I.aF t x ρ2)) _:=w3
    cases eb:I.aF t x ρ2 with
    | none=>rw [eb] at w3'; exact False.elim w3'
    | some ρ3 =>
     rw [eb] at w3'
     refine ⟨ι2,Hf3,ρ2,os2,x,r3,f2.ext x3,hv,ρ3,eb,fun σ3 f3=>⟨ι2,Hf3,ρ3,os2,r3,f3,?_⟩⟩
     refine WR.mono (show WR G E ι2 Hf3 (I.execs P KO W bs ρ3 os2) _ from w3') ?_
     rintro ι4 Hf4 H4 os4 ⟨f,ρ4⟩ x4 r4 q4
     cases f with
     | nx=>exact fun σ4 f4=>⟨ι4,Hf4,ρ4,os4,x2.trans (x3.trans x4),r4,f4,q4⟩
     | ct=>exact fun σ4 f4=>⟨ι4,Hf4,ρ4,os4,x2.trans (x3.trans x4),r4,f4,q4⟩
     | bk=>exact q4.now r4
     | rt d=>exact q4.now r4
   ·exact False.elim w2
end
end IS
namespace IS
open PySem PySem.Spec L2
open PyProof.Rows hiding St
open I (D Cell OS Fr R SZ Kt Ko)
section
variable {G:GI} {E:XK} {P:I.Pg} {KO:I.Orc} {W:Nat} {X:Cx} {e a b c d l:Expr} {ea eb ec ed:I.E} {p pos:Pos} {tg iter:Expr}
theorem Rf.forget {ι:List Addr} {Hf:Hp} {fr:Fr}:∀ {nl:Nat} {σ:St} {ρ:Fr},Rf G ι Hf σ (ρ++fr)->ρ.length=nl->Rf G ι Hf σ (List.replicate nl none++fr)
 | 0,σ,ρ,h,e=>by
  have:ρ=[]:=List.length_eq_zero_iff.mp e
  subst this
  exact h
 | n+1,σ,[],h,e=>by cases e
 | n+1,σ,x::ρ,h,e=>by
  cases h with
  | no r=>exact .no (Rf.forget r (by simpa using e))
  | so _ r=>exact .no (Rf.forget r (by simpa using e))
theorem mH {fr:Fr} {d:D}:∀ (ρ:Fr) (i:Nat),i<ρ.length->I.st (ρ++fr) i d=I.st ρ i d++fr/\(I.st ρ i d).length=ρ.length
 | x::ρ,0,_=>⟨rfl,rfl⟩
 | x::ρ,i+1,h=>by
  obtain ⟨h1,h2⟩:=mH ρ i (by simpa using h)
  exact ⟨congrArg (x :: ·) h1,congrArg (· + 1) h2⟩
noncomputable def gb (nl:Nat):I.Tg->Bool
 | .v i=>decide (i<nl)
 | .tup is=>is.all fun i=>decide (i<nl)
theorem pR {fr:Fr} {t:I.Tg} {d:D} {ρ ρ':Fr} (ht:gb ρ.length t=true) (h:I.aF t d (ρ++fr)=some ρ'):∃ ρ2,ρ'=ρ2++fr/\ρ2.length=ρ.length:=by
 cases t with
 | v i =>
  cases h
  obtain ⟨h1,h2⟩:=mH (fr:=fr) (d:=d) ρ i (of_decide_eq_true ht)
  exact ⟨_,h1,h2⟩
 | tup is =>
  cases d with
  | tup ds =>
   have h':I.dG (ρ++fr) is ds=some ρ':=h
   clear h
   induction is generalizing ρ ds with
   | nil=>cases ds with
    | nil=>cases h'; exact ⟨_,rfl,rfl⟩
    | cons _ _=>cases h'
   | cons i is ih=>cases ds with
    | nil=>cases h'
    | cons d ds =>
     rw [show gb ρ.length (.tup (i::is))=(decide (i<ρ.length)&&gb ρ.length (.tup is)) from rfl] at ht
     obtain ⟨t1,t2⟩:=Bool.and_eq_true_iff.mp ht
     obtain ⟨h1,h2⟩:=mH (fr:=fr) (d:=d) ρ i (of_decide_eq_true t1)
     have h3:I.dG (I.st (ρ++fr) i d) is ds=some ρ':=h'
     rw [h1] at h3
     obtain ⟨ρ2,e1,e2⟩:=ih (ρ:=I.st ρ i d) (by rw [h2]; exact t2) ds h3
     exact ⟨ρ2,e1,e2.trans h2⟩
  | _=>cases h
theorem WR.eW {α:Type} {r:R α} {ι:List Addr} {Hf:Hp} {Q:List Addr->Hp->Hp->OS->α->Prop} (w:WR G E ι Hf (I.eW r) Q):WR G E0 ι Hf r Q:=by
 cases r with
 | ok a os=>exact w
 | exc c p os=>exact False.elim w
 | stk=>exact w
theorem sg {nl:Nat} {fr:List Nat} {t:I.Tg} {it:I.It} {cd:I.C} {el:I.E} {fin:List V->Hp->Prop} {σ:St} {H:Hp} (ht:gb nl t=true)
  (h:∃ ι Hf ρ os,Rel G ι Hf H os/\Rf G ι Hf σ ρ/\WR G E ι Hf (I.ev P KO (.comp nl fr t it cd el) ρ os) (fun ι' Hf' H' _ d=>∃ xs,d=.lst xs/\∀ vs,Rps G ι' Hf' vs xs->vs.length<=sizeLine->fin vs H')) :
  m7 nl fr (TIr G E P KO it) (TTg G t) (TCo G E0 P KO cd) (T G E0 P KO el) fin σ H:=by
 obtain ⟨ι,Hf,ρ,os,rel,rf,w⟩:=h
 refine ⟨ι,Hf,ρ,os,rel,rf,(WR.bind (k:=⟨_⟩) w).mono ?_⟩
 rintro ι1 Hf1 H1 os1 ⟨ds,xs⟩ x1 r1 q J hJ
 obtain ⟨hz,q⟩:=WR.gd q
 let f:Kt D (Option D):=⟨fun x os2=>I.eW (I.jg (k:=⟨fun τ os3=>(I.evC P KO cd τ os3).bind (k:=⟨fun b os4=>I.eh (a:=⟨fun os5=>(I.ev P KO el τ os5).bind (k:=⟨fun y os6=>.ok (some y) os6⟩)⟩) (b:=⟨fun os5=>.ok none os5⟩) b os4⟩)⟩) os2 (I.aF t x (I.fW ρ nl fr)))⟩
 have q0:WR G E ι1 Hf1 (I.cz (f:=f) (I.aX os1 ds) xs os1) (fun ι' Hf' _ os' ys=>WR G E ι' Hf' (.ok (D.lst ys) os') (fun ι' Hf' H' _ d=>∃ xs,d=.lst xs/\∀ vs,Rps G ι' Hf' vs xs->vs.length<=sizeLine->fin vs H')):=WR.bind (k:=⟨_⟩) q
 refine ⟨fun i m τ vs H=>m=xs.length - i/\∃ ι Hf os done,Ext ι1 Hf1 ι Hf/\Rel G ι Hf H os/\Rf G ι Hf τ (I.fW ρ nl fr)/\i<=xs.length/\Rps G ι Hf vs done/\vs.length<=i /\
  WR G E ι Hf (I.cz (f:=f) (I.aX os1 ds) (xs.drop i) os) (fun ι' Hf' _ os' ys=>WR G E ι' Hf' (.ok (D.lst (done++ys)) os') (fun ι' Hf' H' _ d=>∃ xs,d=.lst xs/\∀ vs,Rps G ι' Hf' vs xs->vs.length<=sizeLine->fin vs H')),
  ⟨xs.length,rfl,ι1,Hf1,os1,[],.refl,r1,(rf.ext x1).fW nl fr,Nat.zero_le _,.nil,Nat.zero_le _,q0⟩,?_⟩
 rintro i m τ vs H2 ⟨rfl,ι2,Hf2,os2,done,x2,r2,f2,hi2,hvs,hvl,w2⟩
 have hsz:vs.length<=sizeLine:=by
  rw [<-cF]
  have hz':xs.length<=SZ:=hz
  omega
 refine ⟨hsz,?_⟩
 cases e:xs[i]? with
 | none =>
  have hil:i=xs.length:=by have:=List.getElem?_eq_none_iff.mp e; omega
  rw [List.drop_of_length_le (by omega)] at w2
  unfold I.cz at w2
  split at w2
  ·rename_i lv
   refine .inl ⟨(hJ i ι2 Hf2 H2 os2 x2 r2 lv).2 e hil,?_⟩
   obtain ⟨ys,ey,q2⟩:=(w2.now r2).now r2
   cases ey
   exact q2 vs (by rw [List.append_nil]; exact hvs) hsz
  ·exact False.elim w2
 | some x =>
  have hil:i<xs.length:=(List.getElem?_eq_some_iff.mp e).1
  have ed:xs.drop i=x::xs.drop (i+1):=by
   rw [List.drop_eq_getElem_cons hil]
   rw [List.getElem?_eq_getElem hil] at e
   rw [Option.some.inj e]
  rw [ed] at w2
  unfold I.cz at w2
  split at w2
  ·rename_i lv
   obtain ⟨go,yl⟩:=(hJ i ι2 Hf2 H2 os2 x2 r2 lv).1 x e
   refine .inr ⟨go,fun v H3 y => ?_⟩
   obtain ⟨Hf3,x3,r3,hv⟩:=yl v H3 y
   have w3:=WR.eW (WR.bind (k:=⟨_⟩) (w2.ext x3))
   have w3':WR G E0 ι2 Hf3 (I.jg (k:=⟨fun τ os3=>(I.evC P KO cd τ os3).bind (k:=⟨fun b os4=>I.eh (a:=⟨fun os5=>(I.ev P KO el τ os5).bind (k:=⟨fun y os6=>.ok (some y) os6⟩)⟩) (b:=⟨fun os5=>.ok none os5⟩) b os4⟩)⟩) os2 (I.aF t x (I.fW ρ nl fr))) _:=w3
   cases eb:I.aF t x (I.fW ρ nl fr) with
   | none=>rw [eb] at w3'; exact False.elim w3'
   | some ρ3 =>
    rw [eb] at w3'
    obtain ⟨ρ4,e4,l4⟩:=pR (fr:=fr.map fun j=>I.lk ρ j) (ρ:=List.replicate nl none) (by rw [List.length_replicate]; exact ht) eb
    have back:∀ {ι Hf τ},Rf G ι Hf τ ρ3->Rf G ι Hf τ (I.fW ρ nl fr):=fun {ι Hf τ} h=>by
     rw [e4] at h
     exact Rf.forget h (by rw [l4,List.length_replicate])
    refine ⟨ι2,Hf3,I.fW ρ nl fr,os2,x,r3,f2.ext x3,hv,ρ3,eb,fun τ3 f3=>⟨ι2,Hf3,ρ3,os2,r3,f3,?_⟩⟩
    refine WR.mono (WR.bind (k:=⟨_⟩) (show WR G E0 ι2 Hf3 (I.R.bind (I.evC P KO cd ρ3 os2) (k:=⟨_⟩)) _ from w3')) ?_
    intro ι4 Hf4 H4 os4 k x4 r4 q4
    cases k with
    | true =>
     rw [if_pos rfl]
     refine ⟨ι4,Hf4,ρ3,os4,r4,f3.ext x4,?_⟩
     refine WR.mono (WR.bind (k:=⟨_⟩) (show WR G E0 ι4 Hf4 (I.R.bind (I.ev P KO el ρ3 os4) (k:=⟨_⟩)) _ from q4)) ?_
     intro ι5 Hf5 H5 os5 dy x5 r5 q5 y hy
     have x25:=x3.trans (x4.trans x5)
     have q6:WR G E ι5 Hf5 (@I.R.bind _ _ (I.cz (f:=f) (I.aX os1 ds) (xs.drop (i+1)) os5) ⟨fun ys os2=>.ok (I.qt (some dy) ys) os2⟩) _:=q5.now r5
     refine ⟨xs.length - (i+1),by omega,rfl,ι5,Hf5,os5,done++[dy],x2.trans x25,r5,back (f3.ext (x4.trans x5)),hil,(hvs.ext x25).app (.cons hy .nil),by rw [List.length_append]; exact Nat.succ_le_succ hvl,?_⟩
     refine WR.mono (WR.bind (k:=⟨_⟩) q6) ?_
     intro ι6 Hf6 H6 os6 ys x6 r6 q7
     have q8:=q7.now r6
     rw [List.append_assoc]
     exact q8
    | false =>
     rw [if_neg (by decide)]
     have x24:=x3.trans x4
     have q5:WR G E ι4 Hf4 (@I.R.bind _ _ (I.cz (f:=f) (I.aX os1 ds) (xs.drop (i+1)) os4) ⟨fun ys os2=>.ok (I.qt none ys) os2⟩) _:=WR.now (show WR G E0 ι4 Hf4 (.ok none os4) _ from q4) r4
     refine ⟨xs.length - (i+1),by omega,rfl,ι4,Hf4,os4,done,x2.trans x24,r4,back (f3.ext x4),hil,hvs.ext x24,by omega,?_⟩
     refine WR.mono (WR.bind (k:=⟨_⟩) q5) ?_
     intro ι6 Hf6 H6 os6 ys x6 r6 q7
     exact q7.now r6
  ·exact False.elim w2
end
end IS
namespace IS
open PySem PySem.Spec L2
open PyProof.Rows hiding St
open I (D Cell OS Fr R SZ Kt Ko)
section
variable {G:GI} {E:XK} {P:I.Pg} {KO:I.Orc} {W:Nat} {X:Cx} {e a b c d l o i value:Expr} {ea eb ec ed:I.E} {p pos pos':Pos} {tg iter:Expr}
theorem PTs.weak {ifs:List Expr} {t t':TT} (h:PTs X ifs t) (m:∀ σ H Q,t' σ H Q->t σ H Q):PTs X ifs t':=fun pins s σ H Q I hw=>h pins s σ H Q I (m σ H Q hw)
theorem yP:PTs X [] (TCo G E P KO .tt):=PTs.weak uU fun σ H Q ⟨ι,Hf,ρ,os,rel,rf,w⟩=>w.now rel
theorem xG {cc:I.C} (h:PT X c (TCo G E P KO cc)):PTs X [c] (TCo G E P KO cc):=tX h
theorem uJ {elt:Expr} {ifs:List Expr} {scope:Scope} {N':List Str} {nl:Nat} {fr:List Nat} {t:I.Tg} {it:I.It} {cd:I.C} {el:I.E} (hK:di X.env.scope X.N scope N' nl fr) (hc:X.calm=true) (hi:PI X tg iter (TIr G E P KO it))
  (hg:∀ fp s2 H2 C,PG (X.comp scope N' fp s2 H2 C) tg (TTg G t)) (ht:∀ fp s2 H2 C,PTs (X.comp scope N' fp s2 H2 C) ifs (TCo G E0 P KO cd)) (he:∀ fp s2 H2 C,PE (X.comp scope N' fp s2 H2 C) elt (T G E0 P KO el)) (hs:∀ x,foldedSetIterable iter X.env x=pure x)
  (htl:gb nl t=true):PE X (.ListComp elt [⟨tg,iter,ifs,0⟩] scope pos) (TF G E P KO (.comp nl fr t it cd el)) :=
 PE.weak (um hK hc hi hg ht he hs rfl rfl) fun σ H Q ⟨ι,Hf,ρ,os,rel,rf,w⟩=>sg htl ⟨ι,Hf,ρ,os,rel,rf,w.mono fun ι' Hf' H' os' d x r ⟨xs,e,q⟩=>⟨xs,e,fun vs h1 h2 p hp=>q vs p h1 h2 hp⟩⟩
theorem nY {nl:Nat} {fr:List Nat} {t:I.Tg} {it:I.It} {cd:I.C} {el:I.E} (ρ:Fr) (os:OS) (d:D) (os':OS) (h:I.ev P KO (.comp nl fr t it cd el) ρ os=.ok d os'):∃ xs,d=.lst xs:=by
 obtain ⟨xs,os1,_,h2⟩:=bind_some (f:=_) h
 unfold I.R.gd at h2
 split at h2
 ·obtain ⟨ys,os2,_,h3⟩:=bind_some (f:=_) h2
  cases h3
  exact ⟨_,rfl⟩
 ·cases h2
theorem wx {k:Nat} {D:Ends} {σ:St} {H:Hp} (h:TSt G E P KO W (.set k ea) D σ H):T G E P KO ea σ H (fun v H'=>D.nx (σ.set k (some v)) H'):=by
 obtain ⟨ι,Hf,ρ,os,rel,rf,w⟩:=h
 exact T.use rel rf (WR.bind (k:=⟨_⟩) w) fun ι1 Hf1 H1 os1 d v x1 r1 f1 hv q=>q.now r1 _ (f1.st hv k)
theorem wY {k:Nat} {x:Str} (hN:X.N.Nodup) (hi:X.N[k]?=some x) (hx:Loc X.env.scope x) (he:PE X e (T G E P KO ea)) (hs:swapsWith e (some (.Name x pos')) pos.line X.env=pure false) (hf:X.fn x=true\/X.env.scope.names.lookup x=some .local) :
  PS X (.Assign [.Name x pos'] e pos) (TSt G E P KO W (.set k ea)):=PS.weak (rY hN hi hx he hs hf) fun D σ H h=>wx h
theorem tj {k:Nat} {y:Str} {spos:Pos} {elt:Expr} {ifs:List Expr} {scope:Scope} {N':List Str} {nl:Nat} {fr:List Nat} {t:I.Tg} {it:I.It} {cd:I.C} {el ea:I.E} (hN:X.N.Nodup) (hy:X.N[k]?=some y) (hl:Loc X.env.scope y)
  (hK:di X.env.scope X.N scope N' nl fr) (hc:X.calm=true) (hi:PI X tg iter (TIr G E P KO it))
  (hg:∀ fp s2 H2 C,PG (X.comp scope N' fp s2 H2 C) tg (TTg G t)) (ht:∀ fp s2 H2 C,PTs (X.comp scope N' fp s2 H2 C) ifs (TCo G E0 P KO cd)) (he:∀ fp s2 H2 C,PE (X.comp scope N' fp s2 H2 C) elt (T G E0 P KO el)) (hs:∀ x,foldedSetIterable iter X.env x=pure x)
  (htl:gb nl t=true) (hsw:swapsWith (.ListComp elt [⟨tg,iter,ifs,0⟩] scope pos) (some (.Name y pos')) spos.line X.env=pure true) (hf:X.fn y=true\/X.env.scope.names.lookup y=some .local)
  (hea:∀ σ H Q,T G E P KO ea σ H Q->TF G E P KO (.comp nl fr t it cd el) σ H Q) :
  PS X (.Assign [.Name y pos'] (.ListComp elt [⟨tg,iter,ifs,0⟩] scope pos) spos) (TSt G E P KO W (.set k ea)) :=
 PS.weak (uY hN hy hl hK hc hi hg ht he hsw hf hs rfl rfl) fun D σ H h=>by
  obtain ⟨ι,Hf,ρ,os,rel,rf,w⟩:=hea _ _ _ (wx h)
  exact sg htl ⟨ι,Hf,ρ,os,rel,rf,w.mono fun ι' Hf' H' os' d x r ⟨xs,e,q⟩=>⟨xs,e,fun vs h1 h2 p hp=>q vs p h1 h2 hp⟩⟩
theorem xw {is:List Nat} {tg:Expr} (he:PE X e (T G E P KO ea)) (hg:PG X tg (TTg G (.tup is))) (hs:swapsWithSole [tg] e pos.line X.env=pure false) (hw:swappedStores [tg] e X.env=pure none) (h1:(assignEach [tg] X.env).map (·.2)=[assign tg X.env]) :
  PS X (.Assign [tg] e pos) (TSt G E P KO W (.tset is ea)) :=
 PS.weak (rT he hg hs hw h1) fun D σ H ⟨ι,Hf,ρ,os,rel,rf,w⟩=>T.use rel rf (WR.bind (k:=⟨_⟩) w) fun ι1 Hf1 H1 os1 d v x1 r1 f1 hv q=>by
  have q':WR G E ι1 Hf1 (I.nxO os1 (I.aF (.tup is) d ρ)) (WS G D):=q
  cases e:I.aF (.tup is) d ρ with
  | none=>rw [e] at q'; exact False.elim q'
  | some ρ'=>rw [e] at q'; exact ⟨ι1,Hf1,ρ,os1,d,r1,f1,hv,ρ',e,q'.now r1⟩
noncomputable def wa:uO:=fun o i v H Q=>wJ o i v H Q\/∃ a H',o=.ref a/\jH H a i v H'/\Q H'
theorem ua (hu:X.A.units+1<cLine):yt X wa:=by
 intro pins s σ H o i v ov iv u Q I ro ri rv h
 rcases h with h | ⟨a,H',rfl,g,q⟩
 ·exact set_list pins s σ H o i v ov iv u Q I ro ri rv h
 ·cases ro
  exact oU hu I g ri rv fun s' I'=>⟨H',I',q⟩
theorem CO {ι:List Addr} {Hf H:Hp} {os:OS} {o i v:V} {dd k d:D} {Q:Hp->Prop} (rel:Rel G ι Hf H os) (ho:Rp G ι Hf o dd) (hi:Rp G ι Hf i k) (hv:Rp G ι Hf v d)
  (w:WR G E ι Hf (I.iW dd k d os) (fun ι' Hf' H' _ _=>Q H')):wa o i v H Q:=by
 cases ho with
 | @cel a n h =>
  have w':WR G E ι Hf (I.setC n d os (I.aa os n) k) (fun ι' Hf' H' _ _=>Q H'):=w
  cases e:I.aa os n with
  | none=>rw [e] at w'; exact False.elim w'
  | some c =>
   rw [e] at w'
   cases c with
   | lst xs =>
    cases hi with
    | int j =>
     have w2:WR G E ι Hf (I.vR n xs d os (I.aO xs.length j)) (fun ι' Hf' H' _ _=>Q H'):=w'
     cases e2:I.aO xs.length j with
     | none=>rw [e2] at w2; exact False.elim w2
     | some m =>
      rw [e2] at w2
      obtain ⟨a',vs,h1,h2,h3,h4,z,h5⟩:=rel.asC (.cel h) e
      cases h1
      refine .inl ⟨_,vs,j,m,rfl,rfl,h4,by rw [qk,h5.len]; exact e2,?_⟩
      have rr:=rel.kW e h (o:=.lst (vs.set m v)) (c':=.lst (xs.set m d)) ⟨_,ak,by rw [List.length_set]; exact z,h5.set hv m⟩
      exact w2 ι Hf _ .refl rr
    | _=>exact False.elim w'
   | dct t kvs =>
    have w2:WR G E ι Hf (.gd (I.keyOk t k=true/\kvs.length<SZ) (.ok () (os.set n (some (.dct t (I.et k d kvs)))))) (fun ι' Hf' H' _ _=>Q H'):=by cases hi <;> exact w'
    obtain ⟨⟨hk,hl⟩,w2⟩:=WR.gd w2
    obtain ⟨a',H',h1,h2,g,rr⟩:=rel.dput (.cel h) e hi hk hv hl
    cases h1
    exact .inr ⟨_,H',rfl,g,w2 ι Hf H' .refl rr⟩
   | ins _ _=>exact False.elim (by cases hi <;> exact w')
   | tab _=>exact False.elim (by cases hi <;> exact w')
 | _=>exact False.elim w
theorem uA (hu:X.A.units+1<cLine) (he:PE X e (T G E P KO ec)) (ho:PE X o (T G E P KO ea)) (hi:PE X i (T G E P KO eb)) (ha:∀ v,assign (.Subscript o i pos') X.env v=(do
   let ov <-holding [v] (eval o X.env)
   let iv <-holding [v,ov] (eval i X.env)
   standAt pos'
   holding [v,ov,iv] (setItem ov iv v)
   release [v,ov,iv] [])) (hs:swapsWithSole [.Subscript o i pos'] e pos.line X.env=pure false) (hw:swappedStores [.Subscript o i pos'] e X.env=pure none) (h1:(assignEach [.Subscript o i pos'] X.env).map (·.2)=[assign (.Subscript o i pos') X.env]) :
  PS X (.Assign [.Subscript o i pos'] e pos) (TSt G E P KO W (.setix ea eb ec)) :=
 PS.weak (rT he (yj ho hi (ua hu) ha) hs hw h1) fun D σ H ⟨ι,Hf,ρ,os,rel,rf,w⟩ =>
  T.use rel rf (WR.bind (k:=⟨_⟩) w) fun ι1 Hf1 H1 os1 d v x1 r1 f1 hv q =>
   T.use r1 f1 (WR.bind (k:=⟨_⟩) q) fun ι2 Hf2 H2 os2 dd vo x2 r2 f2 hvo q2 =>
    T.use r2 f2 (WR.bind (k:=⟨_⟩) q2) fun ι3 Hf3 H3 os3 kk vk x3 r3 f3 hvk q3 =>
     CO r3 (hvo.ext x3) hvk (hv.ext (x2.trans x3)) ((WR.bind (k:=⟨_⟩) q3).mono fun ι4 Hf4 H4 os4 _ x4 r4 q4=>q4.now r4 σ (f3.ext x4))
theorem Fn (he:PE X e (T G E P KO ea)) (hs:swapsWith e none pos.line X.env=pure false):PS X (.Expr e pos) (TSt G E P KO W (.ex ea)) :=
 PS.weak (vL he hs) fun D σ H ⟨ι,Hf,ρ,os,rel,rf,w⟩=>T.use rel rf (WR.bind (k:=⟨_⟩) w) fun ι1 Hf1 H1 os1 d v x1 r1 f1 hv q=>q.now r1 σ f1
theorem Ck (he:PE X e (T G E P KO ea)):PS X (.Return (some e) pos) (TSt G E P KO W (.ret ea)) :=
 PS.weak (rH he) fun D σ H ⟨ι,Hf,ρ,os,rel,rf,w⟩=>T.use rel rf (WR.bind (k:=⟨_⟩) w) fun ι1 Hf1 H1 os1 d v x1 r1 f1 hv q=>q.now r1 v hv
theorem D2 {cc:I.C} {sa sb:List Stmt} {ta tb:I.Ss} (hc:PT X c (TCo G E P KO cc)) (ha:PSs X sa (fm G E P KO W ta)) (hb:PSs X sb (fm G E P KO W tb)):PS X (.If c sa sb pos) (TSt G E P KO W (.ite cc ta tb)) :=
 PS.weak (vZ hc ha hb) fun D σ H ⟨ι,Hf,ρ,os,rel,rf,w⟩=>TCo.use rel rf (WR.bind (k:=⟨_⟩) w) fun ι1 Hf1 H1 os1 k x1 r1 f1 q=>by
  cases k with
  | true=>rw [if_pos rfl]; exact ⟨ι1,Hf1,ρ,os1,r1,f1,q⟩
  | false=>rw [if_neg (by decide)]; exact ⟨ι1,Hf1,ρ,os1,r1,f1,q⟩
theorem yX:PSs X [] (fm G E P KO W .nil):=PSs.weak vw fun D σ H ⟨ι,Hf,ρ,os,rel,rf,w⟩=>w.now rel σ rf
theorem uR {s:Stmt} {r:List Stmt} {ts:I.S} {tr:I.Ss} (h1:PS X s (TSt G E P KO W ts)) (h2:PSs X r (fm G E P KO W tr)):PSs X (s::r) (fm G E P KO W (.cons ts tr)) :=
 PSs.weak (tD h1 h2) fun D σ H ⟨ι,Hf,ρ,os,rel,rf,w⟩=>by
  refine ⟨ι,Hf,ρ,os,rel,rf,(WR.bind (k:=⟨_⟩) w).mono ?_⟩
  rintro ι1 Hf1 H1 os1 ⟨f,ρ1⟩ x1 r1 q
  cases f with
  | nx=>exact fun σ1 f1=>⟨ι1,Hf1,ρ1,os1,r1,f1,q⟩
  | rt d=>exact q.now r1
  | bk=>exact q.now r1
  | ct=>exact q.now r1
theorem uM {cc:I.C} {body:List Stmt} {tb:I.Ss} (hp:PassesOwn (model X.prog X.w) X.A X.env X.xe) (hc:PT X c (TCo G E P KO cc)) (hb:PSs X body (fm G E P KO W tb)):PS X (.While c body [] pos) (TSt G E P KO W (.wh cc tb)) :=
 PS.weak (qA hp hc hb) fun D σ H ⟨ι,Hf,ρ,os,rel,rf,w⟩=>by
  refine ⟨fun m σ H=>∃ ι Hf ρ os,Rel G ι Hf H os/\Rf G ι Hf σ ρ/\WR G E ι Hf (I.whL (c:=⟨fun ρ os=>I.evC P KO cc ρ os⟩) (body:=⟨fun ρ os=>I.execs P KO W tb ρ os⟩) m ρ os) (WS G D),⟨W,ι,Hf,ρ,os,rel,rf,w⟩,?_⟩
  rintro m σ2 H2 ⟨ι2,Hf2,ρ2,os2,r2,f2,w2⟩
  cases m with
  | zero=>exact False.elim w2
  | succ m =>
   refine TCo.use r2 f2 (WR.bind (k:=⟨_⟩) w2) fun ι3 Hf3 H3 os3 k x3 r3 f3 q => ?_
   cases k with
   | false=>rw [if_neg (by decide)]; exact WR.now (show WR G E ι3 Hf3 (.ok (.nx,ρ2) os3) (WS G D) from q) r3 σ2 f3
   | true =>
    rw [if_pos rfl]
    refine ⟨fun σ' H'=>∃ ι Hf ρ os,Rel G ι Hf H' os/\Rf G ι Hf σ' ρ/\WR G E ι Hf (I.whL (c:=⟨fun ρ os=>I.evC P KO cc ρ os⟩) (body:=⟨fun ρ os=>I.execs P KO W tb ρ os⟩) m ρ os) (WS G D),fun σ' H' h=>⟨m,Nat.lt_succ_self _,h⟩,ι3,Hf3,ρ2,os3,r3,f3,?_⟩
    refine WR.mono (WR.bind (k:=⟨_⟩) (show WR G E ι3 Hf3 (I.R.bind (I.execs P KO W tb ρ2 os3) (k:=⟨_⟩)) (WS G D) from q)) ?_
    rintro ι4 Hf4 H4 os4 ⟨f,ρ4⟩ x4 r4 q4
    cases f with
    | nx=>exact fun σ4 f4=>⟨ι4,Hf4,ρ4,os4,r4,f4,q4⟩
    | ct=>exact fun σ4 f4=>⟨ι4,Hf4,ρ4,os4,r4,f4,q4⟩
    | bk=>exact q4.now r4
    | rt d=>exact q4.now r4
noncomputable def spF (G:GI) (P:I.Pg) (W k f np:Nat):Sp:=fun vs H Q E=>vs.length=np/\∃ ι Hf os ds,Rel G ι Hf H os/\Rps G ι Hf vs ds/\WR G E ι Hf (I.call P W k f ds os) (fun ι' Hf' H' _ d=>∀ v,Rp G ι' Hf' v d->Q v H')
theorem WR.aS {ι:List Addr} {Hf H:Hp} {os:OS} {r:R D} {Q:VK} (rel:Rel G ι Hf H os) (w:WR G E ι Hf (I.aS os r) (fun ι' Hf' H' _ d=>∀ v,Rp G ι' Hf' v d->Q v H')):WR G E ι Hf r (fun ι' Hf' H' _ d=>∀ v,Rp G ι' Hf' v d->Q v H'):=by
 cases r with
 | stk=>exact w
 | ok d os' =>
  rw [I.aS] at w
  split at w
  ·rename_i hh
   intro ι' Hf' H' x r' v hv
   exact w ι Hf' H' ⟨List.prefix_refl _,x.sub⟩ (rel.trunc x r' hh.1) v (hv.gq x.pre (by rw [rel.len]; exact hh.2))
  ·exact False.elim w
 | exc c p os' =>
  rw [I.aS] at w
  split at w
  ·rename_i hh
   intro ι' Hf' H' x r'
   exact w ι Hf' H' ⟨List.prefix_refl _,x.sub⟩ (rel.trunc x r' hh)
  ·exact False.elim w
theorem zj {k f np:Nat} {as:I.Es} (hn:ay as=np) (σ:St) (H:Hp) (Q:VK) (h:T G E P (I.call P W k) (.call f as) σ H Q):jt (spF G P W k f np) [] E (Ts G E P (I.call P W k) as) σ H Q:=by
 obtain ⟨ι,Hf,ρ,os,rel,rf,w⟩:=h
 exact Ts.use rel rf (WR.dJ (WR.bind (k:=⟨_⟩) w)) fun ι1 Hf1 H1 os1 ds vs x1 r1 f1 hvs ⟨hl,q⟩=>by
  rw [List.append_nil]
  exact ⟨by rw [hvs.len,hl,hn],ι1,Hf1,os1,ds,r1,hvs,q⟩
theorem ve {k f np:Nat} {as:I.Es} (hn:ay as=np) (σ:St) (H:Hp) (Q:VK) (h:T G E P (I.call P W k) (.callP f as) σ H Q):jt (spF G P W k f np) [] E (Ts G E P (I.call P W k) as) σ H Q:=by
 obtain ⟨ι,Hf,ρ,os,rel,rf,w⟩:=h
 exact Ts.use rel rf (WR.dJ (WR.bind (k:=⟨_⟩) w)) fun ι1 Hf1 H1 os1 ds vs x1 r1 f1 hvs ⟨hl,q⟩=>by
  rw [List.append_nil]
  exact ⟨by rw [hvs.len,hl,hn],ι1,Hf1,os1,ds,r1,hvs,WR.aS r1 q⟩
end
end IS
namespace PySem
section
variable {prog:Program} {w:World} {K:Type} [DecidableEq K] {knd:HeapKind prog w K} {A:Around} {E:Value->Shared->Prop} {s:Shared} {d a:Addr} {k:K} {xs:List (K × Addr × Value)}
end
end PySem
namespace L2
open PySem PySem.Spec PyProof.Rows
section
variable {X:Cx} {pins:List (Addr × Obj)} {σ:St} {H:Hp} {s:Shared} {a:Addr} {y v:V} {u r:Value} {A:Around} {E:Value->Shared->Prop}
end
end L2
namespace IS
open PySem PySem.Spec L2
open PyProof.Rows hiding St
open I (D Cell OS Fr R SZ Kt Ko)
section
variable {G:GI} {E:XK} {P:I.Pg} {KO:I.Orc} {W:Nat} {X:Cx} {a b c:Expr} {ea eb ec:I.E} {p pos:Pos}
theorem vE {x:Str} {cn:Nat} {as:I.Es} {e₀:Expr} {es:List Expr} {np cpos:Pos} {bmB:List Value} {Bn newId initId:String} (hT:Thr X E) (hc:X.calm=true) (hK:X.K=G.K) (FB:ExcBaseFacts Bn newId initId bmB) (hX:PySem.W.excIn G.K (G.CA cn) bmB newId=true) (hm:X.mg x=some (.ref (G.CA cn)))
  (ha:PA X (e₀::es) (Ts G E P KO as)) (hg:Gl X x) (he:starEach (e₀::es) X.env=(false,eval e₀ X.env)::starEach es X.env) (hplain:(backTo cpos (starEach es X.env)).any (·.1)=false) (hd:(x == ("__debug__" : Str))=false) (hl:ay as<=1000) :
  PS X (.Raise (some (.Call (.Name x np) (e₀::es) [] cpos)) none pos) (TSt G E P KO W (.raise cn as)) :=
 PS.weak (qh hT hc FB (hK ▸ hX) hm ha hg he hplain hd) fun D σ H ⟨ι,Hf,ρ,os,rel,rf,w⟩ =>
  Ts.use rel rf (WR.dJ (WR.bind (k:=⟨_⟩) w)) fun ι1 Hf1 H1 os1 ds vs x1 r1 f1 hvs ⟨hn,q⟩ =>
   ⟨by rw [hvs.len,hn]; exact Nat.le_of_lt (fL hl),q ι1 Hf1 H1 .refl r1⟩
end
end IS
namespace L2
open PySem PySem.Spec PyProof.Rows
section
variable {prog:Program} {w:World} {A:Around} {R:Result->Shared->Prop} {I:Addr} {fp wr:List Addr} {n:Nat} {P:Nat->Value->Prop} {St:Nat->Heap->Prop}
end
section
variable {prog:Program} {w:World} {A:Around} {E:Value->Shared->Prop} {s:Shared}
end
end L2
namespace L2
open PySem PySem.Spec PyProof.Rows
section
variable {X:Cx}
theorem eU:∀ {ns:List Int} {its:List Value},Vals (ns.map V.int) its->IntsAre its ns
 | [],_,.nil=>.nil
 | n::ns,_,.cons h r=>by
  obtain ⟨t,rfl⟩:=(show ∃ t,_=Value.int n t from h)
  exact .cons n t (eU r)
end
end L2
namespace IS
open PySem PySem.Spec L2
open PyProof.Rows hiding St
open I (D Cell OS Fr R SZ Kt Ko)
section
variable {G:GI} {E:XK} {P:I.Pg} {KO:I.Orc} {W:Nat} {X:Cx}
theorem Rel.BM {ι:List Addr} {Hf H:Hp} {os:OS} {x:V} {d:D} {xs:List D} (rel:Rel G ι Hf H os) (hx:Rp G ι Hf x d) (hd:I.aA os d=some xs) :
  ∃ a vs,x=.ref a/\SqL G.K H a vs/\vs.length<=sizeLine/\Rps G ι Hf vs xs:=by
 obtain ⟨a,rfl,h⟩:=qS rel hx hd
 obtain ⟨vs,h1,h2,h3⟩:=h ι Hf H os .refl rel (aH _)
 exact ⟨a,vs,rfl,h1,h2,h3⟩
theorem Rel.lr {ι:List Addr} {Hf H:Hp} {os:OS} {x:V} {d:D} {ns:List Int} (rel:Rel G ι Hf H os) (hx:Rp G ι Hf x d) (h:(I.aA os d).bind I.aw=some ns):∃ a,x=.ref a/\SqL G.K H a (ns.map V.int):=by
 cases e:I.aA os d with
 | none=>rw [e] at h; cases h
 | some xs =>
  rw [e] at h
  obtain ⟨a,vs,rfl,h1,_,h3⟩:=rel.BM hx e
  rw [df (show I.aw xs=some ns from h)] at h3
  exact ⟨a,rfl,h3.ints ▸ h1⟩
theorem v_sum:VRs G E .sum (fun xs H Q=>∃ (a:Addr) (ns:List Int),xs=[.ref a]/\SqL G.K H a (ns.map V.int)/\Q (.int ns.sum) H):=by
 intro ι Hf H os xs ds Q rel hx w
 cases hx with
 | nil=>exact False.elim w
 | cons hx r =>
  cases r with
  | cons _ _=>exact False.elim w
  | nil =>
   rename_i x d
   have w':WR G E ι Hf (match (I.aA os d).bind I.aw with | some ns=>R.ok (D.int ns.sum) os | none=>R.stk) (fun ι' Hf' H' _ d=>∀ v,Rp G ι' Hf' v d->Q v H'):=w
   cases e:(I.aA os d).bind I.aw with
   | none=>rw [e] at w'; exact False.elim w'
   | some ns =>
    rw [e] at w'
    obtain ⟨a,rfl,hq⟩:=rel.lr hx e
    exact ⟨a,ns,rfl,hq,w'.now rel _ (.int _)⟩
theorem nK:VRm G E .index (fun x vs H Q=>∃ (l:Addr) (ns:List Int) (z:Int) (j:Nat),x=.ref l/\vs=[.int z]/\H l=some (.lst (ns.map V.int))/\ns[j]?=some z/\(∀ m,m<j->ns[m]?≠some z)/\Q (.int (j:Int)) H):=by
 intro ι Hf H os x xs d ds Q rel hx hxs w
 cases hxs with
 | nil=>exact False.elim w
 | cons hy r =>
  cases r with
  | cons _ _=>exact False.elim (by cases hy <;> exact w)
  | nil =>
   cases hy with
   | int k =>
    have w':WR G E ι Hf (match I.aj os d with | .lst xs=>R.ofO ((I.aw xs).bind fun ns=>(ns.findIdx? fun z=>decide (z=k)).map fun j=>D.int (j:Nat)) os | _=>R.stk) (fun ι' Hf' H' _ d=>∀ v,Rp G ι' Hf' v d->Q v H'):=w
    cases e:I.aj os d with
    | lst ys =>
     rw [e] at w'
     obtain ⟨d',e',w'⟩:=WR.ofO w'
     cases e2:I.aw ys with
     | none=>rw [e2] at e'; cases e'
     | some ns =>
      rw [e2] at e'
      cases e3:ns.findIdx? (fun z=>decide (z=k)) with
      | none=>rw [show ((some ns).bind fun ns=>(ns.findIdx? fun z=>decide (z=k)).map fun j=>D.int (j:Nat))=(ns.findIdx? fun z=>decide (z=k)).map fun j=>D.int (j:Nat) from rfl,e3] at e'; cases e'
      | some j =>
       rw [show ((some ns).bind fun ns=>(ns.findIdx? fun z=>decide (z=k)).map fun j=>D.int (j:Nat))=(ns.findIdx? fun z=>decide (z=k)).map fun j=>D.int (j:Nat) from rfl,e3] at e'
       cases e'
       obtain ⟨a,vs,rfl,h1,z,h2⟩:=rel.asL hx e
       rw [df e2] at h2
       obtain ⟨hj,g1,g2⟩:=List.findIdx?_eq_some_iff_getElem.mp e3
       refine ⟨a,ns,k,j,rfl,rfl,h2.ints ▸ h1,?_,fun m hm => ?_,w'.now rel _ (.int _)⟩
       ·rw [List.getElem?_eq_getElem hj,of_decide_eq_true g1]
       ·have:=g2 m hm
        rw [List.getElem?_eq_getElem (by omega)]
        intro h
        exact this (decide_eq_true (Option.some.inj h))
    | _=>rw [e] at w'; exact False.elim w'
   | _=>exact False.elim w
end
end IS
namespace L2
open PySem PySem.Spec PyProof.Rows
section
variable {X:Cx} {o:Expr} {ta:TE} {t:TA} {m:Str} {apos pos:Pos}
end
end L2
namespace IS
open PySem PySem.Spec L2
open PyProof.Rows hiding St
open I (D Cell OS Fr R SZ Kt Ko)
section
variable {G:GI} {E:XK} {P:I.Pg} {W:Nat} {X:Cx}
end
end IS
namespace IS
open PySem PySem.Spec L2
open PyProof.Rows hiding St
open I (D Cell OS Fr R SZ Kt Ko)
section
variable {G:GI} {E:XK} {P:I.Pg} {KO:I.Orc} {W:Nat} {X:Cx} {a b c d:Expr} {ea eb ec ed:I.E} {p pos:Pos}
theorem in_of {ι:List Addr} {Hf H:Hp} {os:OS} {x y:V} {dx dy:D} {k:Bool} (rel:Rel G ι Hf H os) (hx:Rp G ι Hf x dx) (hy:Rp G ι Hf y dy) (h:((I.items os dy).bind fun xs=>I.isIn dx xs)=some k) :
  ∃ p xs,y=.ref p/\(SqL G.K H p xs\/SqT G.K H p xs)/\dP x=true/\xs.all dP=true/\inV x xs=k:=by
 cases e:I.items os dy with
 | none=>rw [e] at h; cases h
 | some xs =>
  rw [e] at h
  have h:I.isIn dx xs=some k:=h
  cases hx with
  | int i =>
   have h':(I.aw xs).map (fun ns=>decide (i∈ns))=some k:=h
   cases e2:I.aw xs with
   | none=>rw [e2] at h'; cases h'
   | some ns =>
    rw [e2] at h'
    cases h'
    obtain ⟨a,vs,rfl,h1,_,h3⟩:=rel.asI hy e
    rw [df e2] at h3
    have ev:=h3.ints
    subst ev
    refine ⟨a,ns.map V.int,rfl,h1,rfl,?_,vP i ns⟩
    rw [List.all_eq_true]
    intro z hz
    obtain ⟨j,_,rfl⟩:=List.mem_map.mp hz
    rfl
  | _=>cases h
theorem EN:VR2 G E (.cmp .isIn) (rIn G.K false):=by
 intro ι Hf H os x y dx dy Q rel hx hy w
 obtain ⟨d,e,w⟩:=WR.ofO (show WR G E ι Hf (R.ofO (((I.items os dy).bind fun xs=>I.isIn dx xs).map D.bl) os) _ from w)
 obtain ⟨k,e1,rfl⟩:=Option.map_eq_some_iff.mp e
 obtain ⟨p,xs,h1,h2,h3,h4,h5⟩:=in_of rel hx hy e1
 subst h5
 exact ⟨p,xs,h1,h2,h3,h4,w.now rel (.bl _) (.bl _)⟩
theorem uI:VR2 G E (.cmp .notIn) (rIn G.K true):=by
 intro ι Hf H os x y dx dy Q rel hx hy w
 obtain ⟨d,e,w⟩:=WR.ofO (show WR G E ι Hf (R.ofO (((I.items os dy).bind fun xs=>I.isIn dx xs).map fun x=>D.bl (!x)) os) _ from w)
 obtain ⟨k,e1,rfl⟩:=Option.map_eq_some_iff.mp e
 obtain ⟨p,xs,h1,h2,h3,h4,h5⟩:=in_of rel hx hy e1
 subst h5
 exact ⟨p,xs,h1,h2,h3,h4,w.now rel (.bl _) (.bl _)⟩
end
end IS
namespace IS
open PySem PySem.Spec PyProof.Rows L2
noncomputable def BMd (mg:Str->Option Value) (h:Heap):Prop:=∃ bm ob,mg "__builtins__" = some (.ref bm)/\bm≠builtinsNs/\h.get? bm=some ob/\ob.cls=.type "module"/\ob.dict=some builtinsNs/\ob.data=.plain
noncomputable def w9 (tabs:List (Addr × Addr)) (H:Hp):Prop:=∀ b,H b=none\/(∃ o xs,H b=some (.frz o (.lst xs)))\/(b∈tabs.map (·.2)/\H b=some (.tbl #[]))
theorem pA {P:Program} {w:World} {K:PySem.W.Frag} {mg mb:Str->Option Value} {CX:CXT} {k:Nat} {fa a:Addr} {fd:FuncData} {x:Str} {sp:Sp} {s₁:Shared} {vs:List Value} {ns:List Int} {tabs:List (Addr × Addr)}
  (KX:K.In s₁.heap) (hns:s₁.heap.Ns mainGlobals mg) (hb:s₁.heap.Ns builtinsNs mb) (hbb:∀ x:Str,x ≠ "__name__"->mb x=bootBuiltins x) (hlim:s₁.heap.NoLimit) (hg:s₁.gens = #[])
  (hB:BMd mg s₁.heap) (hT:PySem.W.TabsAt tabs s₁.heap) (hnt:PySem.W.noTabs K=true)
  (ha:s₁.heap.get? a=some { cls:=.type "list",data:=.seq vs.toArray }) (hi:IntsAre vs ns) (hl:ns.length<=sizeLine) (hr:bS k callerA)
  (F:∀ base:Heap,K.In base->base.Ns mainGlobals mg->BMd mg base->cV P w K mg base CX k fa fd [x] sp) (hbind:∀ (s:Shared) (u:Value),BindsTo s fd ⟨[u],[]⟩ [(x,u)])
  (hsp:∀ H:Hp,w9 tabs H->(∀ q∈tabs,H q.2=some (.tbl #[]))->SqL K H a (ns.map V.int)->sp [.ref a] H (fun v _=>v=.bl true) fun _ _ _=>False)
  (hCX:∀ H e s',CX [] H s₁ (fun _ _ _=>False) e s'->False) :
  codeAny (model P w) callerA (.call (.ref fa) ⟨[.ref a],[]⟩) (fun r s'=>r=.ok (.ret (.bool true))/\OldK s₁.heap s'.heap/\s'.os=s₁.os/\AllBare s'.gens) s₁:=by
 have rv:=fV hi
 have lenV:=hi.length
 have hTb:∀ {b:Addr},b∈tabs.map (·.2)->s₁.heap.get? b=some (PySem.W.tabObj #[])/\isCodeTable s₁.heap b:=fun {b} hb=>by
  obtain ⟨q,hq,rfl⟩:=List.mem_map.mp hb
  exact ⟨(hT q hq).2,((hT q hq).1.tab (hT q hq).2).isCodeTable⟩
 have core:∀ H:Hp,w9 tabs H->(∀ q∈tabs,H q.2=some (.tbl #[]))->SqL K H a (ns.map V.int)->HOk P w H s₁.heap->(∀ b,H b≠none->b=a\/b∈tabs.map (·.2))->(H a≠none->K.lookup a=none) ->
   codeAny (model P w) callerA (.call (.ref fa) ⟨[.ref a],[]⟩) (fun r s'=>r=.ok (.ret (.bool true))/\OldK s₁.heap s'.heap/\s'.os=s₁.os/\AllBare s'.gens) s₁:=by
  intro H hO hTt hS hok hA hK
  have aU:∀ {b:Addr} {o:Obj},s₁.heap.get? b=some o->H b=none->(eE s₁.heap H).get? b=some o:=fun e n=>kZ e n
  have free_of:∀ {b:Addr} {o:Obj},s₁.heap.get? b=some o->o.cls≠.none->(∀ xs n,o.data≠.seq xs n)->H b=none:=fun {b o} e c d=>by
   cases q:H b with
   | none=>rfl
   | some u =>
    rcases hA b (by rw [q]; simp) with e' | e'
    ·subst e'
     rw [ha] at e; cases e
     exact absurd rfl (d _ _)
    ·rw [(hTb e').1] at e; cases e
     exact absurd rfl c
  have noA:∀ {b:Addr} {o:Obj} {es:Array DictEntry} {ep:Nat},s₁.heap.get? b=some o->o.data=.dict es ep->H b=none:=fun {b o es ep} e d=>by
   cases q:H b with
   | none=>rfl
   | some u =>
    rcases hA b (by rw [q]; simp) with e' | e'
    ·subst e'
     rw [ha] at e; cases e
     cases d
    ·rw [(hTb e').1] at e; cases e
     cases d
  have nsK:∀ {b:Addr} {m:Str->Option Value},s₁.heap.Ns b m->(eE s₁.heap H).Ns b m:=fun {b m} ⟨o,es,ep,e,d,r⟩=>⟨o,es,ep,aU e (noA e d),d,r⟩
  have hKb:K.In (eE s₁.heap H):=fun b o e=>aU (KX b o e) (by
   cases q:H b with
   | none=>rfl
   | some u =>
    rcases hA b (by rw [q]; simp) with e' | e'
    ·subst e'
     rw [hK (by rw [q]; simp)] at e; cases e
    ·have e1:=KX b o e
     rw [(hTb e').1] at e1; cases e1
     exact absurd (show false=true from List.all_eq_true.mp hnt _ (PySem.W.mem_of_lookupK e)) Bool.false_ne_true)
  have hM:Mod K mg (eE s₁.heap H):=⟨hKb,nsK hns,⟨mb,nsK hb,hbb⟩,let ⟨mc,h1,h2⟩:=hlim; ⟨mc,nsK h1,h2⟩⟩
  have hBb:BMd mg (eE s₁.heap H):=by
   obtain ⟨bm,ob,b1,b2,b3,b4,b5,b6⟩:=hB
   exact ⟨bm,ob,b1,b2,aU b3 (free_of b3 (by rw [b4]; nofun) (fun _ _ z=>by rw [b6] at z; cases z)),b4,b5,b6⟩
  have e0:q9 P w K mg (eE s₁.heap H) callerA [] s₁ H:=⟨rfl,hM,fun b o e=>oi e,Nat.le_of_eq (iV _ _),trivial,fun b hb=>absurd (show b∈([]:List Addr) from hb) (by simp),hok,.of_eq hg⟩
  refine codeAny_mono ((F _ hKb (nsK hns) hBb).run callerA [] s₁ H ⟨[.ref a],[]⟩ [.ref a] [.ref a] _ _ hr e0 (hbind s₁ (.ref a)) (.cons rfl .nil) (hsp H hO hTt hS)) fun r s' h => ?_
  cases r with
  | error e=>exact (hCX H e s' h).elim
  | ok fl =>
   cases fl with
   | next=>exact False.elim h
   | brk=>exact False.elim h
   | cont=>exact False.elim h
   | ret u =>
    obtain ⟨v,H',os,bare,un,hok',r',q⟩:=h
    have q':v=.bl true:=q
    subst q'
    obtain rfl:u=Value.bool true:=r'
    have kept:∀ b o,s₁.heap.get? b=some o->s'.heap.get? b=some o\/(isCodeTable s₁.heap b/\o=PySem.W.tabObj #[]/\∃ ps,s'.heap.get? b=some (PySem.W.tabObj ps)):=fun b o e=>by
     rcases hO b with z | ⟨ob,xs,z⟩ | ⟨hm,z⟩
     ·exact .inl (un.keep b o e z (by intro z; exact absurd (show b∈([]:List Addr) from z) (by simp)) (by simp))
     ·have z2:=un.frzs b ob _ z
      obtain ⟨e1,_⟩:=hok b _ z
      obtain ⟨e2,_⟩:=hok' b _ z2
      rw [e] at e1; cases e1
      exact .inl e2
     ·obtain ⟨more,z2⟩:=un.tbls b _ z
      have e1:=(hTb hm).1
      rw [e] at e1
      exact .inr ⟨(hTb hm).2,Option.some.inj e1,_,hok' b _ z2⟩
    refine ⟨rfl,⟨fun b o e => ?_,fun b o e => ?_⟩,os,bare⟩
    ·rcases kept b o e with z | ⟨t,rfl,ps,z⟩
     ·exact .inl z
     ·exact .inr (.inl ⟨t,rfl,#[],ps,rfl,by rw [Array.empty_append]; exact z⟩)
    ·rcases kept b o e with z | ⟨_,_,ps,z⟩
     ·exact ⟨_,z⟩
     ·exact ⟨_,z⟩
 have hat:a ∉ tabs.map (·.2):=fun z=>by
  have e:=(hTb z).1
  rw [ha] at e; cases e
 have hq2:∀ q∈tabs,q.2∈tabs.map (·.2):=fun q hq=>List.mem_map_of_mem hq
 cases hk:K.lookup a with
 | some o =>
  have e:=KX a o hk
  rw [ha] at e
  cases e
  refine core (fun b=>if b∈tabs.map (·.2) then some (.tbl #[]) else none) (fun b => ?_) (fun q hq=>if_pos (hq2 q hq)) (.inr ⟨_,vs.toArray,_,hk,rfl,rfl,rfl,by rw [List.size_toArray,lenV]; exact hl,by simpa using rv⟩) (fun b u z => ?_) (fun b z => ?_) fun z=>absurd (if_neg hat) z
  ·by_cases hb:b∈tabs.map (·.2)
   ·exact .inr (.inr ⟨hb,if_pos hb⟩)
   ·exact .inl (if_neg hb)
  ·by_cases hb:b∈tabs.map (·.2)
   ·have z':=(if_pos hb).symm.trans z
    cases z'
    exact (hTb hb).1
   ·have z':=(if_neg hb).symm.trans z
    cases z'
  ·by_cases hb:b∈tabs.map (·.2)
   ·exact .inr hb
   ·exact absurd (if_neg hb) z
 | none =>
  refine core (fun b=>if b=a then some (.frz { cls:=.type "list",data:=.seq vs.toArray } (.lst (ns.map V.int))) else if b∈tabs.map (·.2) then some (.tbl #[]) else none) (fun b => ?_)
   (fun q hq=>(if_neg (fun z=>hat (by rw [<-z]; exact hq2 q hq))).trans (if_pos (hq2 q hq))) (.inl (.inr ⟨{ cls:=.type "list",data:=.seq vs.toArray },if_pos rfl⟩)) (fun b u z => ?_) (fun b z => ?_) fun _=>hk
  ·by_cases hb:b=a
   ·exact .inr (.inl ⟨_,_,if_pos hb⟩)
   ·by_cases hc:b∈tabs.map (·.2)
    ·exact .inr (.inr ⟨hc,(if_neg hb).trans (if_pos hc)⟩)
    ·exact .inl ((if_neg hb).trans (if_neg hc))
  ·by_cases hb:b=a
   ·have z':=(if_pos hb).symm.trans z
    cases z'
    subst hb
    exact ⟨ha,by rw [List.length_map]; exact hl,vs,_,rv,ha⟩
   ·by_cases hc:b∈tabs.map (·.2)
    ·have z':=((if_neg hb).trans (if_pos hc)).symm.trans z
     cases z'
     exact (hTb hc).1
    ·have z':=((if_neg hb).trans (if_neg hc)).symm.trans z
     cases z'
  ·by_cases hb:b=a
   ·exact .inl hb
   ·by_cases hc:b∈tabs.map (·.2)
    ·exact .inr hc
    ·exact absurd ((if_neg hb).trans (if_neg hc)) z
end IS
namespace IS
open PySem PySem.Spec L2
open PyProof.Rows hiding St
theorem fk {a b:Int} {t u:Tok} {c:Value}:∀ (l:List Value),TriplesOk l->TriplesOk (l++[.int a t,.int b u,c])
 | [],_=>trivial
 | .int _ _::.int _ _::_::r,h=>fk r h
theorem iC {pos:Pos} {a b:Int} {t u:Tok} {c v:Value}:∀ (l:List Value),TriplesOk l->codeAmong pos (l++[.int a t,.int b u,c])=some v->codeAmong pos l=some v\/v=c
 | [],_,e=>by
  have e':(if (a == pos.line&&b == pos.col)=true then some c else codeAmong pos [])=some v:=e
  split at e'
  ·exact .inr (Option.some.inj e').symm
  ·cases e'
 | .int i _::.int j _::d::r,h,e=>by
  have e':(if (i == pos.line&&j == pos.col)=true then some d else codeAmong pos (r++[.int a t,.int b u,c]))=some v:=e
  show (if (i == pos.line&&j == pos.col)=true then some d else codeAmong pos r)=some v\/v=c
  split at e'
  ·rename_i hc
   rw [if_pos hc]
   exact .inl e'
  ·rename_i hc
   rw [if_neg hc]
   exact iC r h e'
noncomputable abbrev cE (c':Addr) (q:Str):HO:=.ext fun h=>h.CodeRec (.ref c') q
noncomputable def Ai (H H':Hp) (P:Addr) (q:Str) (ps:Array Value):Prop :=
 H'=H\/∃ c' ps',H c'=none/\H'=upd (upd H P (.tbl ps')) c' (cE c' q)/\TriplesOk ps'.toList/\∀ pos cv,codeAmong pos ps'.toList=some cv->codeAmong pos ps.toList=some cv\/cv=.ref c'
section
variable {X:Cx} {pins:List (Addr × Obj)} {σ:List (Option V)} {H:Hp} {s:Shared} {c P:Addr} {q:Str} {params:Arguments} {body:Expr} {scope:Scope} {clos:List (Str × Addr)} {pos:Pos} {Q:Value->Shared->Prop}
theorem sW {pg:Program} {w:World} {h:Heap} {c':Addr} (r:h.CodeRec (.ref c') q):aE pg w H h c' (cE c' q):=by
 refine ⟨r,?_,fun h1 h2 z k => ?_⟩
 ·obtain ⟨_,o,_,_,e,g,_⟩:=r
  cases e
  exact ⟨o,g⟩
 ·obtain ⟨c₂,o,vs,t,e,g,r⟩:=z
  cases e
  exact ⟨_,o,vs,t,rfl,k _ g,r⟩
theorem qR (I:Inv X pins σ H s) (hB:BMd X.mg X.base) (hcode:X.env.code=.ref c) (C:PySem.W.CodeHd X.base c P) {ps:Array Value} (hP:H P=some (.tbl ps)) (ht:TriplesOk ps.toList) (hc:∀ pos cv,codeAmong pos ps.toList=some cv->∃ c',cv=.ref c'/\H c'=some (cE c' q)) (hq:X.env.qual ++ "<lambda>" = q) (hdef:defaultsOf params X.env=([],[])) (hcl:closureFor scope X.env=pure clos)
  (h:∀ (f c':Addr) (ctv:Value) (s':Shared) (H':Hp),Inv X pins σ H' s'->s'.heap.get? f=some (PySem.W.kla_obj "<lambda>" q params body scope clos ((X.mg "__name__").getD .none) c' ctv)->H' f=none->s.heap.objs.size<=f ->
   H' c'=some (cE c' q)->Ai H H' P q ps->Q (.ref f) s') :
  wpAny (model X.prog X.w) X.A (eval (.Lambda params body scope pos) X.env) Q X.xe s:=by
 have hPo:s.heap.get? P=some (PySem.W.tabObj ps):=I.hok P _ hP
 have hg:s.heap.Ns mainGlobals X.mg:=I.mod.glob.keeps I.bk
 obtain ⟨bm,ob,b1,b2,b3,b4,b5,b6⟩:=hB
 have hgP:mainGlobals≠P:=fun z=>by
  obtain ⟨o,es,ep,e,hd,_⟩:=I.mod.glob
  have:=(I.bs _ _ e).2
  rw [z,hP] at this; cases this
 have hbP:bm≠P:=fun z=>by
  have:=(I.bs _ _ b3).2
  rw [z,hP] at this; cases this
 have hbG:bm≠mainGlobals:=fun z=>by
  obtain ⟨o,es,ep,e,hd,_⟩:=I.mod.glob
  rw [z,e] at b3; cases b3; rw [hd] at b6; cases b6
 have hb:s.heap.BuiltinsAt X.mg P:=⟨bm,ob,b1,b2,hbG,hbP,I.bk _ _ b3,b4,b5,b6⟩
 refine PySem.W.kla_eval hdef ?_
 rw [hq]
 cases hf:codeAmong pos ps.toList with
 | some cv =>
  obtain ⟨c',rfl,hc'⟩:=hc pos cv hf
  refine PySem.W.kla_makeFunctionHit (mg:=X.mg) hcl I.ok.glob hg hcode (C.keeps I.bk) hPo ht hf hb fun ctv h' tk hk hsz => ?_
  have kp:∀ b u,s.heap.get? b=some u->(h'.push (PySem.W.kla_obj "<lambda>" q params body scope clos ((X.mg "__name__").getD .none) c' ctv)).get? b=some u:=fun b u e=>Heap.get?_push_of_some _ (hk b u e)
  exact h h'.objs.size c' ctv _ H (I.kept kp) (Heap.get?_push_size _ rfl) (I.hok.fresh hsz) hsz hc' (.inl rfl)
 | none =>
  refine PySem.W.kla_makeFunction (mg:=X.mg) hcl I.ok.glob hg hcode (C.keeps I.bk) hPo ht hf hgP hb fun c' ctv h' tk hx hge hlt hrec htb => ?_
  have hcn:H c'=none:=I.hok.fresh hge
  have cP:c'≠P:=fun z=>by rw [z,hP] at hcn; cases hcn
  have atc:upd (upd H P (.tbl (ps ++ #[rawInt pos.line,rawInt pos.col,.ref c']))) c' (cE c' q) c'=some (cE c' q):=ak
  have atP:upd (upd H P (.tbl (ps ++ #[rawInt pos.line,rawInt pos.col,.ref c']))) c' (cE c' q) P=some (.tbl (ps ++ #[rawInt pos.line,rawInt pos.col,.ref c'])):=by rw [ah cP.symm,ak]
  have ato:∀ b,b≠P->b≠c'->upd (upd H P (.tbl (ps ++ #[rawInt pos.line,rawInt pos.col,.ref c']))) c' (cE c' q) b=H b:=fun b z1 z2=>by rw [ah z2,ah z1]
  generalize hHe:upd (upd H P (.tbl (ps ++ #[rawInt pos.line,rawInt pos.col,.ref c']))) c' (cE c' q)=H' at atc atP ato
  have kp:∀ b u,b≠P->s.heap.get? b=some u->(h'.push (PySem.W.kla_obj "<lambda>" q params body scope clos ((X.mg "__name__").getD .none) c' ctv)).get? b=some u:=fun b u n e=>Heap.get?_push_of_some _ (hx b u n e)
  have old:∀ b o,s.heap.get? b=some o->b≠c':=fun b o e z=>by
   have:=Heap.lt_size e
   rw [z] at this
   exact absurd (Nat.lt_of_lt_of_le this hge) (Nat.lt_irrefl _)
  have trk:∀ b u,H b=some u->b≠c':=fun b u e z=>by rw [z,hcn] at e; cases e
  have nP:∀ b,H b=none->b≠P:=fun b e z=>by rw [z,hP] at e; cases e
  have keepH:∀ b o,b≠P->H b=some o->H' b=some o:=fun b o n e=>by rw [ato b n (trk b o e)]; exact e
  have un:Un X.fs [] H H' s.heap (h'.push (PySem.W.kla_obj "<lambda>" q params body scope clos ((X.mg "__name__").getD .none) c' ctv)):=by
   refine ⟨fun b o e n _ _=>kp b o (nP b n) e,fun b o e n _ _=>⟨o.slots,kp b o (nP b n) e⟩,fun b o e n _=>by rw [ato b (nP b n) (old b o e)]; exact n,fun b o e _ => ?_,fun b xs e => ?_,fun b o u e => ?_,fun b ps' e => ?_⟩
   ·by_cases z:b=P
    ·rw [z]; exact ⟨_,Heap.get?_push_of_some _ htb⟩
    ·exact ⟨o,kp b o z e⟩
   ·exact keepH b _ (fun z=>by rw [z,hP] at e; cases e) e
   ·exact keepH b _ (fun z=>by rw [z,hP] at e; cases e) e
   ·by_cases z:b=P
    ·subst z
     rw [hP] at e; cases e
     exact ⟨_,atP⟩
    ·exact ⟨#[],by rw [keepH b _ z e]; simp⟩
  have hok:HOk X.prog X.w H' (h'.push (PySem.W.kla_obj "<lambda>" q params body scope clos ((X.mg "__name__").getD .none) c' ctv)):=fun b u e=>by
   by_cases z:b=P
   ·subst z
    rw [atP] at e; cases e
    exact Heap.get?_push_of_some _ htb
   ·by_cases z2:b=c'
    ·subst z2
     rw [atc] at e; cases e
     exact sW (hrec.push _)
    ·rw [ato b z z2] at e
     refine (I.hok b u e).aX (fun d v hd g=>kp d v ?_ g) (fun d g=>keepH d _ (fun z=>by rw [z,hP] at g; cases g) g) fun d xs g=>keepH d _ (fun z=>by rw [z,hP] at g; cases g) g
     rcases hd with rfl | hd
     ·exact z
     ·exact fun z=>by rw [z,hP] at hd; cases hd
  have hsz:s.heap.objs.size<=h'.objs.size:=Nat.le_trans hge (Nat.le_of_lt hlt)
  refine h h'.objs.size c' ctv _ H' (I.un un hok) (Heap.get?_push_size _ rfl) ?_ hsz atc (.inr ⟨c',_,hcn,hHe.symm,?_,fun pos' cv e => ?_⟩)
  ·have z1:h'.objs.size≠c':=Nat.ne_of_gt hlt
   have z2:h'.objs.size≠P:=fun z=>by
    have:=Heap.lt_size hPo
    rw [<-z] at this
    exact absurd (Nat.lt_of_lt_of_le this hsz) (Nat.lt_irrefl _)
   rw [ato _ z2 z1]
   exact I.hok.fresh hsz
  ·rw [Array.toList_append]
   exact fk _ ht
  ·rw [Array.toList_append] at e
   exact iC _ ht e
end
end IS
namespace IS
open PySem PySem.Spec L2
open PyProof.Rows hiding St
noncomputable abbrev iw (q:Str) (scope:Scope) (n:Addr) (clos:List (Str × Addr)) (f c':Addr):Env:=newEnv scope n mainGlobals clos (q ++ ".<locals>.") (some f) (.ref c') none builtinsNs
section
variable {prog:Program} {w:World} {A:Around} {E:Value->Shared->Prop} {s:Shared} {Q:Value->Shared->Prop} {q x:Str} {params:Arguments} {body:Expr} {scope:Scope} {clos:List (Str × Addr)} {pm ctv v:Value} {f c':Addr}
theorem tS (hroom:A.depth<recursionLimit) (ho:s.heap.get? f=some (PySem.W.kla_obj "<lambda>" q params body scope clos pm c' ctv)) (hcd:s.heap.CodeRec (.ref c') q) (hlim:s.heap.NoLimit)
  (hbind:bindArgs (PySem.W.kla_fn "<lambda>" q params body scope clos pm (.ref c') ctv) ⟨[v],[]⟩=pure [(x,v)]) (hloc:scope.names.lookup x=some .local)
  (hco:scope.isCoroutine=false) (hgen:scope.isGenerator=false) (hk:scope.kind=.function) (hcell:∀ y∈scope.names,y.2≠.cell)
  (h:∀ h₁:Heap,h₁.Ns s.heap.objs.size (fun y=>[(x,v)].lookup y)->(∀ b o,s.heap.get? b=some o->h₁.get? b=some o) ->
   wpAny (model prog w) (A.deeper (iw q scope s.heap.objs.size clos f c')) (eval body (iw q scope s.heap.objs.size clos f c')) Q (fun _ _=>False) { s with heap:=h₁,toks:=s.toks+1 }) :
  wpAny (model prog w) A (call (.ref f) [v]) Q E s:=by
 refine wpAny_call (PySem.W.kla_callFunE hroom ho rfl hco hgen rfl hcd ?_)
 rw [hbind]
 refine wpAny_pure (wpAny_newFunctionEnv hcell (fun y hy=>by rw [List.mem_singleton.mp hy]; exact hloc) (fun h₁ hns hsb=>⟨hlim.fresh _ hsb,?_⟩) hk)
 have hk₁:∀ b o,s.heap.get? b=some o->h₁.get? b=some o:=fun b o e=>hsb.extBut b o (Nat.ne_of_lt (Heap.lt_size e)) (Heap.get?_push_of_some _ e)
 exact PySem.W.kla_codeExpr (wpAny_mono (h h₁ hns hk₁) (fun _ _ z=>z) fun _ _ z=>z.elim)
theorem lU {p1 p2 p3:Pos} {j:Nat} {n a:Addr} {its:Array Value} {u:Value} {B:Around} {E:Value->Shared->Prop} (hk:scope.kind=.function) (hloc:scope.names.lookup x=some .local) (hd:(x == ("__debug__" : Str))=false)
  (hn:s.heap.Ns n (fun y=>[(x,Value.ref a)].lookup y)) (ht:IsTup s.heap a its) (hu:its[1]?=some u) (hQ:∀ tk,Q u { s with toks:=tk }) :
  wpAny (model prog w) B (eval (.Subscript (.Name x p1) (.Constant (.int 1) j p2) p3) (iw q scope n clos f c')) Q E s:=by
 refine Subscript_ (wpAny_Name (wpAny_loadName_local (v:=.ref a) hk hloc hn (by simp) ?_) hd)
 refine wpAny_Constant_int ?_
 have hz:1<its.size:=(Array.getElem?_eq_some_iff.mp hu).1
 exact subscriptTail_builtinR (x:=u) (s:={ s with toks:=_ }) ht.typeIs slot_tuple_getitem.lookup (getItem_tuple (s:={ s with toks:=_ }) (j:=1) (Q:=fun r s'=>r=u/\Q r s') ht (by decide) (by decide) (seqIndex_of (by decide) (by show (1:Int)<_; omega)) hu ⟨rfl,hQ _⟩)
end
end IS
namespace IS
open PySem PySem.W PyProof.Rows
noncomputable def bM {α:Type} (ask:Nat->Nat->Bool):KasT α->α
 | .ret a=>a
 | .ask i j k=>bM ask (k (ask i j))
theorem cf {α β:Type} {ask:Nat->Nat->Bool} {f:α->KasT β}:∀ (t:KasT α),bM ask (t.bind f)=bM ask (f (bM ask t))
 | .ret _=>rfl
 | .ask i j k=>cf (k (ask i j))
section
variable (ky:Nat->Int)
noncomputable def Lx (a b:Nat):Prop:=ky a<ky b\/(ky a=ky b/\a<b)
noncomputable abbrev cw (i j:Nat):Bool:=decide (ky i<ky j)
noncomputable abbrev pf (p:Array Nat) (i:Nat):Nat:=p.getD i 0
theorem Lx.trans {a b c:Nat} (h:Lx ky a b) (g:Lx ky b c):Lx ky a c:=by
 rcases h with h | ⟨h,h'⟩ <;> rcases g with g | ⟨g,g'⟩
 ·exact .inl (by omega)
 ·exact .inl (by omega)
 ·exact .inl (by omega)
 ·exact .inr ⟨by omega,by omega⟩
noncomputable def Up (p:Array Nat) (k:Nat):Prop:=∀ i j,i<j->j<k->Lx ky (pf p i) (pf p j)
noncomputable def Dn (p:Array Nat) (k:Nat):Prop:=∀ i j,i<j->j<k->Lx ky (pf p j) (pf p i)
structure Id (p:Array Nat) (n k:Nat):Prop where
 sz:p.size=n
 le:k<=n
 id:∀ i,k<=i->i<n->pf p i=i
 lo:∀ i,i<k->pf p i<k
theorem cR {p:Array Nat} {i j k:Nat} (hj:j<=p.size):pf (kas_rev p i j) k=if i<=k/\k<j then pf p (i+j - 1 - k) else pf p k:=by
 have h:=getElem?_mirror_all (xs:=p) (i:=i) hj k
 unfold pf kas_rev
 rw [Array.getD_eq_getD_getElem?,h]
 split <;> rw [Array.getD_eq_getD_getElem?]
theorem zc {p:Array Nat} {s d k:Nat} (hs:s<p.size) (hd:d<=s):pf (bubble p s d) k=if k=s - d then pf p s else if s - d<k/\k<=s then pf p (k - 1) else pf p k:=by
 have h:=getElem?_bubble hs d hd k
 unfold pf
 rw [Array.getD_eq_getD_getElem?,h]
 by_cases c:k=s - d
 ·rw [if_pos c,if_pos c,Array.getD_eq_getD_getElem?]
 ·rw [if_neg c,if_neg c]
  by_cases c2:s - d<k/\k<=s
  ·rw [if_pos c2,if_pos c2,Array.getD_eq_getD_getElem?]
  ·rw [if_neg c2,if_neg c2,Array.getD_eq_getD_getElem?]
theorem y6 {p:Array Nat} {i j:Nat}:(kas_rev p i j).size=p.size:=mirror_size _ _ _ _
theorem Id.rev {p:Array Nat} {n k i j:Nat} (h:Id p n k) (hj:j<=k):Id (kas_rev p i j) n k:=by
 refine ⟨y6.trans h.sz,h.le,fun a h1 h2 => ?_,fun a h1 => ?_⟩
 ·rw [cR (by rw [h.sz]; have:=h.le; omega),if_neg (by omega)]
  exact h.id a h1 h2
 ·rw [cR (by rw [h.sz]; have:=h.le; omega)]
  split
  ·exact h.lo _ (by omega)
  ·exact h.lo _ h1
theorem Id.mono {p:Array Nat} {n k k':Nat} (h:Id p n k) (hk:k<=k') (hn:k'<=n):Id p n k':=by
 refine ⟨h.sz,hn,fun i h1 h2=>h.id i (by omega) h2,fun i h1 => ?_⟩
 by_cases z:i<k
 ·have:=h.lo i z; omega
 ·rw [h.id i (by omega) (by omega)]; exact h1
theorem Up.rev {p:Array Nat} {n:Nat} (h:Dn ky p n) (hn:n<=p.size):Up ky (kas_rev p 0 n) n:=by
 intro i j hij hj
 rw [cR hn,cR hn,if_pos (by omega),if_pos (by omega)]
 exact h _ _ (by omega) (by omega)
theorem Up.one {p:Array Nat}:Up ky p 1:=fun i j h1 h2=>by omega
theorem Up.succ {p:Array Nat} {k:Nat} (h:Up ky p k) (hk:0<k) (hl:Lx ky (pf p (k - 1)) (pf p k)):Up ky p (k+1):=by
 intro i j hij hj
 by_cases e:j=k
 ·subst e
  by_cases e2:i=j - 1
  ·subst e2; exact hl
  ·exact Lx.trans ky (h i (j - 1) (by omega) (by omega)) hl
 ·exact h i j hij (by omega)
theorem mw {p:Array Nat} {n:Nat}:∀ (f k:Nat),Id p n k->0<k->k+f=n->Up ky p k->∃ m,bM (cw ky) (kas_asc p f k)=m/\k<=m/\m<=n/\Id p n m/\Up ky p m/\(m<n->ky (pf p m)<ky (pf p (m - 1)))
 | 0,k,hi,h0,hk,hu=>⟨k,rfl,Nat.le_refl _,by omega,hi,hu,fun z=>by omega⟩
 | f+1,k,hi,h0,hk,hu=>by
  show ∃ m,bM (cw ky) (if decide (ky (pf p k)<ky (pf p (k - 1)))=true then KasT.ret k else kas_asc p f (k+1))=m/\_
  by_cases h:ky (pf p k)<ky (pf p (k - 1))
  ·rw [if_pos (decide_eq_true h)]
   exact ⟨k,rfl,Nat.le_refl _,by omega,hi,hu,fun _=>h⟩
  ·rw [if_neg (by rw [decide_eq_false h]; decide)]
   have e:=hi.id k (Nat.le_refl _) (by omega)
   have l:=hi.lo (k - 1) (by omega)
   obtain ⟨m,a1,a2,a3,a4,a5,a6⟩:=mw f (k+1) (hi.mono (by omega) (by omega)) (by omega) (by omega) (hu.succ ky h0 (by
    unfold Lx
    rw [e] at h ⊢
    omega))
   exact ⟨m,a1,by omega,a3,a4,a5,a6⟩
structure De (p:Array Nat) (n q:Nat):Prop where
 q1:q+1<=n
 dn:Dn ky p (n - (q+1))
 eq:∀ i,n - (q+1)<=i->i<n->ky (pf p i)=ky (pf p (n - 1))/\pf p i=i
 gt:∀ i,i<n - (q+1)->ky (pf p (n - 1))<ky (pf p i)
theorem De.turn {p:Array Nat} {n q:Nat} (h:De ky p n q) (hn:n<=p.size):Dn ky (if q > 0 then kas_rev p (n - (q+1)) n else p) n:=by
 have h1:=h.q1
 by_cases hq:q > 0
 ·rw [if_pos hq]
  intro i j hij hj
  rw [cR hn,cR hn]
  by_cases hi:n - (q+1)<=i
  ·rw [if_pos (by omega),if_pos (by omega)]
   obtain ⟨a1,a2⟩:=h.eq (n - (q+1)+n - 1 - i) (by omega) (by omega)
   obtain ⟨b1,b2⟩:=h.eq (n - (q+1)+n - 1 - j) (by omega) (by omega)
   exact .inr ⟨by rw [a1,b1],by rw [a2,b2]; omega⟩
  ·rw [if_neg (show ¬ (n - (q+1)<=i/\i<n) by omega)]
   by_cases hj2:n - (q+1)<=j
   ·rw [if_pos (by omega)]
    obtain ⟨b1,b2⟩:=h.eq (n - (q+1)+n - 1 - j) (by omega) (by omega)
    exact .inl (by rw [b1]; exact h.gt i (by omega))
   ·rw [if_neg (by omega)]
    exact h.dn i j hij (by omega)
 ·rw [if_neg hq]
  have q0:q=0:=by omega
  subst q0
  intro i j hij hj
  by_cases e:j=n - 1
  ·subst e; exact .inl (h.gt i (by omega))
  ·exact h.dn i j hij (by omega)
theorem gL {N:Nat}:∀ (f:Nat) (p:Array Nat) (n q:Nat),Id p N n->n+f=N->De ky p n q->∃ p' n' q',bM (cw ky) (kas_desc f p n q)=(p',n',q')/\Id p' N n'/\De ky p' n' q'/\p'.Perm p
 | 0,p,n,q,hi,hf,hd=>⟨p,n,q,rfl,hi,hd,.refl _⟩
 | f+1,p,n,q,hi,hf,hd=>by
  have hq:=hd.q1
  have en:=hi.id n (Nat.le_refl _) (by omega)
  show ∃ p' n' q',bM (cw ky) (if decide (ky (pf p n)<ky (pf p (n - 1)))=true then (if q > 0 then kas_desc f (kas_rev p (n - (q+1)) n) (n+1) 0 else kas_desc f p (n+1) 0)
   else .ask (pf p (n - 1)) (pf p n) fun d=>if d=true then .ret (p,n,q) else kas_desc f p (n+1) (q+1))=(p',n',q')/\_
  by_cases h:ky (pf p n)<ky (pf p (n - 1))
  ·rw [if_pos (decide_eq_true h)]
   have t:=hd.turn ky (by rw [hi.sz]; exact hi.le)
   have key:∀ p2:Array Nat,Dn ky p2 n->Id p2 N n->(∀ i,i<n->ky (pf p2 i) >= ky (pf p (n - 1)))->De ky p2 (n+1) 0:=fun p2 d2 i2 g2=>by
    have e2:=i2.id n (Nat.le_refl _) (by omega)
    refine ⟨by omega,by simpa using d2,fun i h1 h2 => ?_,fun i h1 => ?_⟩
    ·have:i=n:=by omega
     subst this
     exact ⟨rfl,e2⟩
    ·show ky (pf p2 n)<_
     rw [e2]
     rw [en] at h
     have:=g2 i (by omega)
     omega
   have g0:∀ i,i<n->ky (pf p i) >= ky (pf p (n - 1)):=fun i hi2=>by
    by_cases z:i<n - (q+1)
    ·exact Int.le_of_lt (hd.gt i z)
    ·exact Int.le_of_eq (hd.eq i (by omega) hi2).1.symm
   by_cases hq0:q > 0
   ·rw [if_pos hq0] at t ⊢
    obtain ⟨p',n',q',a1,a2,a3,a4⟩:=gL f (kas_rev p (n - (q+1)) n) (n+1) 0 ((hi.rev (Nat.le_refl _)).mono (by omega) (by omega)) (by omega) (key _ t (hi.rev (Nat.le_refl _)) fun i hi2=>by
     rw [cR (by rw [hi.sz]; exact hi.le)]
     split
     ·exact g0 _ (by omega)
     ·exact g0 _ hi2)
    exact ⟨p',n',q',a1,a2,a3,a4.trans (mirror_perm _ _ _ _)⟩
   ·rw [if_neg hq0] at t ⊢
    exact gL f p (n+1) 0 (hi.mono (by omega) (by omega)) (by omega) (key p t hi g0)
  ·rw [if_neg (by rw [decide_eq_false h]; decide)]
   show ∃ p' n' q',bM (cw ky) (if decide (ky (pf p (n - 1))<ky (pf p n))=true then .ret (p,n,q) else kas_desc f p (n+1) (q+1))=(p',n',q')/\_
   by_cases g:ky (pf p (n - 1))<ky (pf p n)
   ·rw [if_pos (decide_eq_true g)]
    exact ⟨p,n,q,rfl,hi,hd,.refl _⟩
   ·rw [if_neg (by rw [decide_eq_false g]; decide)]
    refine gL f p (n+1) (q+1) (hi.mono (by omega) (by omega)) (by omega) ⟨by omega,?_,fun i h1 h2 => ?_,fun i h1 => ?_⟩
    ·have:n+1 - (q+1+1)=n - (q+1):=by omega
     rw [this]; exact hd.dn
    ·show ky (pf p i)=ky (pf p n)/\_
     by_cases e:i=n
     ·subst e; exact ⟨rfl,en⟩
     ·obtain ⟨b1,b2⟩:=hd.eq i (by omega) (by omega)
      exact ⟨by omega,b2⟩
    ·show ky (pf p n)<_
     have:=hd.gt i (by omega)
     omega
end
end IS
namespace IS
open PySem PySem.W PyProof.Rows
section
variable (ky:Nat->Int)
theorem lK {p:Array Nat} {n N:Nat} (hi:Id p N n) (h0:0<n) (hd:Dn ky p n):∃ m p',bM (cw ky) (kas_tail3 n N p)=(m,p')/\0<m/\Id p' N m/\Up ky p' m/\p'.Perm p:=by
 have hn:n<=p.size:=by rw [hi.sz]; exact hi.le
 obtain ⟨m,a1,a2,a3,a4,a5,-⟩:=mw ky (N - n) n (hi.rev (i:=0) (Nat.le_refl _)) h0 (by have:=hi.le; omega) (Up.rev ky hd hn)
 refine ⟨m,kas_rev p 0 n,?_,by omega,a4,a5,mirror_perm _ _ _ _⟩
 unfold kas_tail3
 rw [cf,a1]
 rfl
theorem gj {p:Array Nat} {n N:Nat} (hi:Id p N n) (h0:0<n) (hN:n<N) (hd:Dn ky p n) (hl:∀ i,i<n->ky n<ky (pf p i)):∃ m p',bM (cw ky) (kas_descPart n N p)=(m,p')/\0<m/\Id p' N m/\Up ky p' m/\p'.Perm p:=by
 have en:=hi.id n (Nat.le_refl _) hN
 have d0:De ky p (n+1) 0:=by
  refine ⟨by omega,by simpa using hd,fun i h1 h2 => ?_,fun i h1 => ?_⟩
  ·have:i=n:=by omega
   subst this
   exact ⟨rfl,en⟩
  ·show ky (pf p n)<_
   rw [en]
   exact hl i (by omega)
 obtain ⟨p',n',q',b1,b2,b3,b4⟩:=gL ky (N - (n+1)) p (n+1) 0 (hi.mono (by omega) (by omega)) (by omega) d0
 have hn':n'<=p'.size:=by rw [b2.sz]; exact b2.le
 have t:=b3.turn ky hn'
 have q1:=b3.q1
 unfold kas_descPart
 rw [cf,b1]
 show ∃ m p'',bM (cw ky) (if q' > 0 then kas_tail3 n' N (kas_rev p' (n' - (q'+1)) n') else kas_tail3 n' N p')=(m,p'')/\_
 by_cases hq:q' > 0
 ·rw [if_pos hq] at t ⊢
  obtain ⟨m,p'',c1,c2,c3,c4,c5⟩:=lK ky (b2.rev (i:=n' - (q'+1)) (Nat.le_refl _)) (by omega) t
  exact ⟨m,p'',c1,c2,c3,c4,(c5.trans (mirror_perm _ _ _ _)).trans b4⟩
 ·rw [if_neg hq] at t ⊢
  obtain ⟨m,p'',c1,c2,c3,c4,c5⟩:=lK ky b2 (by omega) t
  exact ⟨m,p'',c1,c2,c3,c4,c5.trans b4⟩
theorem Up.key {p:Array Nat} {k i j:Nat} (h:Up ky p k) (hij:i<=j) (hj:j<k):ky (pf p i)<=ky (pf p j):=by
 by_cases e:i=j
 ·subst e; exact Int.le_refl _
 ·rcases h i j (by omega) hj with z | ⟨z,_⟩ <;> omega
theorem lx {p:Array Nat} {N:Nat} (hi:Id p N 1) (hp:pf p 0=0):∃ m p',bM (cw ky) (kas_count N p)=(m,p')/\0<m/\Id p' N m/\Up ky p' m/\p'.Perm p:=by
 have h1:=hi.le
 obtain ⟨m,a1,a2,a3,a4,a5,a6⟩:=mw ky (N - 1) 1 hi (by omega) (by omega) (Up.one ky)
 have same:∀ i,i<N->pf p i=i:=fun i h=>by
  by_cases z:i=0
  ·rw [z]; exact hp
  ·exact hi.id i (by omega) h
 unfold kas_count
 rw [cf,a1]
 by_cases e:m=N
 ·rw [if_pos (by rw [e]; exact beq_self_eq_true N)]
  exact ⟨m,p,rfl,by omega,a4,a5,.refl _⟩
 ·rw [if_neg (by rw [beq_eq_false_iff_ne.mpr e]; decide)]
  have hlt:=a6 (by omega)
  rw [same m (by omega)] at hlt
  by_cases g:m > 1
  ·rw [if_pos g]
   show ∃ m' p',bM (cw ky) (if decide (ky (pf p 0)<ky (pf p (m - 1)))=true then .ret (m,p) else kas_descPart m N (kas_rev p 0 m))=(m',p')/\_
   by_cases c:ky (pf p 0)<ky (pf p (m - 1))
   ·rw [if_pos (decide_eq_true c)]
    exact ⟨m,p,rfl,by omega,a4,a5,.refl _⟩
   ·rw [if_neg (by rw [decide_eq_false c]; decide)]
    have hall:∀ i,i<m->ky (pf p i)=ky (pf p (m - 1)):=fun i h=>by
     have z1:=a5.key ky (i:=0) (j:=i) (by omega) h
     have z2:=a5.key ky (i:=i) (j:=m - 1) (by omega) (by omega)
     omega
    have hsz:m<=p.size:=by rw [a4.sz]; exact a4.le
    obtain ⟨m',p',b1,b2,b3,b4,b5⟩:=gj ky (p:=kas_rev p 0 m) (a4.rev (Nat.le_refl _)) (by omega) (by omega) (fun i j hij hj=>by
     rw [cR hsz,cR hsz,if_pos (by omega),if_pos (by omega)]
     refine .inr ⟨(hall _ (by omega)).trans (hall _ (by omega)).symm,?_⟩
     rw [same _ (by omega),same _ (by omega)]
     omega) (fun i h=>by
     rw [cR hsz,if_pos (by omega),hall _ (by omega)]
     exact hlt)
    exact ⟨m',p',b1,b2,b3,b4,b5.trans (mirror_perm _ _ _ _)⟩
  ·rw [if_neg g]
   have m1:m=1:=by omega
   subst m1
   exact gj ky a4 (by omega) (by omega) (fun i j h1 h2=>by omega) (fun i h=>by
    have:i=0:=by omega
    subst this
    exact hlt)
theorem iA {p:Array Nat} {k:Nat} (hu:Up ky p k):∀ (f l r:Nat),l<=r->r<=k->r - l<=f->(∀ i,i<l->ky (pf p i)<=ky (pf p k))->(∀ i,r<=i->i<k->ky (pf p k)<ky (pf p i)) ->
  ∃ m,bM (cw ky) (kas_place p k f l r)=m/\m<=k/\(∀ i,i<m->ky (pf p i)<=ky (pf p k))/\(∀ i,m<=i->i<k->ky (pf p k)<ky (pf p i))
 | 0,l,r,h1,h2,h3,h4,h5=>⟨l,rfl,by omega,h4,fun i a b=>h5 i (by omega) b⟩
 | f+1,l,r,h1,h2,h3,h4,h5=>by
  show ∃ m,bM (cw ky) (if l >= r then .ret l else .ask (pf p k) (pf p ((l+r) / 2)) fun c=>if c=true then kas_place p k f l ((l+r) / 2) else kas_place p k f ((l+r) / 2+1) r)=m/\_
  by_cases g:l >= r
  ·rw [if_pos g]
   exact ⟨l,rfl,by omega,h4,fun i a b=>h5 i (by omega) b⟩
  ·rw [if_neg g]
   show ∃ m,bM (cw ky) (if decide (ky (pf p k)<ky (pf p ((l+r) / 2)))=true then kas_place p k f l ((l+r) / 2) else kas_place p k f ((l+r) / 2+1) r)=m/\_
   by_cases c:ky (pf p k)<ky (pf p ((l+r) / 2))
   ·rw [if_pos (decide_eq_true c)]
    exact iA hu f l _ (by omega) (by omega) (by omega) h4 fun i a b=>Int.lt_of_lt_of_le c (hu.key ky a b)
   ·rw [if_neg (by rw [decide_eq_false c]; decide)]
    exact iA hu f _ r (by omega) h2 (by omega) (fun i a=>Int.le_trans (hu.key ky (show i<=(l+r) / 2 by omega) (by omega)) (by omega)) h5
theorem jL {N M:Nat} (hM:M<=N):∀ (f:Nat) (p:Array Nat) (k:Nat),Id p N k->k+f=M->Up ky p k->∃ p',bM (cw ky) (kas_bin f p k)=p'/\Id p' N M/\Up ky p' M/\p'.Perm p
 | 0,p,k,hi,hf,hu=>⟨p,rfl,by rw [<-hf]; exact hi,by rw [<-hf]; exact hu,.refl _⟩
 | f+1,p,k,hi,hf,hu=>by
  have en:=hi.id k (Nat.le_refl _) (by omega)
  obtain ⟨m,a1,a2,a3,a4⟩:=iA ky hu k 0 k (by omega) (Nat.le_refl _) (by omega) (fun i h=>by omega) (fun i h1 h2=>by omega)
  show ∃ p',bM (cw ky) ((kas_place p k k 0 k).bind fun l=>kas_bin f (bubble p k (k - l)) (k+1))=p'/\_
  rw [cf,a1]
  have hs:k<p.size:=by rw [hi.sz]; omega
  have pb:∀ j,pf (bubble p k (k - m)) j=if j=m then k else if m<j/\j<=k then pf p (j - 1) else pf p j:=fun j=>by
   rw [zc hs (by omega),en,show k - (k - m)=m by omega]
  obtain ⟨p',b1,b2,b3,b4⟩:=jL hM f (bubble p k (k - m)) (k+1) ⟨(bubble_size _ _ _).trans hi.sz,by omega,fun i h1 h2=>by
    rw [pb,if_neg (by omega),if_neg (by omega)]
    exact hi.id i (by omega) h2,fun i h1=>by
    rw [pb]
    split
    ·omega
    ·split
     ·have:=hi.lo (i - 1) (by omega); omega
     ·by_cases z:i<k
      ·have:=hi.lo i z; omega
      ·omega⟩ (by omega) (fun i j hij hj=>by
    rw [en] at a3 a4
    rw [pb,pb]
    by_cases c1:i=m
    ·rw [if_pos c1,if_neg (show ¬ j=m by omega),if_pos (by omega)]
     exact .inl (a4 (j - 1) (by omega) (by omega))
    ·rw [if_neg c1]
     by_cases c2:j=m
     ·rw [if_pos c2,if_neg (by omega)]
      have z:=a3 i (by omega)
      have l:=hi.lo i (by omega)
      unfold Lx
      omega
     ·rw [if_neg c2]
      by_cases c3:m<i
      ·rw [if_pos (by omega),if_pos (by omega)]
       exact hu _ _ (by omega) (by omega)
      ·rw [if_neg (by omega)]
       by_cases c4:m<j
       ·rw [if_pos (by omega)]
        exact hu _ _ (by omega) (by omega)
       ·rw [if_neg (by omega)]
        exact hu _ _ hij (by omega))
  exact ⟨p',b1,b2,b3,b4.trans (bubble_perm _ _ _)⟩
theorem vq {N:Nat} (hN:1<=N):∃ p,bM (cw ky) (kas_sort N)=p/\p.size=N/\Up ky p N/\p.Perm (List.range N).toArray:=by
 have same:∀ i,i<N->pf (List.range N).toArray i=i:=fun i h=>by
  unfold pf
  simp [Array.getD,h]
 obtain ⟨m,p,a1,a2,a3,a4,a5⟩:=lx ky (p:=(List.range N).toArray) (N:=N) ⟨by simp,hN,fun i _ h=>same i h,fun i h=>by
  have:i=0:=by omega
  subst this
  rw [same 0 (by omega)]; omega⟩ (same 0 (by omega))
 unfold kas_sort
 rw [cf,a1]
 show ∃ p',bM (cw ky) (if m<N then kas_bin (N - max m 1) p (max m 1) else .ret p)=p'/\_
 have mm:max m 1=m:=by omega
 by_cases h:m<N
 ·rw [if_pos h,mm]
  obtain ⟨p',b1,b2,b3,b4⟩:=jL ky (Nat.le_refl N) (N - m) p m a3 (by omega) a4
  exact ⟨p',b1,b2.sz,b3,b4.trans a5⟩
 ·rw [if_neg h]
  have e:m=N:=by have:=a3.le; omega
  exact ⟨p,rfl,a3.sz,by rw [<-e]; exact a4,a5⟩
end
end IS
namespace IS
open PySem PySem.W PyProof.Rows
section
variable {α:Type}
noncomputable abbrev leK (a b:Int × α):Bool:=decide (a.1<=b.1)
noncomputable abbrev LX (a b:Int × Nat):Prop:=a.1<b.1\/(a.1=b.1/\a.2<b.2)
theorem cg {x:Int × α}:∀ (l:List (Int × α)),(I.aY leK x l).Perm (x::l)
 | []=>.refl _
 | y::r=>by
  show (if leK x y=true then x::y::r else y::I.aY leK x r).Perm _
  split
  ·exact .refl _
  ·exact ((cg r).cons y).trans (.swap x y r)
theorem aN:∀ (l:List (Int × α)),(I.sortBy leK l).Perm l
 | []=>.refl _
 | x::r=>(cg _).trans ((aN r).cons x)
theorem il {x:Int × Nat}:∀ (l:List (Int × Nat)),l.Pairwise LX->(∀ y∈l,x.2<y.2)->(I.aY leK x l).Pairwise LX
 | [],_,_=>List.pairwise_singleton _ _
 | y::r,h,hx=>by
  have h1:=List.pairwise_cons.mp h
  show (if leK x y=true then x::y::r else y::I.aY leK x r).Pairwise LX
  by_cases c:x.1<=y.1
  ·rw [if_pos (decide_eq_true c)]
   refine List.pairwise_cons.mpr ⟨fun z hz => ?_,h⟩
   have xy:LX x y:=by have:=hx y (.head _); unfold LX; omega
   rcases List.mem_cons.mp hz with rfl | hz
   ·exact xy
   ·have yz:=h1.1 z hz
    unfold LX at xy yz ⊢
    omega
  ·rw [if_neg (by rw [leK,decide_eq_false c]; decide)]
   refine List.pairwise_cons.mpr ⟨fun z hz => ?_,il r h1.2 fun z hz=>hx z (.tail _ hz)⟩
   rcases List.mem_cons.mp ((cg r).mem_iff.mp hz) with rfl | hz
   ·exact .inl (by omega)
   ·exact h1.1 z hz
theorem eR:∀ (l:List (Int × Nat)),l.Pairwise (fun a b=>a.2<b.2)->(I.sortBy leK l).Pairwise LX
 | [],_=>.nil
 | x::r,h=>by
  have h1:=List.pairwise_cons.mp h
  exact il _ (eR r h1.2) fun y hy=>h1.1 y ((aN r).mem_iff.mp hy)
theorem ins_map {β:Type} (g:Int × α->Int × β) (hg:∀ a,(g a).1=a.1) {x:Int × α}:∀ (l:List (Int × α)),I.aY leK (g x) (l.map g)=(I.aY leK x l).map g
 | []=>rfl
 | y::r=>by
  show (if leK (g x) (g y)=true then g x::g y::r.map g else g y::I.aY leK (g x) (r.map g))=(if leK x y=true then x::y::r else y::I.aY leK x r).map g
  rw [show leK (g x) (g y)=leK x y by unfold leK; rw [hg,hg],ins_map g hg r]
  split <;> rfl
theorem sort_map {β:Type} (g:Int × α->Int × β) (hg:∀ a,(g a).1=a.1):∀ (l:List (Int × α)),I.sortBy leK (l.map g)=(I.sortBy leK l).map g
 | []=>rfl
 | x::r=>by
  show I.aY leK (g x) (I.sortBy leK (r.map g))=_
  rw [sort_map g hg r]
  exact ins_map g hg _
theorem iU {R:α->α->Prop} (ha:∀ a b,R a b->¬ R b a):∀ (x y:List α),x.Perm y->x.Pairwise R->y.Pairwise R->x=y
 | [],y,h,_,_=>(List.nil_perm.mp h).symm
 | a::x,[],h,_,_=>absurd h.length_eq (by simp)
 | a::x,b::y,h,hx,hy=>by
  have h1:=List.pairwise_cons.mp hx
  have h2:=List.pairwise_cons.mp hy
  have e:a=b:=by
   rcases List.mem_cons.mp (h.mem_iff.mp (.head x)) with e | m1
   ·exact e
   ·rcases List.mem_cons.mp (h.mem_iff.mpr (.head y)) with e | m2
    ·exact e.symm
    ·exact absurd (h2.1 a m1) (ha _ _ (h1.1 b m2))
  subst e
  rw [iU ha x y (List.perm_cons a |>.mp h) h1.2 h2.2]
theorem kI {ks:List Int} {xs:List α} {d:α} {N:Nat} (h1:ks.length=N) (h2:xs.length=N) {p:Array Nat} (sz:p.size=N) (up:Up (fun i=>ks.getD i 0) p N) (pm:p.Perm (List.range N).toArray) :
  p.toList.map (fun i=>xs.getD i d)=(I.sortBy (fun a b=>decide (a.1<=b.1)) (ks.zip xs)).map (·.2):=by
 let L:List (Int × Nat):=(List.range N).map fun i=>(ks.getD i 0,i)
 have hz:ks.zip xs=L.map fun a=>(a.1,xs.getD a.2 d):=by
  show _=((List.range N).map fun i=>(ks.getD i 0,i)).map fun a=>(a.1,xs.getD a.2 d)
  rw [List.map_map]
  apply List.ext_getElem
  ·simp [h1,h2]
  ·intro i a b
   have ai:i<N:=by simpa [h1,h2] using a
   simp [h1,h2,ai]
 have hs:p.toList=(I.sortBy leK L).map (·.2):=by
  refine iU (R:=Lx fun i=>ks.getD i 0) (fun a b u v=>by unfold Lx at u v; omega) _ _ ?_ ?_ ?_
  ·have q1:p.toList.Perm (List.range N):=by simpa using Array.perm_iff_toList_perm.mp pm
   have q2:((I.sortBy leK L).map (·.2)).Perm (L.map (·.2)):=(aN L).map _
   have q3:L.map (·.2)=List.range N:=by
    show ((List.range N).map fun i=>(ks.getD i 0,i)).map (·.2)=_
    rw [List.map_map]
    exact List.map_id _
   rw [q3] at q2
   exact q1.trans q2.symm
  ·rw [List.pairwise_iff_getElem]
   intro i j hi hj hij
   have hj':j<N:=by simpa [sz] using hj
   have u:=up i j hij hj'
   unfold pf at u
   simpa [Array.getD,sz,show i<N by omega,hj'] using u
  ·rw [List.pairwise_map]
   have u:=eR L (by
    show ((List.range N).map fun i=>(ks.getD i 0,i)).Pairwise _
    rw [List.pairwise_map]
    exact List.pairwise_lt_range)
   refine u.imp_of_mem fun {a b} ma mb r => ?_
   have hk:∀ a∈I.sortBy leK L,ks.getD a.2 0=a.1:=fun a ha=>by
    have:=(aN L).mem_iff.mp ha
    obtain ⟨i,_,rfl⟩:=List.mem_map.mp this
    rfl
   show ks.getD a.2 0<ks.getD b.2 0\/(ks.getD a.2 0=ks.getD b.2 0/\a.2<b.2)
   rw [hk a ma,hk b mb]
   exact r
 rw [hs,hz]
 have:=sort_map (fun a:Int × Nat=>(a.1,xs.getD a.2 d)) (fun _=>rfl) L
 rw [show (I.sortBy (fun a b=>decide (a.1<=b.1)) (L.map fun a=>(a.1,xs.getD a.2 d)))=(I.sortBy leK L).map (fun a:Int × Nat=>(a.1,xs.getD a.2 d)) from this,List.map_map,List.map_map]
 rfl
theorem vK {ks:List Int} {xs:List α} {d:α} {N:Nat} (h1:ks.length=N) (h2:xs.length=N) (hN:1<=N) :
  (bM (cw fun i=>ks.getD i 0) (kas_sort N)).toList.map (fun i=>xs.getD i d)=(I.sortBy (fun a b=>decide (a.1<=b.1)) (ks.zip xs)).map (·.2):=by
 obtain ⟨p,e,sz,up,pm⟩:=vq (fun i=>ks.getD i 0) hN
 rw [e]
 exact kI h1 h2 sz up pm
end
end IS
namespace IS
open PySem PySem.W PyProof.Rows
noncomputable def kpo {α:Type} (N:Nat) (R:α->Prop):KasT α->Prop
 | .ret a=>R a
 | .ask i j k=>i<N/\j<N/\∀ b,kpo N R (k b)
theorem cY {α β:Type} {N:Nat} {R:β->Prop} {f:α->KasT β}:∀ (t:KasT α),kpo N (fun a=>kpo N R (f a)) t->kpo N R (t.bind f)
 | .ret _,h=>h
 | .ask _ _ k,h=>⟨h.1,h.2.1,fun b=>cY (k b) (h.2.2 b)⟩
theorem bg {α:Type} {N:Nat} {R:α->Prop} {c:Prop} [Decidable c] {t u:KasT α} (h:kpo N R t) (g:kpo N R u):kpo N R (if c then t else u):=by
 split
 ·exact h
 ·exact g
theorem jJ {α:Type} {N:Nat} {R:α->Prop} {ask:Nat->Nat->Bool} {cmp:Nat->Nat->(Bool->Shared->Prop)->Shared->Prop} {s:Shared} (hc:∀ i j C,i<N->j<N->C (ask i j) s->cmp i j C s) {Q:α->Shared->Prop} :
  ∀ (t:KasT α),kpo N R t->Q (bM ask t) s->t.kasWp cmp Q s
 | .ret _,_,h=>h
 | .ask i j k,hp,h=>hc i j _ hp.1 hp.2.1 (jJ hc (k (ask i j)) (hp.2.2 _) h)
noncomputable def Lt (N:Nat) (p:Array Nat):Prop:=∀ i,p.getD i 0<N
theorem Lt.rev {N:Nat} {p:Array Nat} (h:Lt N p) (i j:Nat):Lt N (kas_rev p i j):=fun k=>by
 have hp:(kas_rev p i j).Perm p:=mirror_perm _ _ _ _
 by_cases hk:k<(kas_rev p i j).size
 ·have m:(kas_rev p i j).getD k 0∈kas_rev p i j:=by simp [Array.getD,hk]
  obtain ⟨q,hq,e⟩:=Array.mem_iff_getElem.mp (hp.mem_iff.mp m)
  have:=h q
  simp only [Array.getD,hq,dite_true] at this
  rw [<-e]
  exact this
 ·have:=h (p.size)
  simp [Array.getD] at this
  simp [Array.getD,hk,this]
theorem Lt.bub {N:Nat} {p:Array Nat} (h:Lt N p) (i j:Nat):Lt N (bubble p i j):=fun k=>by
 have hp:(bubble p i j).Perm p:=bubble_perm _ _ _
 by_cases hk:k<(bubble p i j).size
 ·have m:(bubble p i j).getD k 0∈bubble p i j:=by simp [Array.getD,hk]
  obtain ⟨q,hq,e⟩:=Array.mem_iff_getElem.mp (hp.mem_iff.mp m)
  have:=h q
  simp only [Array.getD,hq,dite_true] at this
  rw [<-e]
  exact this
 ·have:=h (p.size)
  simp [Array.getD] at this
  simp [Array.getD,hk,this]
section
variable {N:Nat}
theorem lW {p:Array Nat} (h:Lt N p):∀ (f n:Nat),kpo N (fun _=>True) (kas_asc p f n)
 | 0,_=>trivial
 | f+1,n=>⟨h _,h _,fun _=>bg trivial (lW h f (n+1))⟩
theorem gM:∀ (f:Nat) (p:Array Nat) (n q:Nat),Lt N p->kpo N (fun r=>Lt N r.1) (kas_desc f p n q)
 | 0,_,_,_,h=>h
 | f+1,p,n,q,h=>⟨h _,h _,fun _=>bg (bg (gM f _ _ _ (h.rev _ _)) (gM f _ _ _ h)) ⟨h _,h _,fun _=>bg h (gM f _ _ _ h)⟩⟩
theorem dS {α:Type} {R R':α->Prop} (hr:∀ a,R a->R' a):∀ (t:KasT α),kpo N R t->kpo N R' t
 | .ret _,h=>hr _ h
 | .ask _ _ k,h=>⟨h.1,h.2.1,fun b=>dS hr (k b) (h.2.2 b)⟩
theorem lq {p:Array Nat} (h:Lt N p) (n m:Nat):kpo N (fun r=>Lt N r.2) (kas_tail3 n m p) :=
 cY _ (dS (fun _ _=>h.rev _ _) _ (lW (h.rev _ _) _ _))
theorem fZ {p:Array Nat} (h:Lt N p) (n m:Nat):kpo N (fun r=>Lt N r.2) (kas_descPart n m p) :=
 cY _ (dS (fun r hr=>bg (lq (Lt.rev hr _ _) _ _) (lq hr _ _)) _ (gM _ _ _ _ h))
theorem iJ {p:Array Nat} (h:Lt N p) (m:Nat):kpo N (fun r=>Lt N r.2) (kas_count m p):=by
 unfold kas_count
 refine cY _ (dS (fun n _ => ?_) _ (lW h _ _))
 refine bg (show kpo N _ (KasT.ret (n,p)) from h) (bg ?_ (fZ h _ _))
 exact ⟨h _,h _,fun _=>bg (show kpo N _ (KasT.ret (n,p)) from h) (fZ (h.rev _ _) _ _)⟩
theorem iz {p:Array Nat} (h:Lt N p) (k:Nat):∀ (f l r:Nat),kpo N (fun _=>True) (kas_place p k f l r)
 | 0,_,_=>trivial
 | f+1,l,r=>bg trivial ⟨h _,h _,fun _=>bg (iz h k f _ _) (iz h k f _ _)⟩
theorem mG:∀ (f:Nat) (p:Array Nat) (k:Nat),Lt N p->kpo N (fun p=>Lt N p) (kas_bin f p k)
 | 0,_,_,h=>h
 | f+1,p,k,h=>cY _ (dS (fun _ _=>mG f _ _ (h.bub _ _)) _ (iz h k _ _ _))
theorem uv (h:1<=N):kpo N (fun p=>Lt N p) (kas_sort N):=by
 have l0:Lt N (List.range N).toArray:=fun i=>by
  by_cases z:i<N
  ·simp [Array.getD,z]
  ·simp [Array.getD,z]; omega
 unfold kas_sort
 refine cY _ (dS (R:=fun r:Nat × Array Nat=>Lt N r.2) (fun r hr => ?_) _ (iJ l0 N))
 have hr2:kpo N (fun p=>Lt N p) (KasT.ret r.2):=hr
 exact bg (mG _ _ _ hr) hr2
end
noncomputable def cZ (kz:List Int) (vs:List Value):List Value:=(I.sortBy (fun a b=>decide (a.1<=b.1)) (kz.zip vs)).map (·.2)
section
variable {prog:Program} {w:World} {A:Around} {E:Value->Shared->Prop} {s:Shared} {h₀:Heap} {L l:Addr} {m:Str->Option Value} {news:List (Addr × Obj)} {vs:List Value} {Q:Value->Shared->Prop} {kz:List Int} {f:Value}
theorem n6 {kS D:Addr} {e1:Nat} {Fin:List Value->Nat->Shared->Prop} (hks:∀ p∈(D,seqObj "list" #[] e1)::news,p.1≠kS) (hlen:kz.length=vs.length)
  (turn:∀ (i:Nat) (v:Value) (k:Int),vs[i]?=some v->kz[i]?=some k->∀ (h:Heap) (tk:Nat) (own:List (Addr × Obj)),Fr h₀ L h m->News h₀ L h (news++own) ->
   wpAny (model prog w) A (call f [v]) (KskEnd h₀ L m (news++own) k { s with heap:=h,toks:=tk }) (fun _ _=>False) { s with heap:=h,toks:=tk })
  (fin:∀ ks e h tk,IntsAre ks kz->Fr h₀ L h m->News h₀ L h ((kS,seqObj "list" (List.toArray ks) e)::(D,seqObj "list" #[] e1)::news)->Fin ks e { s with heap:=h,toks:=tk }) :
  ∀ (r:List Value) (i:Nat) (ks:List Value) (e:Nat) (h:Heap) (tk:Nat),vs.drop i=r->IntsAre ks (kz.take i)->Fr h₀ L h m->News h₀ L h ((kS,seqObj "list" (List.toArray ks) e)::(D,seqObj "list" #[] e1)::news) ->
   KatKeys prog w A h₀ L m kS f Fin r ks e { s with heap:=h,toks:=tk }
 | [],i,ks,e,h,tk,hr,hk,F,N=>by
  have hi:vs.length<=i:=List.drop_eq_nil_iff.mp hr
  rw [List.take_of_length_le (by omega)] at hk
  exact KatKeys.nil (fin ks e h tk hk F N)
 | v::r,i,ks,e,h,tk,hr,hk,F,N=>by
  have hi:i<vs.length:=by
   rcases Nat.lt_or_ge i vs.length with z | z
   ·exact z
   ·rw [List.drop_of_length_le z] at hr; cases hr
  have hv:vs[i]?=some v:=by
   have:=congrArg List.head? hr
   rw [List.head?_drop] at this
   exact this
  have hk2:kz[i]?=some (kz.getD i 0):=by rw [List.getElem?_eq_getElem (by omega)]; simp [List.getD,List.getElem?_eq_getElem (show i<kz.length by omega)]
  refine KatKeys.cons (wpAny_mono (turn i v _ hv hk2 h tk [(kS,seqObj "list" (List.toArray ks) e),(D,seqObj "list" #[] e1)] F fun p hp=>N p ?_) (fun x s' hx => ?_) fun _ _ z=>z)
  ·rcases List.mem_append.mp hp with z | z
   ·exact .tail _ (.tail _ z)
   ·rcases List.mem_cons.mp z with rfl | z
    ·exact .head _
    ·rw [List.mem_singleton.mp z]; exact .tail _ (.head _)
  ·obtain ⟨h',tk',t',rfl,rfl,F',N'⟩:=hx
   refine ⟨_,_,F',fun p hp=>N' p ?_,.head (r:=(D,seqObj "list" #[] e1)::news) hks,fun h2 c F2 N2 => ?_⟩
   ·rcases List.mem_cons.mp hp with rfl | hp
    ·exact List.mem_append_right _ (.head _)
    ·rcases List.mem_cons.mp hp with rfl | hp
     ·exact List.mem_append_right _ (.tail _ (.head _))
     ·exact List.mem_append_left _ hp
   ·refine n6 hks hlen turn fin r (i+1) (ks++[.int (kz.getD i 0) t']) c h2 tk' ?_ ?_ F2 N2
    ·have:=congrArg List.tail hr
     rw [List.tail_drop] at this
     exact this
    ·rw [List.take_succ,hk2]
     exact ksk_snoc hk
theorem gB:∀ {ks:List Value} {ns:List Int},IntsAre ks ns->∀ i,i<ns.length->∃ t,ks.getD i Value.none=.int (ns.getD i 0) t
 | _,_,.nil,i,h=>by simp at h
 | _,_,.cons n t r,0,_=>⟨t,rfl⟩
 | _,_,.cons n t r,i+1,h=>by
  obtain ⟨u,e⟩:=gB r i (by simpa using h)
  exact ⟨u,by simpa using e⟩
theorem sortedK {kw:List (Str × Value)} (F:Fr h₀ L s.heap m) (N:News h₀ L s.heap news) (hl:s.heap.IsList l vs.toArray) (hlen:kz.length=vs.length) (h64:vs.length<64)
  (ha1:argsOk "sorted" ⟨[.ref l],kw⟩) (ha2:∀ x,argsOk "list.sort" ⟨[.ref x],kw⟩) (ht:∀ x,Builtin.«list.sort» ⟨[.ref x],kw⟩=ksk_tree x f false)
  (turn:∀ (i:Nat) (v:Value) (k:Int),vs[i]?=some v->kz[i]?=some k->∀ (h:Heap) (tk:Nat) (own:List (Addr × Obj)),Fr h₀ L h m->News h₀ L h (news++own) ->
   wpAny (model prog w) A.in1.in1 (call f [v]) (KskEnd h₀ L m (news++own) k { s with heap:=h,toks:=tk }) (fun _ _=>False) { s with heap:=h,toks:=tk })
  (h:∀ D h' tk c,Fr h₀ L h' m->News h₀ L h' ((D,seqObj "list" (List.toArray (cZ kz vs)) c)::news)->(∀ q∈news,q.1<D)->Q (.ref D) { s with heap:=h',toks:=tk }) :
  wpAny (model prog w) A (call (.builtin "sorted") [.ref l] kw) Q E s:=by
 by_cases h2:2<=vs.length
 ·refine kat_sortedK F N hl h2 h64 ha1 ha2 ht fun D kS e1 h' F' N' dk dn => ?_
  have nk:∀ p∈(D,seqObj "list" #[] e1)::news,p.1≠kS:=fun p hp=>by
   rcases List.mem_cons.mp hp with rfl | hp
   ·exact Nat.ne_of_lt dk
   ·exact Nat.ne_of_lt (Nat.lt_trans (dn p hp) dk)
  refine n6 nk hlen turn (fun ks e h1 tk hk F1 N1 => ?_) vs 0 [] 0 h' s.toks rfl .nil F' N'
  have kl:ks.length=vs.length:=by rw [<-hlen]; exact hk.length
  have hkind:keyKind' (List.toArray ks)=pure oneType':=ksk_kind (by simpa using hk) (by simpa [kl] using h2)
  rw [hkind]
  refine wpAny_pure ?_
  refine jJ (N:=vs.length) (R:=fun p=>Lt vs.length p) (ask:=cw fun i=>kz.getD i 0) (fun i j C hi hj hc => ?_) _ (uv (by omega)) ?_
  ·obtain ⟨t1,q1⟩:=gB hk i (by omega)
   obtain ⟨t2,q2⟩:=gB hk j (by omega)
   show wpAny (model prog w) _ (keyLt' oneType' (ks.getD i Value.none) (ks.getD j Value.none)) C _ _
   rw [q1,q2]
   exact kat_lt_int hc
  ·have so:=vK (xs:=vs) (d:=Value.none) hlen rfl (by omega)
   show KatFin h₀ L m kS D ks e e1 ((bM (cw fun i=>kz.getD i 0) (kas_sort vs.length)).toList.map fun i=>vs.getD i Value.none) _ _
   rw [so]
   refine .intro F1 N1 (.head nk) fun h3 c F3 N3=>.intro F3 N3 (.tail (Nat.ne_of_gt dk) (.head fun p hp=>Nat.ne_of_lt (dn p hp))) fun h4 c4 F4 N4 => ?_
   exact h D h4 tk c4 F4 (fun p hp=>N4 p (.tail _ hp)) dn
 ·refine ksk_sorted F N hl hlen h64 ha1 ha2 ht turn fun D h' tk out c F' N' dn ko => ?_
  have e:out=List.toArray (cZ kz vs):=by
   obtain ⟨ps,p1,p2,p3⟩:=ko
   have:cZ kz vs=ps.map Prod.snd:=by
    unfold cZ
    match kz,vs,hlen,h2 with
    | [],[],_,_ =>
     have z:ps=[]:=List.perm_nil.mp p1
     rw [z]
     rfl
    | [k],[v],_,_ =>
     have z:ps=[(k,v)]:=List.perm_singleton.mp p1
     rw [z]
     rfl
    | _::_::_,vs,hl,h2=>rw [<-hl] at h2; simp at h2
    | [_],[],hl,_=>simp at hl
    | [],[_],hl,_=>simp at hl
    | _,_::_::_,_,h2=>simp at h2
   rw [this,<-p2]
  rw [e] at N'
  exact h D h' tk c F' N' dn
end
end IS
namespace SM
open PySem PySem.W PySem.Calls PyProof.Rows
noncomputable def vb:Bool->Keyed->Array Keyed->Nat->Nat->Nat->StateT SortSt Sem (Option Nat):=sortPriv% PySem.Builtin.gallop
section
variable {M:Model} {A:Around} {E:Value->Shared->Prop} {σ:Type} {s:Shared}
theorem kN {β:Type} {f:Nat->β->StateT σ Sem (ForInStep β)} {Q:β->σ->Shared->Prop} (I:Nat->β->σ->Prop):∀ (m a j:Nat) {c:β} {st:σ},I j c st ->
  (∀ i x c st,j<=i->i<j+m->x=a+(i - j)->I i c st->kasC M A E (f x c) (fun r st' s'=>match r with | .done c'=>Q c' st' s' | .yield c'=>s'=s/\I (i+1) c' st') st s) ->
  (∀ c st,I (j+m) c st->Q c st s)->kasC M A E (forIn (List.range' a m) c f) Q st s
 | 0,a,j,c,st,h0,hs,he=>kasC_nil (he c st h0)
 | m+1,a,j,c,st,h0,hs,he=>by
  rw [List.range'_succ]
  refine kasC_cons (wpAny_mono (hs j a c st (Nat.le_refl _) (by omega) (by omega) h0) (fun r s' h' => ?_) fun _ _ e=>e)
  obtain ⟨r,st'⟩:=r
  cases r with
  | done c'=>exact h'
  | yield c' =>
   obtain ⟨e,h'⟩:=h'
   show kasC M A E (forIn (List.range' (a+1) m) c' f) Q st' s'
   rw [e]
   refine kN I m (a+1) (j+1) h' (fun i x c st h1 h2 h3 h4=>hs i x c st (by omega) (by omega) (by omega) h4) fun c st h=>he c st ?_
   rwa [show j+(m+1)=j+1+m by omega]
theorem bh {β:Type} {a b:Nat} {c:β} {f:Nat->β->StateT σ Sem (ForInStep β)} {Q:β->σ->Shared->Prop} {st:σ} (I:Nat->β->σ->Prop) (h0:I 0 c st)
  (hs:∀ i c st,i<b - a->I i c st->kasC M A E (f (a+i) c) (fun r st' s'=>match r with | .done c'=>Q c' st' s' | .yield c'=>s'=s/\I (i+1) c' st') st s)
  (he:∀ c st,I (b - a) c st->Q c st s):kasC M A E (forIn [a:b] c f) Q st s :=
 kasC_range (kN I (b - a) a 0 h0 (fun i x c st _ h2 h3 h4=>by rw [h3]; exact hs i c st (by omega) h4) fun c st h=>he c st (by rwa [Nat.zero_add] at h))
end
section
variable {prog:Program} {w:World} {A:Around} {E:Value->Shared->Prop} {κ:SortKind} {s:Shared}
noncomputable def Cm (prog:Program) (w:World) (A:Around) (E:Value->Shared->Prop) (κ:SortKind) (s:Shared) (x y:Keyed) (b:Bool):Prop:=∀ (Q:Option Bool->SortSt->Shared->Prop) (st:SortSt),kindOf st=κ->Q (some b) st s->kasC (model prog w) A E (lt' x y) Q st s
theorem Cm.of {x y:Keyed} {b:Bool} (h:∀ C:Bool->Shared->Prop,C b s->wpAny (model prog w) A (keyLt' κ x.1 y.1) C (fun _ _=>False) s):Cm prog w A E κ s x y b:=by
 intro Q st hk hq
 rw [lt'_eq]
 refine kasC_bind (kasC_get ?_)
 rw [hk]
 refine kasC_bind (kasC_lift (wpAny_attempt (wpAny_mono (h (fun c s'=>Q (some c) st s') hq) (fun c s' hc => ?_) fun _ _ hF=>hF.elim)))
 exact kasC_pure hc
theorem aR {a:Array Keyed} {i:Nat} {x:Keyed} {Q:Keyed->SortSt->Shared->Prop} {st:SortSt} (h:a[i]?=some x) (hq:Q x st s):kasC (model prog w) A E (elem' a i) Q st s:=by
 rw [elem'_eq,h]
 exact kasC_pure hq
noncomputable def Bey (prog:Program) (w:World) (A:Around) (E:Value->Shared->Prop) (κ:SortKind) (s:Shared) (left:Bool) (k:Keyed) (a:Array Keyed) (b n t:Nat):Prop :=
 ∀ i,i<n->∃ x,a[b+i]?=some x/\(left=true->Cm prog w A E κ s x k (decide (i<t)))/\(left=false->Cm prog w A E κ s k x (decide (t<=i)))
theorem jE {left:Bool} {k:Keyed} {a:Array Keyed} {b n t i:Nat} (h:Bey prog w A E κ s left k a b n t) (hi:i<n) {Q:Option Bool->SortSt->Shared->Prop} {st:SortSt} (hk:kindOf st=κ) (hq:Q (some (decide (i<t))) st s) :
  kasC (model prog w) A E (do
   let x <-elem' a (b+i)
   if left=true then lt' x k else do
    let r <-lt' k x
    pure (Option.map (fun x => !x) r)) Q st s:=by
 obtain ⟨x,hx,h1,h2⟩:=h i hi
 refine kasC_bind (aR hx ?_)
 cases left with
 | true=>exact h1 rfl Q st hk hq
 | false =>
  refine kasC_bind (h2 rfl _ st hk (kasC_pure ?_))
  have:decide (i<t) = !decide (t<=i):=by
   by_cases z:t<=i
   ·rw [decide_eq_true z,decide_eq_false (by omega)]; rfl
   ·rw [decide_eq_false z,decide_eq_true (by omega)]; rfl
  rw [this] at hq
  exact hq
theorem av {α σ:Type} {M:Model} {m:StateT σ Sem α} {Q Q':α->σ->Shared->Prop} {st:σ} {s:Shared} (h:kasC M A E m Q st s) (hq:∀ a st' s',Q a st' s'->Q' a st' s'):kasC M A E m Q' st s :=
 wpAny_mono h (fun r s' h'=>hq r.1 r.2 s' h') fun _ _ e=>e
theorem af {α σ:Type} {M:Model} {c:Prop} [Decidable c] {a b:StateT σ Sem α} {Q:α->σ->Shared->Prop} {st:σ} {s:Shared} (h1:c->kasC M A E a Q st s) (h2:¬c->kasC M A E b Q st s):kasC M A E (if c then a else b) Q st s:=by
 split
 ·exact h1 (by assumption)
 ·exact h2 (by assumption)
theorem fT {left:Bool} {k:Keyed} {a:Array Keyed} {b n h t:Nat} {Q:Option Nat->SortSt->Shared->Prop} {st:SortSt} (hb:Bey prog w A E κ s left k a b n t) (hn:h<n) (ht:t<=n) (hk:kindOf st=κ) (hq:Q (some t) st s) :
  kasC (model prog w) A E (vb left k a b n h) Q st s:=by
 refine kasC_bind (jE hb hn hk ?_)
 dsimp (config:={zeta:=false,zetaHave:=false}) only
 extract_lets jp m1 m2
 have key:∀ l o lo hi,lo<=t->t<=hi->hi<=n->kasC (model prog w) A E (jp () l o lo hi) Q st s:=by
  intro l o lo hi e1 g2 e3
  refine kasC_bind (av (Q:=fun c st' s'=>st'=st/\s'=s/\∃ lo,c=(none,lo,t)) (bh (fun i c st'=>st'=st/\∃ lo hi,c=(none,lo,hi)/\lo<=t/\t<=hi/\hi<=n/\hi - lo+i<=n) ⟨rfl,lo,hi,rfl,e1,g2,e3,by omega⟩ ?_ ?_) ?_)
  ·rintro i c st' hi' ⟨rfl,lo,hi,rfl,g1,g2,g3,g4⟩
   refine af (fun z => ?_) fun z=>kasC_bind (jE (i:=lo+(hi - lo) / 2) hb (by have z:¬ lo >= hi:=z; omega) hk ?_)
   ·have z:lo >= hi:=z
    exact kasC_pure ⟨rfl,rfl,lo,by rw [show t=hi by omega]⟩
   ·have z:¬ lo >= hi:=z
    refine af (fun y => ?_) fun y => ?_
    ·have y:=of_decide_eq_true y
     exact kasC_pure ⟨rfl,rfl,lo+(hi - lo) / 2+1,hi,rfl,by omega,by omega,by omega,by omega⟩
    ·have y:¬ lo+(hi - lo) / 2<t:=fun q=>y (decide_eq_true q)
     exact kasC_pure ⟨rfl,rfl,lo,lo+(hi - lo) / 2,rfl,by omega,by omega,by omega,by omega⟩
  ·rintro c st' ⟨rfl,lo,hi,rfl,g1,g2,g3,g4⟩
   exact ⟨rfl,rfl,lo,by rw [show t=hi by omega]⟩
  ·rintro c st'' s'' ⟨rfl,rfl,lo,rfl⟩
   exact kasC_pure hq
 clear_value jp
 refine af (fun z => ?_) fun z => ?_
 ·have z:=of_decide_eq_true z
  refine kasC_bind (av (Q:=fun c st' s'=>st'=st/\s'=s/\∃ l o,c=(none,l,o)/\h+l<t/\t<=h+min o (n - h)) (bh (fun i c st'=>st'=st/\∃ l o,c=(none,l,o)/\h+l<t/\l<o/\i<o) ⟨rfl,0,1,rfl,by omega,by omega,by omega⟩ ?_ ?_) ?_)
  ·rintro i c st' hi' ⟨rfl,l,o,rfl,g1,g2,g3⟩
   refine af (fun y => ?_) fun y=>kasC_bind (jE (i:=h+o) hb (by have y:¬ o >= n - h:=y; omega) hk ?_)
   ·have y:o >= n - h:=y
    exact kasC_pure ⟨rfl,rfl,l,o,rfl,by omega,by omega⟩
   ·refine af (fun x => ?_) fun x => ?_
    ·have x:¬ h+o<t:=fun q=>by rw [decide_eq_true q] at x; cases x
     exact kasC_pure ⟨rfl,rfl,l,o,rfl,by omega,by omega⟩
    ·have x:h+o<t:=Decidable.byContradiction fun q=>x (by rw [decide_eq_false q]; rfl)
     exact kasC_pure ⟨rfl,rfl,o,2 * o+1,rfl,by omega,by omega,by omega⟩
  ·rintro c st' ⟨rfl,l,o,rfl,g1,g2,g3⟩
   exact ⟨rfl,rfl,l,o,rfl,by omega,by omega⟩
  rintro c st' s' ⟨rfl,rfl,l,o,rfl,g1,g2⟩
  exact key l o (h+l+1) (h+min o (n - h)) (by omega) g2 (by omega)
 ·have z:¬ h<t:=fun q=>z (decide_eq_true q)
  refine kasC_bind (av (Q:=fun c st' s'=>st'=st/\s'=s/\∃ l o,c=(none,l,o)/\h+1 - min o (h+1)<=t/\t<=h - l) (bh (fun i c st'=>st'=st/\∃ l o,c=(none,l,o)/\t<=h - l/\l<=h/\l<o/\i<o) ⟨rfl,0,1,rfl,by omega,by omega,by omega,by omega⟩ ?_ ?_) ?_)
  ·rintro i c st' hi' ⟨rfl,l,o,rfl,g1,g0,g2,g3⟩
   refine af (fun y => ?_) fun y=>kasC_bind (jE (i:=h - o) hb (by omega) hk ?_)
   ·have y:o >= h+1:=y
    exact kasC_pure ⟨rfl,rfl,l,o,rfl,by omega,by omega⟩
   ·have y:¬ o >= h+1:=y
    refine af (fun x => ?_) fun x => ?_
    ·have x:=of_decide_eq_true x
     exact kasC_pure ⟨rfl,rfl,l,o,rfl,by omega,by omega⟩
    ·have x:¬ h - o<t:=fun q=>x (decide_eq_true q)
     exact kasC_pure ⟨rfl,rfl,o,2 * o+1,rfl,by omega,by omega,by omega,by omega⟩
  ·rintro c st' ⟨rfl,l,o,rfl,g1,g0,g2,g3⟩
   exact ⟨rfl,rfl,l,o,rfl,by omega,by omega⟩
  rintro c st' s' ⟨rfl,rfl,l,o,rfl,e1,g2⟩
  exact key l o (h+1 - min o (h+1)) (h - l) e1 g2 (by omega)
end
end SM
namespace SM
section
variable {α:Type} (win:α->α->Bool)
noncomputable def mg:List α->List α->List α
 | [],B=>B
 | a::A,[]=>a::A
 | a::A,b::B=>if win b a=true then b::mg (a::A) B else a::mg A (b::B)
termination_by A B=>A.length+B.length
theorem bB (A:List α):mg win A []=A:=by cases A <;> simp [mg]
theorem bA (B:List α):mg win [] B=B:=by simp [mg]
variable {win}
theorem bP {a b:α} {A B:List α} (h:win b a=true):mg win (a::A) (b::B)=b::mg win (a::A) B:=by rw [mg,if_pos h]
theorem dE {a b:α} {A B:List α} (h:win b a=false):mg win (a::A) (b::B)=a::mg win A (b::B):=by rw [mg,if_neg (by simp [h])]
theorem tL {b:α} {A B:List α}:∀ (C:List α),(∀ x∈C,win b x=false)->mg win (C++A) (b::B)=C++mg win A (b::B)
 | [],_=>rfl
 | c::C,h=>by
  show mg win (c::(C++A)) (b::B)=c::(C++mg win A (b::B))
  rw [dE (h c (.head _)),tL C fun x hx=>h x (.tail _ hx)]
theorem qq {a:α} {A B:List α}:∀ (C:List α),(∀ y∈C,win y a=true)->mg win (a::A) (C++B)=C++mg win (a::A) B
 | [],_=>rfl
 | c::C,h=>by
  show mg win (a::A) (c::(C++B))=c::(C++mg win (a::A) B)
  rw [bP (h c (.head _)),qq C fun x hx=>h x (.tail _ hx)]
theorem t7 {a:α} {B:List α} (h:∀ y∈B,win y a=true):mg win [a] B=B++[a]:=by
 have:=qq (A:=[]) (B:=[]) B h
 rwa [List.append_nil,bB] at this
theorem ft {C:List α}:∀ (A B:List α),(∀ x∈C,∀ y∈B,win y x=true)->mg win (A++C) B=mg win A B++C
 | [],B,h=>by
  rw [bA]
  cases C with
  | nil=>rw [List.append_nil,List.append_nil,bA]
  | cons c C =>
   have:=qq (A:=C) (B:=[]) B (h c (.head _))
   rwa [List.append_nil,bB] at this
 | a::A,[],h=>by rw [bB,bB]
 | a::A,b::B,h=>by
  cases hw:win b a with
  | true =>
   show mg win (a::(A++C)) (b::B)=_
   rw [bP hw,bP hw]
   exact congrArg (b :: ·) (ft (a::A) B fun x hx y hy=>h x hx y (.tail _ hy))
  | false =>
   show mg win (a::(A++C)) (b::B)=_
   rw [dE hw,dE hw]
   exact congrArg (a :: ·) (ft A (b::B) h)
termination_by A B=>A.length+B.length
theorem eS {C:List α}:∀ (A B:List α),(∀ y∈C,∀ x∈A,win y x=false)->mg win A (B++C)=mg win A B++C
 | [],B,h=>by rw [bA,bA]
 | a::A,[],h=>by
  rw [bB]
  cases C with
  | nil=>rw [List.append_nil,List.append_nil,bB]
  | cons c C =>
   have:=tL (A:=[]) (B:=C) (b:=c) (a::A) (h c (.head _))
   rwa [List.append_nil,bA] at this
 | a::A,b::B,h=>by
  cases hw:win b a with
  | true =>
   show mg win (a::A) (b::(B++C))=_
   rw [bP hw,bP hw]
   exact congrArg (b :: ·) (eS (a::A) B h)
  | false =>
   show mg win (a::A) (b::(B++C))=_
   rw [dE hw,dE hw]
   exact congrArg (a :: ·) (eS A (b::B) fun y hy x hx=>h y hy x (.tail _ hx))
termination_by A B=>A.length+B.length
theorem thr {p:α->Bool}:∀ (C:List α),C.Pairwise (fun x x'=>p x=true->p x'=true)->∃ t,t<=C.length/\∀ i x,C[i]?=some x->p x=decide (t<=i)
 | [],_=>⟨0,Nat.le_refl _,fun i x h=>by simp at h⟩
 | c::C,h=>by
  obtain ⟨h1,h2⟩:=List.pairwise_cons.mp h
  cases hc:p c with
  | true =>
   refine ⟨0,Nat.zero_le _,fun i x hx => ?_⟩
   rw [decide_eq_true (Nat.zero_le _)]
   rcases List.mem_cons.mp (List.mem_of_getElem? hx) with rfl | hx
   ·exact hc
   ·exact h1 x hx hc
  | false =>
   obtain ⟨t,t1,t2⟩:=thr C h2
   refine ⟨t+1,Nat.succ_le_succ t1,fun i x hx => ?_⟩
   cases i with
   | zero=>cases hx; rw [hc]; rfl
   | succ i =>
    rw [t2 i x hx]
    exact decide_eq_decide.mpr (by omega)
theorem dt:∀ (A B:List α),(mg win A B).Perm (A++B)
 | [],B=>by rw [bA]; exact .refl _
 | a::A,[]=>by rw [bB,List.append_nil]
 | a::A,b::B=>by
  cases hw:win b a with
  | true =>
   rw [bP hw]
   exact ((dt (a::A) B).cons b).trans List.perm_middle.symm
  | false =>
   rw [dE hw]
   exact (dt A (b::B)).cons a
termination_by A B=>A.length+B.length
theorem rD {A B:List α} {z:α} (h:z∈mg win A B):z∈A\/z∈B:=List.mem_append.mp ((dt A B).mem_iff.mp h)
theorem qT {R:α->α->Prop} (tr:∀ a b c,R a b->R b c->R a c):∀ (A B:List α),A.Pairwise R->B.Pairwise R->(∀ x∈A,∀ y∈B,if win y x=true then R y x else R x y)->(mg win A B).Pairwise R
 | [],B,_,hB,_=>by rw [bA]; exact hB
 | a::A,[],hA,_,_=>by rw [bB]; exact hA
 | a::A,b::B,hA,hB,h=>by
  obtain ⟨a1,a2⟩:=List.pairwise_cons.mp hA
  obtain ⟨b1,b2⟩:=List.pairwise_cons.mp hB
  have hw:=h a (.head _) b (.head _)
  cases e:win b a with
  | true =>
   rw [e,if_pos rfl] at hw
   rw [bP e]
   refine List.pairwise_cons.mpr ⟨fun z hz => ?_,qT tr (a::A) B hA b2 fun x hx y hy=>h x hx y (.tail _ hy)⟩
   rcases rD hz with hz | hz
   ·rcases List.mem_cons.mp hz with rfl | hz
    ·exact hw
    ·exact tr _ _ _ hw (a1 z hz)
   ·exact b1 z hz
  | false =>
   rw [e,if_neg (by simp)] at hw
   rw [dE e]
   refine List.pairwise_cons.mpr ⟨fun z hz => ?_,qT tr A (b::B) a2 hB fun x hx y hy=>h x (.tail _ hx) y hy⟩
   rcases rD hz with hz | hz
   ·exact a1 z hz
   ·rcases List.mem_cons.mp hz with rfl | hz
    ·exact hw
    ·exact tr _ _ _ hw (b1 z hz)
termination_by A B=>A.length+B.length
theorem mR {β:Type} (f:β->α):∀ (A B:List β),mg win (A.map f) (B.map f)=(mg (fun y x=>win (f y) (f x)) A B).map f
 | [],B=>by rw [bA]; exact bA win _
 | a::A,[]=>by rw [bB]; exact bB win _
 | a::A,b::B=>by
  show mg win (f a::A.map f) (f b::B.map f)=_
  cases e:win (f b) (f a) with
  | true =>
   rw [bP e,bP (win:=fun y x=>win (f y) (f x)) e]
   exact congrArg (f b :: ·) (mR f (a::A) B)
  | false =>
   rw [dE e,dE (win:=fun y x=>win (f y) (f x)) e]
   exact congrArg (f a :: ·) (mR f A (b::B))
termination_by A B=>A.length+B.length
end
end SM
namespace SM
open PySem PySem.W PySem.Calls PyProof.Rows
noncomputable def tV:Array Keyed->Array Keyed->StateT SortSt Sem (Array Keyed):=sortPriv% PySem.Builtin.mergeLo
noncomputable def Sm (st st':SortSt):Prop:=kindOf st'=kindOf st/\arrOf st'=arrOf st/\pendingOf st'=pendingOf st/\failedOf st'=failedOf st
theorem ax {α:Type} {l:List α} {i:Nat} {x:α} (h:l[i]?=some x):l.drop i=x::l.drop (i+1):=by
 obtain ⟨h1,h2⟩:=List.getElem?_eq_some_iff.mp h
 rw [List.drop_eq_getElem_cons h1,h2]
section
variable {prog:Program} {w:World} {A:Around} {E:Value->Shared->Prop} {κ:SortKind} {s:Shared}
variable {win:Keyed->Keyed->Bool} {X Y:List Keyed}
noncomputable def Iv (win:Keyed->Keyed->Bool) (X Y R:List Keyed) (out:Array Keyed) (ia ib:Nat):Prop:=out.toList++mg win (X.drop ia) (Y.drop ib)=R/\ia+1<X.length/\ib<Y.length
structure Two (prog:Program) (w:World) (A:Around) (E:Value->Shared->Prop) (κ:SortKind) (s:Shared) (win:Keyed->Keyed->Bool) (X Y:List Keyed):Prop where
 cm:∀ x∈X,∀ y∈Y,Cm prog w A E κ s y x (win y x)
 up:X.Pairwise fun x x'=>∀ y,win y x=true->win y x'=true
 dn:Y.Pairwise fun y y'=>∀ x,win y' x=true->win y x=true
theorem Two.yE (T:Two prog w A E κ s win X Y) {y:Keyed} (hy:y∈Y) {lo hi:Nat} (hh:hi<=X.length) (hl:lo<=hi):∃ t,t<=hi - lo/\Bey prog w A E κ s false y X.toArray lo (hi - lo) t/\∀ i x,X[lo+i]?=some x->lo+i<hi->win y x=decide (t<=i):=by
 have hp:((X.take hi).drop lo).Pairwise fun x x'=>win y x=true->win y x'=true:=(T.up.sublist ((List.drop_sublist _ _).trans (List.take_sublist _ _))).imp fun h=>h y
 obtain ⟨t,t1,t2⟩:=thr _ hp
 have t3:∀ i x,X[lo+i]?=some x->lo+i<hi->win y x=decide (t<=i):=fun i x hx hi'=>t2 i x (by rw [List.getElem?_drop,List.getElem?_take,if_pos hi']; exact hx)
 refine ⟨t,by rw [List.length_drop,List.length_take] at t1; omega,fun i hi' => ?_,t3⟩
 obtain ⟨x,hx⟩:∃ x,X[lo+i]?=some x:=⟨_,List.getElem?_eq_getElem (by omega)⟩
 refine ⟨x,by rw [List.getElem?_toArray]; exact hx,fun z=>(by cases z),fun _ => ?_⟩
 rw [<-t3 i x hx (by omega)]
 exact T.cm x (List.mem_of_getElem? hx) y hy
theorem Two.xr (T:Two prog w A E κ s win X Y) {x:Keyed} (hx:x∈X) {lo hi:Nat} (hh:hi<=Y.length) (hl:lo<=hi):∃ t,t<=hi - lo/\Bey prog w A E κ s true x Y.toArray lo (hi - lo) t/\∀ i y,Y[lo+i]?=some y->lo+i<hi->win y x=decide (i<t):=by
 have hp:((Y.take hi).drop lo).Pairwise fun y y'=>(!win y x)=true->(!win y' x)=true:=(T.dn.sublist ((List.drop_sublist _ _).trans (List.take_sublist _ _))).imp fun {y y'} h=>by
  have:=h x
  cases h1:win y x <;> cases h2:win y' x <;> simp_all
 obtain ⟨t,t1,t2⟩:=thr (p:=fun y => !win y x) _ hp
 have t3:∀ i y,Y[lo+i]?=some y->lo+i<hi->win y x=decide (i<t):=fun i y hy hi'=>by
  have:=t2 i y (by rw [List.getElem?_drop,List.getElem?_take,if_pos hi']; exact hy)
  by_cases z:t<=i
  ·rw [decide_eq_true z] at this; rw [decide_eq_false (by omega)]; simpa using this
  ·rw [decide_eq_false z] at this; rw [decide_eq_true (by omega)]; simpa using this
 refine ⟨t,by rw [List.length_drop,List.length_take] at t1; omega,fun i hi' => ?_,t3⟩
 obtain ⟨y,hy⟩:∃ y,Y[lo+i]?=some y:=⟨_,List.getElem?_eq_getElem (by omega)⟩
 refine ⟨y,by rw [List.getElem?_toArray]; exact hy,fun _ => ?_,fun z=>(by cases z)⟩
 rw [<-t3 i y hy (by omega)]
 exact T.cm x hx y (List.mem_of_getElem? hy)
end
end SM
namespace SM
open PySem PySem.W PySem.Calls PyProof.Rows
section
variable {prog:Program} {w:World} {A:Around} {E:Value->Shared->Prop} {κ:SortKind} {s:Shared}
variable {win:Keyed->Keyed->Bool} {X Y:List Keyed}
theorem lh {out:Array Keyed} {ia ib:Nat}:(out++X.toArray.extract ia X.length++Y.toArray.extract ib Y.length).toList=out.toList++X.drop ia++Y.drop ib:=by
 simp
 rw [List.take_of_length_le (by simp),List.take_of_length_le (by simp)]
theorem oz {out:Array Keyed} {ia ib:Nat}:(out++Y.toArray.extract ib Y.length++X.toArray.extract ia X.length).toList=out.toList++Y.drop ib++X.drop ia:=by
 simp
 rw [List.take_of_length_le (by simp),List.take_of_length_le (by simp)]
theorem Iv.ud {R:List Keyed} {out:Array Keyed} {ia ib:Nat} (h:out.toList++mg win (X.drop ia) (Y.drop ib)=R) (hb:ib=Y.length):out.toList++X.drop ia++Y.drop ib=R:=by
 rw [List.drop_eq_nil_of_le (by omega:Y.length<=ib)] at h ⊢
 rw [bB] at h
 rw [List.append_nil]; exact h
theorem nA {R:List Keyed} {out:Array Keyed} {ia ib t:Nat} {y:Keyed} (h:out.toList++mg win (X.drop ia) (Y.drop ib)=R) (hy:Y[ib]?=some y) (ht:ia+t<=X.length) (hw:∀ i x,X[ia+i]?=some x->i<t->win y x=false) :
  (out++X.toArray.extract ia (ia+t)).toList++mg win (X.drop (ia+t)) (Y.drop ib)=R:=by
 have e:X.drop ia=(X.drop ia).take t++X.drop (ia+t):=by rw [<-List.drop_drop,List.take_append_drop]
 have e2:(out++X.toArray.extract ia (ia+t)).toList=out.toList++(X.drop ia).take t:=by simp
 rw [e2,List.append_assoc,<-h]
 conv=>rhs; rw [e]
 rw [ax hy]
 congr 1
 refine (tL _ fun x hx => ?_).symm
 obtain ⟨i,hi⟩:=List.getElem?_of_mem hx
 rw [List.getElem?_take] at hi
 split at hi
 ·rw [List.getElem?_drop] at hi
  rename_i z
  exact hw i x hi z
 ·cases hi
theorem nB {R:List Keyed} {out:Array Keyed} {ia ib t:Nat} {x:Keyed} (h:out.toList++mg win (X.drop ia) (Y.drop ib)=R) (hx:X[ia]?=some x) (ht:ib+t<=Y.length) (hw:∀ i y,Y[ib+i]?=some y->i<t->win y x=true) :
  (out++Y.toArray.extract ib (ib+t)).toList++mg win (X.drop ia) (Y.drop (ib+t))=R:=by
 have e:Y.drop ib=(Y.drop ib).take t++Y.drop (ib+t):=by rw [<-List.drop_drop,List.take_append_drop]
 have e2:(out++Y.toArray.extract ib (ib+t)).toList=out.toList++(Y.drop ib).take t:=by simp
 rw [e2,List.append_assoc,<-h]
 conv=>rhs; rw [e]
 rw [ax hx]
 congr 1
 refine (qq _ fun y hy => ?_).symm
 obtain ⟨i,hi⟩:=List.getElem?_of_mem hy
 rw [List.getElem?_take] at hi
 split at hi
 ·rw [List.getElem?_drop] at hi
  rename_i z
  exact hw i y hi z
 ·cases hi
noncomputable def iQ:Nat->StateT SortSt Sem Unit:=sortPriv% PySem.Builtin.setMinGallop
theorem Sm.trans {a b c:SortSt} (h:Sm a b) (g:Sm b c):Sm a c:=⟨g.1.trans h.1,g.2.1.trans h.2.1,g.2.2.1.trans h.2.2.1,g.2.2.2.trans h.2.2.2⟩
theorem sQ {z:Nat} {Q:Unit->SortSt->Shared->Prop} {st:SortSt} (h:∀ st',Sm st st'->Q () st' s):kasC (model prog w) A E (iQ z) Q st s:=kasC_modify (h _ ⟨rfl,rfl,rfl,rfl⟩)
noncomputable def IL (win:Keyed->Keyed->Bool) (X Y R:List Keyed) (i k:Nat) (out:Array Keyed) (ia ib:Nat):Prop:=Iv win X Y R out ia ib/\i+k<=ia+ib
noncomputable def PB (st:SortSt) (s:Shared) (R:List Keyed) (I:Nat->Array Keyed->Nat->Nat->Prop) (i:Nat):ForInStep (Option (Array Keyed) × Array Keyed × Nat × Nat × Nat × Nat × Nat)->SortSt->Shared->Prop
 | .done c,st',s'=>s'=s/\Sm st st'/\((∃ r,c.1=some r/\r.toList=R)\/∃ out ia ib g ac bc,c=(none,out,ia,ib,g,ac,bc)/\I 1 out ia ib)
 | .yield c,st',s'=>s'=s/\Sm st st'/\∃ out ia ib g ac bc,c=(none,out,ia,ib,g,ac,bc)/\I i out ia ib
theorem Cf {Q:Array Keyed->SortSt->Shared->Prop} {st:SortSt} (hk:kindOf st=κ) (T:Two prog w A E κ s win X Y) (hX:0<X.length) (hY:0<Y.length) (h0:∀ x y,X[0]?=some x->Y[0]?=some y->win y x=true) (hL:∀ x,X[X.length - 1]?=some x->∀ y∈Y,win y x=true)
  (hq:∀ r st',r.toList=mg win X Y->Sm st st'->Q r st' s):kasC (model prog w) A E (tV X.toArray Y.toArray) Q st s:=by
 obtain ⟨x0,e1⟩:∃ x,X[0]?=some x:=⟨_,List.getElem?_eq_getElem hX⟩
 obtain ⟨y0,e2⟩:∃ y,Y[0]?=some y:=⟨_,List.getElem?_eq_getElem hY⟩
 have w0:=h0 x0 y0 e1 e2
 have sX:X.toArray.size=X.length:=List.size_toArray ..
 have sY:Y.toArray.size=Y.length:=List.size_toArray ..
 have gX:∀ i,X.toArray[i]?=X[i]?:=fun i=>List.getElem?_toArray ..
 have gY:∀ i,Y.toArray[i]?=Y[i]?:=fun i=>List.getElem?_toArray ..
 obtain ⟨R,hR⟩:∃ R,mg win X Y=R:=⟨_,rfl⟩
 have i0:[y0]++mg win (X.drop 0) (Y.drop 1)=R:=by
  have:=ax e1; have d2:=ax e2
  rw [List.drop_zero] at this d2 ⊢
  rw [<-hR]
  conv=>rhs; rw [this,d2]
  rw [bP w0,<-this]; rfl
 rw [hR] at hq
 have lastE:∀ {out:Array Keyed} {ia ib:Nat},out.toList++mg win (X.drop ia) (Y.drop ib)=R->ia+1=X.length->out.toList++Y.drop ib++X.drop ia=R:=by
  intro out ia ib h1 h2
  obtain ⟨x,hx⟩:∃ x,X[ia]?=some x:=⟨_,List.getElem?_eq_getElem (by omega)⟩
  have hd:=ax hx
  rw [List.drop_eq_nil_of_le (by omega:X.length<=ia+1)] at hd
  rw [hd] at h1 ⊢
  rw [t7 fun y hy=>hL x (by rw [<-h2]; exact hx) y (List.mem_of_mem_drop hy)] at h1
  rw [List.append_assoc]; exact h1
 refine kasC_bind (kasC_lift (wpAny_rule ?_))
 refine kasC_bind (aR (gY 0 ▸ e2) ?_)
 refine af (fun c1=>kasC_pure (hq _ st ?_ ⟨rfl,rfl,rfl,rfl⟩)) fun c1 => ?_
 ·exact lh.trans (Iv.ud i0 (eq_of_beq c1))
 refine af (fun c2=>kasC_pure (hq _ st ?_ ⟨rfl,rfl,rfl,rfl⟩)) fun c2 => ?_
 ·exact oz.trans (lastE i0 (eq_of_beq c2))
 have c1:¬ 1=Y.length:=fun z=>c1 (beq_iff_eq.mpr z)
 have c2:¬ 0+1=X.length:=fun z=>c2 (beq_iff_eq.mpr z)
 refine kasC_bind (kasC_get ?_)
 refine kasC_bind (av (Q:=fun c st' s'=>s'=s/\Sm st st'/\∃ r,c.1=some r/\r.toList=R) (bh (fun i c st'=>Sm st st'/\∃ out ia ib g,c=(none,out,ia,ib,g)/\Iv win X Y R out ia ib/\i<=ia+ib) ⟨⟨rfl,rfl,rfl,rfl⟩,_,_,_,_,rfl,⟨i0,by omega,by omega⟩,by omega⟩ ?_ ?_) ?_)
 ·rintro i c st1 hi ⟨hs1,out,ia,ib,g,rfl,iv,hp⟩
  have hk1:kindOf st1=κ:=hs1.1.trans hk
  refine kasC_bind (av (Q:=fun c st' s'=>s'=s/\st'=st1/\((∃ r,c.1=some r/\r.toList=R)\/∃ out ia ib ac bc,c=(none,out,ia,ib,ac,bc)/\Iv win X Y R out ia ib/\i<=ia+ib)) (bh (fun j c st'=>st'=st1/\∃ out ia ib ac bc,c=(none,out,ia,ib,ac,bc)/\Iv win X Y R out ia ib/\i+j<=ia+ib) ⟨rfl,_,_,_,_,_,rfl,iv,by omega⟩ ?_ ?_) ?_)
  ·rintro j c st2 hj ⟨rfl,out,ia,ib,ac,bc,rfl,⟨v1,v2,v3⟩,hp⟩
   obtain ⟨x,hx⟩:∃ x,X[ia]?=some x:=⟨_,List.getElem?_eq_getElem (by omega)⟩
   obtain ⟨y,hy⟩:∃ y,Y[ib]?=some y:=⟨_,List.getElem?_eq_getElem (by omega)⟩
   refine kasC_bind (aR ((gY ib).trans hy) (kasC_bind (aR ((gX ia).trans hx) (kasC_bind (T.cm x (List.mem_of_getElem? hx) y (List.mem_of_getElem? hy) _ st2 hk1 ?_)))))
   refine af (fun hw => ?_) fun hw => ?_
   ·refine kasC_bind (aR ((gY ib).trans hy) ?_)
    have n1:(out.push y).toList++mg win (X.drop ia) (Y.drop (ib+1))=R:=by
     rw [ax hx,ax hy,bP hw] at v1
     rw [ax hx,Array.toList_push,List.append_assoc]; exact v1
    refine af (fun c3=>kasC_pure ⟨rfl,rfl,.inl ⟨_,rfl,lh.trans (Iv.ud n1 (eq_of_beq c3))⟩⟩) fun c3 => ?_
    have c3:¬ ib+1=Y.length:=fun z=>c3 (beq_iff_eq.mpr z)
    exact af (fun _=>kasC_pure ⟨rfl,rfl,.inr ⟨out.push y,ia,ib+1,_,_,rfl,⟨n1,by omega,by omega⟩,by omega⟩⟩) fun _=>kasC_pure ⟨rfl,rfl,out.push y,ia,ib+1,_,_,rfl,⟨n1,by omega,by omega⟩,by omega⟩
   ·refine kasC_bind (aR ((gX ia).trans hx) ?_)
    have n1:(out.push x).toList++mg win (X.drop (ia+1)) (Y.drop ib)=R:=by
     rw [ax hx,ax hy,dE (by simpa using hw)] at v1
     rw [ax hy,Array.toList_push,List.append_assoc]; exact v1
    refine af (fun c3=>kasC_pure ⟨rfl,rfl,.inl ⟨_,rfl,oz.trans (lastE n1 (eq_of_beq c3))⟩⟩) fun c3 => ?_
    have c3:¬ ia+1+1=X.length:=fun z=>c3 (beq_iff_eq.mpr z)
    exact af (fun _=>kasC_pure ⟨rfl,rfl,.inr ⟨out.push x,ia+1,ib,_,_,rfl,⟨n1,by omega,by omega⟩,by omega⟩⟩) fun _=>kasC_pure ⟨rfl,rfl,out.push x,ia+1,ib,_,_,rfl,⟨n1,by omega,by omega⟩,by omega⟩
  ·rintro c st2 ⟨rfl,out,ia,ib,ac,bc,rfl,iv,hp⟩
   exact ⟨rfl,rfl,.inr ⟨_,_,_,_,_,rfl,iv,by omega⟩⟩
  rintro c st2 s2 ⟨rfl,rfl,⟨r,e,hr⟩ | ⟨out,ia,ib,ac,bc,rfl,iv,hp⟩⟩
  ·obtain ⟨c,c'⟩:=c
   cases (show c=some r from e)
   exact kasC_pure ⟨rfl,hs1,r,rfl,hr⟩
  refine kasC_bind (kasC_lift (wpAny_rule ?_))
  refine kasC_bind (av (Q:=fun c st' s'=>s'=s2/\Sm st st'/\((∃ r,c.1=some r/\r.toList=R)\/∃ out ia ib g ac bc,c=(none,out,ia,ib,g,ac,bc)/\Iv win X Y R out ia ib/\i<ia+ib)) (bh (fun j c st'=>Sm st st'/\∃ out ia ib g ac bc,c=(none,out,ia,ib,g,ac,bc)/\Iv win X Y R out ia ib/\i+j<=ia+ib) ⟨hs1,_,_,_,_,_,_,rfl,iv,by omega⟩ ?_ ?_) ?_)
  ·rintro j c st3 hj ⟨hs3,out,ia,ib,g,ac,bc,rfl,⟨v1,v2,v3⟩,hp⟩
   refine av (Q:=PB st s2 R (IL win X Y R i) (j+1)) ?_ ?_
   ·extract_lets z1 z2 z3 z4 z5 z6 z7 z8 z9 z10 z11 ib1 jp
    obtain ⟨y,hy⟩:∃ y,Y[ib]?=some y:=⟨_,List.getElem?_eq_getElem (by omega)⟩
    have my:=List.mem_of_getElem? hy
    have key:∀ z,kasC (model prog w) A E (jp () z) (PB st s2 R (IL win X Y R i) (j+1)) st3 s2:=by
     intro z
     refine kasC_bind (sQ fun st4 h4=>kasC_bind (aR ((gY ib).trans hy) ?_))
     have hs4:=hs3.trans h4
     have hk4:kindOf st4=κ:=hs4.1.trans hk
     obtain ⟨t,t1,t2,t3⟩:=T.yE my (lo:=ia) (Nat.le_refl X.length) (by omega)
     refine kasC_bind (fT t2 (show 0<X.length - ia by omega) t1 hk4 ?_)
     have n1:(out++X.toArray.extract ia (ia+t)).toList++mg win (X.drop (ia+t)) (Y.drop ib)=R:=nA v1 hy (by omega) fun i x hx hi=>by rw [t3 i x hx (by have:=(List.getElem?_eq_some_iff.mp hx).1; omega),decide_eq_false (by omega)]
     have t4:∀ x,X[ia+t]?=some x->win y x=true:=fun x hx=>by rw [t3 t x hx (List.getElem?_eq_some_iff.mp hx).1,decide_eq_true (Nat.le_refl _)]
     clear t3 t2
     dsimp (config:={zeta:=false,zetaHave:=false}) only
     extract_lets ac1 jp2 out1 ia1
     have fI:∀ out2 ia2,out2.toList++mg win (X.drop ia2) (Y.drop ib)=R->(∀ x,X[ia2]?=some x->win y x=true)->ia2+1<X.length->i+j<=ia2+ib->kasC (model prog w) A E (jp2 () out2 ia2) (PB st s2 R (IL win X Y R i) (j+1)) st4 s2:=by
      intro out2 ia2 n1 t4 b1 b2
      refine kasC_bind (aR ((gY ib).trans hy) ?_)
      obtain ⟨x,hx⟩:∃ x,X[ia2]?=some x:=⟨_,List.getElem?_eq_getElem (by omega)⟩
      have n3:(out2.push y).toList++mg win (X.drop ia2) (Y.drop (ib+1))=R:=by
       rw [ax hx,ax hy,bP (t4 x hx)] at n1
       rw [ax hx,Array.toList_push,List.append_assoc]; exact n1
      refine af (fun c5=>kasC_pure ⟨rfl,hs4,.inl ⟨_,rfl,lh.trans (Iv.ud n3 (eq_of_beq c5))⟩⟩) fun c5 => ?_
      have c5:¬ ib+1=Y.length:=fun z=>c5 (beq_iff_eq.mpr z)
      refine kasC_bind (aR ((gX ia2).trans hx) ?_)
      obtain ⟨u,u1,u2,u3⟩:=T.xr (List.mem_of_getElem? hx) (lo:=ib+1) (Nat.le_refl Y.length) (by omega)
      refine kasC_bind (fT u2 (show 0<Y.length - (ib+1) by omega) u1 hk4 ?_)
      have n4:(out2.push y++Y.toArray.extract (ib+1) (ib+1+u)).toList++mg win (X.drop ia2) (Y.drop (ib+1+u))=R:=nB n3 hx (by omega) fun i y hy hi=>by rw [u3 i y hy (by have:=(List.getElem?_eq_some_iff.mp hy).1; omega),decide_eq_true (by omega)]
      have u4:∀ y,Y[ib+1+u]?=some y->win y x=false:=fun y hy=>by rw [u3 u y hy (List.getElem?_eq_some_iff.mp hy).1,decide_eq_false (by omega)]
      clear u3 u2
      dsimp (config:={zeta:=false,zetaHave:=false}) only
      extract_lets bc1 ia3 jp3 out4 ib4
      have key3:∀ out3 ib3,out3.toList++mg win (X.drop ia2) (Y.drop ib3)=R->(∀ y,Y[ib3]?=some y->win y x=false)->ib3<Y.length->i+j<ia2+ib3->kasC (model prog w) A E (jp3 () out3 ib3) (PB st s2 R (IL win X Y R i) (j+1)) st4 s2:=by
       intro out3 ib3 n4 u4 b3 b4
       refine kasC_bind (aR ((gX ia2).trans hx) ?_)
       obtain ⟨y3,hy3⟩:∃ y,Y[ib3]?=some y:=⟨_,List.getElem?_eq_getElem b3⟩
       have n5:(out3.push x).toList++mg win (X.drop (ia2+1)) (Y.drop ib3)=R:=by
        rw [ax hx,ax hy3,dE (u4 y3 hy3)] at n4
        rw [ax hy3,Array.toList_push,List.append_assoc]; exact n4
       refine af (fun c7=>kasC_pure ⟨rfl,hs4,.inl ⟨_,rfl,oz.trans (lastE n5 (eq_of_beq c7))⟩⟩) fun c7 => ?_
       have c7:¬ ia2+1+1=X.length:=fun z=>c7 (beq_iff_eq.mpr z)
       have iv:IL win X Y R i (j+1) (out3.push x) (ia2+1) ib3:=⟨⟨n5,by omega,by omega⟩,by omega⟩
       exact af (fun _=>kasC_pure ⟨rfl,hs4,.inr ⟨out3.push x,ia2+1,ib3,_,_,_,rfl,iv.1,by omega⟩⟩) fun _=>kasC_pure ⟨rfl,hs4,out3.push x,ia2+1,ib3,_,_,_,rfl,iv⟩
      clear_value jp3
      refine af (fun cu=>af (fun c6=>kasC_pure ⟨rfl,hs4,.inl ⟨_,rfl,lh.trans (Iv.ud n4 (eq_of_beq c6))⟩⟩) fun c6 => ?_) fun cu => ?_
      ·have c6:¬ ib+1+u=Y.length:=fun z=>c6 (beq_iff_eq.mpr z)
       exact key3 _ (ib+1+u) n4 u4 (by omega) (by omega)
      ·have u0:u=0:=by omega
       exact key3 _ (ib+1) n3 (by rw [u0] at u4; exact u4) (by omega) (by omega)
     clear_value jp2
     refine af (fun ct=>af (fun c3=>kasC_pure ⟨rfl,hs4,.inl ⟨_,rfl,oz.trans (lastE n1 (eq_of_beq c3))⟩⟩) fun c3=>af (fun c4 => ?_) fun c4 => ?_) fun ct => ?_
     ·have c4:ia+t=X.length:=eq_of_beq c4
      refine kasC_pure ⟨rfl,hs4,.inl ⟨_,rfl,lh.trans ?_⟩⟩
      rw [List.drop_eq_nil_of_le (by omega:X.length<=ia+t),bA] at n1
      show (out++X.toArray.extract ia (ia+t)).toList++X.drop (ia+t)++Y.drop ib=R
      rw [List.drop_eq_nil_of_le (by omega:X.length<=ia+t),List.append_nil]
      exact n1
     ·have c3:¬ ia+t+1=X.length:=fun z=>c3 (beq_iff_eq.mpr z)
      have c4:¬ ia+t=X.length:=fun z=>c4 (beq_iff_eq.mpr z)
      exact fI _ (ia+t) n1 t4 (by omega) (by omega)
     ·have t0:t=0:=by omega
      exact fI _ ia v1 (by rw [t0] at t4; exact t4) v2 hp
    clear_value jp
    exact af (fun _=>key _) fun _=>key _
   ·rintro (c | c) st' s' ⟨rfl,h2,h3⟩
    ·refine ⟨rfl,h2,h3.imp id ?_⟩
     rintro ⟨out,ia,ib,g,ac,bc,e,h,h'⟩
     exact ⟨out,ia,ib,g,ac,bc,e,h,by omega⟩
    ·obtain ⟨out,ia,ib,g,ac,bc,e,h,h'⟩:=h3
     exact ⟨rfl,h2,out,ia,ib,g,ac,bc,e,h,by omega⟩
  ·rintro c st3 ⟨hs3,out,ia,ib,g,ac,bc,rfl,iv,hp⟩
   exact ⟨rfl,hs3,.inr ⟨_,_,_,_,_,_,rfl,iv,by omega⟩⟩
  rintro c st3 s3 ⟨rfl,hs3,⟨r,e,hr⟩ | ⟨out,ia,ib,g,ac,bc,rfl,iv,hp⟩⟩
  ·obtain ⟨c,c'⟩:=c
   cases (show c=some r from e)
   exact kasC_pure ⟨rfl,hs3,r,rfl,hr⟩
  refine kasC_bind (kasC_modify ?_)
  exact kasC_pure ⟨rfl,hs3,out,ia,ib,_,rfl,iv,by omega⟩
 ·rintro c st1 ⟨hs1,out,ia,ib,g,rfl,iv,hp⟩
  obtain ⟨_,i2,i3⟩:=iv
  omega
 ·rintro c st1 s1 ⟨rfl,hs1,r,e,hr⟩
  obtain ⟨c,c'⟩:=c
  cases (show c=some r from e)
  exact kasC_pure (hq r st1 hr hs1)
end
end SM
namespace SM
open PySem PySem.W PySem.Calls PyProof.Rows
noncomputable def qV:Array Keyed->Array Keyed->StateT SortSt Sem (Array Keyed):=sortPriv% PySem.Builtin.mergeHi
section
variable {prog:Program} {w:World} {A:Around} {E:Value->Shared->Prop} {κ:SortKind} {s:Shared}
variable {win:Keyed->Keyed->Bool} {X Y:List Keyed}
theorem eQ {α:Type} {l:List α} {n:Nat} {x:α} (h0:0<n) (h:l[n - 1]?=some x):l.take n=l.take (n - 1)++[x]:=by
 obtain ⟨m,rfl⟩:∃ m,n=m+1:=⟨n - 1,by omega⟩
 rw [List.take_add_one,show m+1 - 1=m by omega] at *
 rw [h]; rfl
theorem lI {out:Array Keyed} {na nb:Nat}:(X.toArray.extract 0 na++Y.toArray.extract 0 nb++out.reverse).toList=X.take na++Y.take nb++out.toList.reverse:=by
 simp
theorem jM {out:Array Keyed} {na nb:Nat}:(Y.toArray.extract 0 nb++X.toArray.extract 0 na++out.reverse).toList=Y.take nb++X.take na++out.toList.reverse:=by
 simp
noncomputable def Ih (win:Keyed->Keyed->Bool) (X Y R:List Keyed) (out:Array Keyed) (na nb:Nat):Prop:=mg win (X.take na) (Y.take nb)++out.toList.reverse=R/\0<na/\na<=X.length/\1<nb/\nb<=Y.length
theorem Two.ur (T:Two prog w A E κ s win X Y) {i j:Nat} {x x' y:Keyed} (hij:i<=j) (hx:X[i]?=some x) (hx':X[j]?=some x') (h:win y x=true):win y x'=true:=by
 obtain ⟨h1,rfl⟩:=List.getElem?_eq_some_iff.mp hx
 obtain ⟨h2,rfl⟩:=List.getElem?_eq_some_iff.mp hx'
 by_cases e:i=j
 ·subst e; exact h
 ·exact (List.pairwise_iff_getElem.mp T.up i j h1 h2 (by omega)) y h
theorem Two.B4 (T:Two prog w A E κ s win X Y) {i j:Nat} {x y y':Keyed} (hij:i<=j) (hy:Y[i]?=some y) (hy':Y[j]?=some y') (h:win y' x=true):win y x=true:=by
 obtain ⟨h1,rfl⟩:=List.getElem?_eq_some_iff.mp hy
 obtain ⟨h2,rfl⟩:=List.getElem?_eq_some_iff.mp hy'
 by_cases e:i=j
 ·subst e; exact h
 ·exact (List.pairwise_iff_getElem.mp T.dn i j h1 h2 (by omega)) x h
theorem bL {α:Type} {l:List α} {n:Nat} {x:α} (h:x∈l.take n):∃ i,i<n/\l[i]?=some x:=by
 obtain ⟨i,hi⟩:=List.getElem?_of_mem h
 rw [List.getElem?_take] at hi
 split at hi
 ·exact ⟨i,by assumption,hi⟩
 ·cases hi
theorem hA {R:List Keyed} {out:Array Keyed} {na nb t:Nat} (h:mg win (X.take na) (Y.take nb)++out.toList.reverse=R) (ht:t<=na) (hw:∀ i x,X[i]?=some x->t<=i->i<na->∀ y∈Y.take nb,win y x=true) :
  mg win (X.take t) (Y.take nb)++(out++(X.toArray.extract t na).reverse).toList.reverse=R:=by
 have e:X.take na=X.take t++(X.take na).drop t:=by
  have:=(List.take_append_drop t (X.take na)).symm
  rwa [List.take_take,Nat.min_eq_left ht] at this
 rw [e,ft] at h
 ·rw [<-h]
  simp [List.drop_take]
 ·intro x hx y hy
  obtain ⟨i,hi⟩:=List.getElem?_of_mem hx
  rw [List.getElem?_drop,List.getElem?_take] at hi
  split at hi
  ·exact hw _ x hi (by omega) (by assumption) y hy
  ·cases hi
theorem hB {R:List Keyed} {out:Array Keyed} {na nb t:Nat} (h:mg win (X.take na) (Y.take nb)++out.toList.reverse=R) (ht:t<=nb) (hw:∀ i y,Y[i]?=some y->t<=i->i<nb->∀ x∈X.take na,win y x=false) :
  mg win (X.take na) (Y.take t)++(out++(Y.toArray.extract t nb).reverse).toList.reverse=R:=by
 have e:Y.take nb=Y.take t++(Y.take nb).drop t:=by
  have:=(List.take_append_drop t (Y.take nb)).symm
  rwa [List.take_take,Nat.min_eq_left ht] at this
 rw [e,eS] at h
 ·rw [<-h]
  simp [List.drop_take]
 ·intro x hx y hy
  obtain ⟨i,hi⟩:=List.getElem?_of_mem hx
  rw [List.getElem?_drop,List.getElem?_take] at hi
  split at hi
  ·exact hw _ x hi (by omega) (by assumption) y hy
  ·cases hi
theorem Ar {R:List Keyed} {out:Array Keyed} {na nb:Nat} {x:Keyed} (h:mg win (X.take na) (Y.take nb)++out.toList.reverse=R) (h0:0<na) (hx:X[na - 1]?=some x) (hw:∀ y∈Y.take nb,win y x=true) :
  mg win (X.take (na - 1)) (Y.take nb)++(out.push x).toList.reverse=R:=by
 rw [eQ h0 hx,ft (C:=[x]) _ _ fun z hz y hy=>by rw [List.mem_singleton.mp hz]; exact hw y hy] at h
 rw [<-h,Array.toList_push,List.reverse_append,List.append_assoc]; rfl
theorem BV {R:List Keyed} {out:Array Keyed} {na nb:Nat} {y:Keyed} (h:mg win (X.take na) (Y.take nb)++out.toList.reverse=R) (h0:0<nb) (hy:Y[nb - 1]?=some y) (hw:∀ x∈X.take na,win y x=false) :
  mg win (X.take na) (Y.take (nb - 1))++(out.push y).toList.reverse=R:=by
 rw [eQ h0 hy,eS (C:=[y]) _ _ fun z hz x hx=>by rw [List.mem_singleton.mp hz]; exact hw x hx] at h
 rw [<-h,Array.toList_push,List.reverse_append,List.append_assoc]; rfl
noncomputable def IH (win:Keyed->Keyed->Bool) (X Y R:List Keyed) (i k:Nat) (out:Array Keyed) (na nb:Nat):Prop:=Ih win X Y R out na nb/\na+nb+i+k<=X.length+Y.length
noncomputable def PH (st:SortSt) (s:Shared) (R:List Keyed) (I:Nat->Array Keyed->Nat->Nat->Prop) (i:Nat):ForInStep (Option (Array Keyed) × Nat × Nat × Array Keyed × Nat × Nat × Nat)->SortSt->Shared->Prop
 | .done c,st',s'=>s'=s/\Sm st st'/\((∃ r,c.1=some r/\r.toList=R)\/∃ na nb out g ac bc,c=(none,na,nb,out,g,ac,bc)/\I 1 out na nb)
 | .yield c,st',s'=>s'=s/\Sm st st'/\∃ na nb out g ac bc,c=(none,na,nb,out,g,ac,bc)/\I i out na nb
theorem Dd {Q:Array Keyed->SortSt->Shared->Prop} {st:SortSt} (hk:kindOf st=κ) (T:Two prog w A E κ s win X Y) (hX:0<X.length) (hY:0<Y.length) (h0:∀ x y,X[0]?=some x->Y[0]?=some y->win y x=true) (hL:∀ x,X[X.length - 1]?=some x->∀ y∈Y,win y x=true)
  (hq:∀ r st',r.toList=mg win X Y->Sm st st'->Q r st' s):kasC (model prog w) A E (qV X.toArray Y.toArray) Q st s:=by
 obtain ⟨xl,e1⟩:∃ x,X[X.length - 1]?=some x:=⟨_,List.getElem?_eq_getElem (by omega)⟩
 have sX:X.toArray.size=X.length:=List.size_toArray ..
 have sY:Y.toArray.size=Y.length:=List.size_toArray ..
 have gX:∀ i,X.toArray[i]?=X[i]?:=fun i=>List.getElem?_toArray ..
 have gY:∀ i,Y.toArray[i]?=Y[i]?:=fun i=>List.getElem?_toArray ..
 obtain ⟨R,hR⟩:∃ R,mg win X Y=R:=⟨_,rfl⟩
 rw [hR] at hq
 have i0:mg win (X.take (X.length - 1)) (Y.take Y.length)++(#[xl]:Array Keyed).toList.reverse=R:=by
  have:=eQ hX e1
  rw [List.take_length] at this
  rw [<-hR,List.take_length]
  conv=>rhs; rw [this]
  rw [ft (C:=[xl]) _ _ fun x hx y hy=>by rw [List.mem_singleton.mp hx]; exact hL xl e1 y hy]; rfl
 have doneE:∀ {out:Array Keyed} {na nb:Nat},mg win (X.take na) (Y.take nb)++out.toList.reverse=R->na=0->X.take na++Y.take nb++out.toList.reverse=R:=by
  intro out na nb h1 h2
  subst h2
  rw [List.take_zero,bA] at h1
  rw [List.take_zero]; exact h1
 have firstE:∀ {out:Array Keyed} {na nb:Nat},mg win (X.take na) (Y.take nb)++out.toList.reverse=R->nb=1->Y.take nb++X.take na++out.toList.reverse=R:=by
  intro out na nb h1 h2
  subst h2
  obtain ⟨y,hy⟩:∃ y,Y[0]?=some y:=⟨_,List.getElem?_eq_getElem hY⟩
  have ey:Y.take 1=[y]:=eQ (by decide) hy
  rw [ey] at h1 ⊢
  cases hn:X.take na with
  | nil =>
   rw [hn,bA] at h1
   exact h1
  | cons x r =>
   have hx:X[0]?=some x:=by
    have:(X.take na)[0]?=some x:=by rw [hn]; rfl
    rw [List.getElem?_take] at this
    split at this
    ·exact this
    ·cases this
   rw [hn] at h1
   have:=qq (win:=win) (A:=r) (B:=[]) (a:=x) [y] fun z hz=>by rw [List.mem_singleton.mp hz]; exact h0 x y hx hy
   rw [List.append_nil,bB] at this
   rw [this] at h1
   exact h1
 refine kasC_bind (kasC_lift (wpAny_rule ?_))
 refine kasC_bind (aR (sX ▸ (gX _).trans e1) ?_)
 refine af (fun c1=>kasC_pure (hq _ st ?_ ⟨rfl,rfl,rfl,rfl⟩)) fun c1 => ?_
 ·exact lI.trans (doneE i0 (eq_of_beq c1))
 refine af (fun c2=>kasC_pure (hq _ st ?_ ⟨rfl,rfl,rfl,rfl⟩)) fun c2 => ?_
 ·exact jM.trans (firstE i0 (eq_of_beq c2))
 have c1:¬ X.length - 1=0:=fun z=>c1 (beq_iff_eq.mpr z)
 have c2:¬ Y.length=1:=fun z=>c2 (beq_iff_eq.mpr z)
 refine kasC_bind (kasC_get ?_)
 refine kasC_bind (av (Q:=fun c st' s'=>s'=s/\Sm st st'/\∃ r,c.1=some r/\r.toList=R) (bh (fun i c st'=>Sm st st'/\∃ na nb out g,c=(none,na,nb,out,g)/\Ih win X Y R out na nb/\na+nb+i<=X.length+Y.length) ⟨⟨rfl,rfl,rfl,rfl⟩,X.length - 1,Y.length,#[xl],_,rfl,⟨i0,by omega,by omega,by omega,by omega⟩,by omega⟩ ?_ ?_) ?_)
 ·rintro i c st1 hi ⟨hs1,na,nb,out,g,rfl,iv,hp⟩
  have hk1:kindOf st1=κ:=hs1.1.trans hk
  refine kasC_bind (av (Q:=fun c st' s'=>s'=s/\st'=st1/\((∃ r,c.1=some r/\r.toList=R)\/∃ na nb out ac bc,c=(none,na,nb,out,ac,bc)/\Ih win X Y R out na nb/\na+nb+i<=X.length+Y.length)) (bh (fun j c st'=>st'=st1/\∃ na nb out ac bc,c=(none,na,nb,out,ac,bc)/\Ih win X Y R out na nb/\na+nb+i+j<=X.length+Y.length) ⟨rfl,_,_,_,_,_,rfl,iv,by omega⟩ ?_ ?_) ?_)
  ·rintro j c st2 hj ⟨rfl,na,nb,out,ac,bc,rfl,⟨v1,v2,v3,v4,v5⟩,hp⟩
   obtain ⟨x,hx⟩:∃ x,X[na - 1]?=some x:=⟨_,List.getElem?_eq_getElem (by omega)⟩
   obtain ⟨y,hy⟩:∃ y,Y[nb - 1]?=some y:=⟨_,List.getElem?_eq_getElem (by omega)⟩
   refine kasC_bind (aR ((gY _).trans hy) (kasC_bind (aR ((gX _).trans hx) (kasC_bind (T.cm x (List.mem_of_getElem? hx) y (List.mem_of_getElem? hy) _ st2 hk1 ?_)))))
   refine af (fun hw => ?_) fun hw => ?_
   ·refine kasC_bind (aR ((gX _).trans hx) ?_)
    have n1:mg win (X.take (na - 1)) (Y.take nb)++(out.push x).toList.reverse=R:=Ar v1 v2 hx fun y' hy'=>by
     obtain ⟨q,q1,q2⟩:=bL hy'
     exact T.B4 (by omega) q2 hy hw
    refine af (fun c3=>kasC_pure ⟨rfl,rfl,.inl ⟨_,rfl,lI.trans (doneE n1 (eq_of_beq c3))⟩⟩) fun c3 => ?_
    have c3:¬ na - 1=0:=fun z=>c3 (beq_iff_eq.mpr z)
    exact af (fun _=>kasC_pure ⟨rfl,rfl,.inr ⟨na - 1,nb,out.push x,_,_,rfl,⟨n1,by omega,by omega,by omega,by omega⟩,by omega⟩⟩) fun _=>kasC_pure ⟨rfl,rfl,na - 1,nb,out.push x,_,_,rfl,⟨n1,by omega,by omega,by omega,by omega⟩,by omega⟩
   ·have hw:win y x=false:=by simpa using hw
    refine kasC_bind (aR ((gY _).trans hy) ?_)
    have n1:mg win (X.take na) (Y.take (nb - 1))++(out.push y).toList.reverse=R:=BV v1 (by omega) hy fun x' hx'=>by
     obtain ⟨q,q1,q2⟩:=bL hx'
     cases hc:win y x' with
     | false=>rfl
     | true=>rw [T.ur (by omega) q2 hx hc] at hw; cases hw
    refine af (fun c3=>kasC_pure ⟨rfl,rfl,.inl ⟨_,rfl,jM.trans (firstE n1 (eq_of_beq c3))⟩⟩) fun c3 => ?_
    have c3:¬ nb - 1=1:=fun z=>c3 (beq_iff_eq.mpr z)
    exact af (fun _=>kasC_pure ⟨rfl,rfl,.inr ⟨na,nb - 1,out.push y,_,_,rfl,⟨n1,by omega,by omega,by omega,by omega⟩,by omega⟩⟩) fun _=>kasC_pure ⟨rfl,rfl,na,nb - 1,out.push y,_,_,rfl,⟨n1,by omega,by omega,by omega,by omega⟩,by omega⟩
  ·rintro c st2 ⟨rfl,na,nb,out,ac,bc,rfl,iv,hp⟩
   exact ⟨rfl,rfl,.inr ⟨_,_,_,_,_,rfl,iv,by omega⟩⟩
  rintro c st2 s2 ⟨rfl,rfl,⟨r,e,hr⟩ | ⟨na,nb,out,ac,bc,rfl,iv,hp⟩⟩
  ·obtain ⟨c,c'⟩:=c
   cases (show c=some r from e)
   exact kasC_pure ⟨rfl,hs1,r,rfl,hr⟩
  refine kasC_bind (kasC_lift (wpAny_rule ?_))
  refine kasC_bind (av (Q:=fun c st' s'=>s'=s2/\Sm st st'/\((∃ r,c.1=some r/\r.toList=R)\/∃ na nb out g ac bc,c=(none,na,nb,out,g,ac,bc)/\Ih win X Y R out na nb/\na+nb+i<X.length+Y.length)) (bh (fun j c st'=>Sm st st'/\∃ na nb out g ac bc,c=(none,na,nb,out,g,ac,bc)/\Ih win X Y R out na nb/\na+nb+i+j<=X.length+Y.length) ⟨hs1,_,_,_,_,_,_,rfl,iv,by omega⟩ ?_ ?_) ?_)
  ·rintro j c st3 hj ⟨hs3,na,nb,out,g,ac,bc,rfl,⟨v1,v2,v3,v4,v5⟩,hp⟩
   refine av (Q:=(PH st s2 R (IH win X Y R i) (j+1))) ?_ ?_
   ·extract_lets z1 z2 z3 z4 z5 z6 z7 z8 z9 z10 z11 nb1 jp
    obtain ⟨y,hy⟩:∃ y,Y[nb - 1]?=some y:=⟨_,List.getElem?_eq_getElem (by omega)⟩
    have my:=List.mem_of_getElem? hy
    have key:∀ z,kasC (model prog w) A E (jp () z) (PH st s2 R (IH win X Y R i) (j+1)) st3 s2:=by
     intro z
     refine kasC_bind (sQ fun st4 h4=>kasC_bind (aR ((gY _).trans hy) ?_))
     have hs4:=hs3.trans h4
     have hk4:kindOf st4=κ:=hs4.1.trans hk
     have G:=T.yE my (lo:=0) (hi:=na) v3 (by omega)
     simp only [Nat.sub_zero,Nat.zero_add] at G
     obtain ⟨t,t1,t2,t3⟩:=G
     refine kasC_bind (fT t2 (show na - 1<na by omega) t1 hk4 ?_)
     have n1:mg win (X.take t) (Y.take nb)++(out++(X.toArray.extract t na).reverse).toList.reverse=R:=hA v1 t1 fun i x hx hi hi2 y' hy'=>by
      obtain ⟨q,q1,q2⟩:=bL hy'
      exact T.B4 (by omega) q2 hy (by rw [t3 i x hx hi2,decide_eq_true hi])
     have t4:∀ x∈X.take t,win y x=false:=fun x hx=>by
      obtain ⟨q,q1,q2⟩:=bL hx
      rw [t3 q x q2 (by omega),decide_eq_false (by omega)]
     clear t3 t2
     dsimp (config:={zeta:=false,zetaHave:=false}) only
     extract_lets k1 ac1 jp2 out1 na1
     have fI:∀ na2 out2,mg win (X.take na2) (Y.take nb)++out2.toList.reverse=R->(∀ x∈X.take na2,win y x=false)->0<na2->na2<=X.length->na2+nb+i+j<=X.length+Y.length->kasC (model prog w) A E (jp2 () na2 out2) (PH st s2 R (IH win X Y R i) (j+1)) st4 s2:=by
      intro na2 out2 n1 t4 b1 b2 b3
      refine kasC_bind (aR ((gY _).trans hy) ?_)
      obtain ⟨x,hx⟩:∃ x,X[na2 - 1]?=some x:=⟨_,List.getElem?_eq_getElem (by omega)⟩
      have n3:mg win (X.take na2) (Y.take (nb - 1))++(out2.push y).toList.reverse=R:=BV n1 (by omega) hy t4
      refine af (fun c5=>kasC_pure ⟨rfl,hs4,.inl ⟨_,rfl,jM.trans (firstE n3 (eq_of_beq c5))⟩⟩) fun c5 => ?_
      have c5:¬ nb - 1=1:=fun z=>c5 (beq_iff_eq.mpr z)
      refine kasC_bind (aR ((gX _).trans hx) ?_)
      have G:=T.xr (List.mem_of_getElem? hx) (lo:=0) (hi:=nb - 1) (by omega) (by omega)
      simp only [Nat.sub_zero,Nat.zero_add] at G
      obtain ⟨u,u1,u2,u3⟩:=G
      refine kasC_bind (fT u2 (show nb - 1 - 1<nb - 1 by omega) u1 hk4 ?_)
      have n4:mg win (X.take na2) (Y.take u)++(out2.push y++(Y.toArray.extract u (nb - 1)).reverse).toList.reverse=R:=hB n3 u1 fun i y' hy' hi hi2 x' hx'=>by
       obtain ⟨q,q1,q2⟩:=bL hx'
       cases hc:win y' x' with
       | false=>rfl
       | true =>
        have:=T.ur (by omega) q2 hx hc
        rw [u3 i y' hy' hi2,decide_eq_false (by omega)] at this; cases this
      have u4:∀ y'∈Y.take u,win y' x=true:=fun y' hy'=>by
       obtain ⟨q,q1,q2⟩:=bL hy'
       rw [u3 q y' q2 (by omega),decide_eq_true q1]
      clear u3 u2
      dsimp (config:={zeta:=false,zetaHave:=false}) only
      extract_lets k2 bc1 na3 jp3 out4 nb4
      have key3:∀ nb3 out3,mg win (X.take na2) (Y.take nb3)++out3.toList.reverse=R->(∀ y'∈Y.take nb3,win y' x=true)->1<nb3->nb3<=Y.length->na2+nb3+i+j<X.length+Y.length->kasC (model prog w) A E (jp3 () nb3 out3) (PH st s2 R (IH win X Y R i) (j+1)) st4 s2:=by
       intro nb3 out3 n4 u4 b4 b5 b6
       refine kasC_bind (aR ((gX _).trans hx) ?_)
       have n5:mg win (X.take (na2 - 1)) (Y.take nb3)++(out3.push x).toList.reverse=R:=Ar n4 b1 hx u4
       refine af (fun c7=>kasC_pure ⟨rfl,hs4,.inl ⟨_,rfl,lI.trans (doneE n5 (eq_of_beq c7))⟩⟩) fun c7 => ?_
       have c7:¬ na2 - 1=0:=fun z=>c7 (beq_iff_eq.mpr z)
       have iv:IH win X Y R i (j+1) (out3.push x) (na2 - 1) nb3:=⟨⟨n5,by omega,by omega,by omega,by omega⟩,by omega⟩
       exact af (fun _=>kasC_pure ⟨rfl,hs4,.inr ⟨na2 - 1,nb3,out3.push x,_,_,_,rfl,iv.1,by omega⟩⟩) fun _=>kasC_pure ⟨rfl,hs4,na2 - 1,nb3,out3.push x,_,_,_,rfl,iv⟩
      clear_value jp3
      refine af (fun cu=>af (fun c6=>kasC_pure ⟨rfl,hs4,.inl ⟨_,rfl,jM.trans (firstE n4 (eq_of_beq c6))⟩⟩) fun c6=>af (fun c8 => ?_) fun c8 => ?_) fun cu => ?_
      ·have c8:u=0:=eq_of_beq c8
       refine kasC_pure ⟨rfl,hs4,.inl ⟨_,rfl,lI.trans ?_⟩⟩
       show X.take na2++Y.take u++(out2.push y++(Y.toArray.extract u (nb - 1)).reverse).toList.reverse=R
       rw [c8] at n4 ⊢
       rw [List.take_zero,bB] at n4
       rw [List.take_zero,List.append_nil]; exact n4
      ·have c6:¬ u=1:=fun z=>c6 (beq_iff_eq.mpr z)
       have c8:¬ u=0:=fun z=>c8 (beq_iff_eq.mpr z)
       exact key3 u _ n4 u4 (by omega) (by omega) (by omega)
      ·have cu:¬ nb - 1 - u > 0:=cu
       have u0:u=nb - 1:=by omega
       exact key3 (nb - 1) _ n3 (by rw [u0] at u4; exact u4) (by omega) (by omega) (by omega)
     clear_value jp2
     refine af (fun ct=>af (fun c3=>kasC_pure ⟨rfl,hs4,.inl ⟨_,rfl,lI.trans (doneE n1 (eq_of_beq c3))⟩⟩) fun c3 => ?_) fun ct => ?_
     ·have c3:¬ t=0:=fun z=>c3 (beq_iff_eq.mpr z)
      exact fI t _ n1 t4 (by omega) (by omega) (by omega)
     ·have ct:¬ na - t > 0:=ct
      have t0:t=na:=by omega
      exact fI na _ v1 (by rw [t0] at t4; exact t4) v2 v3 hp
    clear_value jp
    exact af (fun _=>key _) fun _=>key _
   ·rintro (c | c) st' s' ⟨rfl,h2,h3⟩
    ·refine ⟨rfl,h2,h3.imp id ?_⟩
     rintro ⟨na,nb,out,g,ac,bc,e,h,h'⟩
     exact ⟨na,nb,out,g,ac,bc,e,h,by omega⟩
    ·obtain ⟨na,nb,out,g,ac,bc,e,h,h'⟩:=h3
     exact ⟨rfl,h2,na,nb,out,g,ac,bc,e,h,by omega⟩
  ·rintro c st3 ⟨hs3,na,nb,out,g,ac,bc,rfl,iv,hp⟩
   exact ⟨rfl,hs3,.inr ⟨_,_,_,_,_,_,rfl,iv,by omega⟩⟩
  rintro c st3 s3 ⟨rfl,hs3,⟨r,e,hr⟩ | ⟨na,nb,out,g,ac,bc,rfl,iv,hp⟩⟩
  ·obtain ⟨c,c'⟩:=c
   cases (show c=some r from e)
   exact kasC_pure ⟨rfl,hs3,r,rfl,hr⟩
  refine kasC_bind (kasC_modify ?_)
  exact kasC_pure ⟨rfl,hs3,na,nb,out,_,rfl,iv,by omega⟩
 ·rintro c st1 ⟨hs1,na,nb,out,g,rfl,iv,hp⟩
  obtain ⟨_,i2,i3,i4,i5⟩:=iv
  omega
 ·rintro c st1 s1 ⟨rfl,hs1,r,e,hr⟩
  obtain ⟨c,c'⟩:=c
  cases (show c=some r from e)
  exact kasC_pure (hq r st1 hr hs1)
end
end SM
namespace SM
open PySem PySem.W PySem.Calls PyProof.Rows
section
variable {prog:Program} {w:World} {A:Around} {E:Value->Shared->Prop} {κ:SortKind} {s:Shared}
variable {win:Keyed->Keyed->Bool} {X Y:List Keyed}
theorem nZ {α:Type} (sa:Nat):∀ (l:List α) (j:Nat) (a:Array α) (U V Z:List α),a.toList=U++V++Z->U.length=sa+j->V.length=l.length->((l.zipIdx j).foldl (fun a q=>a.setIfInBounds (sa+q.2) q.1) a).toList=U++l++Z
 | [],j,a,U,V,Z,h1,h2,h3=>by
  rw [List.length_eq_zero_iff.mp h3] at h1
  exact h1
 | x::l,j,a,U,v::V,Z,h1,h2,h3=>by
  rw [List.zipIdx_cons,List.foldl_cons]
  have:=nZ sa l (j+1) (a.setIfInBounds (sa+j) x) (U++[x]) V Z (by
   rw [Array.toList_setIfInBounds,h1,<-h2]
   simp) (by rw [List.length_append,h2]; rfl) (by simpa using h3)
  rw [this]; simp
 | x::l,j,a,U,[],Z,h1,h2,h3=>by simp at h3
theorem Bey.shift {left:Bool} {k:Keyed} {a a':Array Keyed} {b b' n t:Nat} (h:Bey prog w A E κ s left k a b n t) (e:∀ i,i<n->a'[b'+i]?=a[b+i]?):Bey prog w A E κ s left k a' b' n t:=fun i hi=>by
 obtain ⟨x,h1,h2⟩:=h i hi
 exact ⟨x,(e i hi).trans h1,h2⟩
theorem Two.sub (T:Two prog w A E κ s win X Y) {X' Y':List Keyed} (h1:X'.Sublist X) (h2:Y'.Sublist Y):Two prog w A E κ s win X' Y' :=
 ⟨fun x hx y hy=>T.cm x (h1.subset hx) y (h2.subset hy),T.up.sublist h1,T.dn.sublist h2⟩
theorem qx {σ:Type} {M:Model} {st':σ} {Q:PUnit->σ->Shared->Prop} {st:σ} {s:Shared} (h:Q ⟨⟩ st' s):kasC M A E (set st':StateT σ Sem PUnit) Q st s:=by
 unfold kasC; rw [StateT.run_set]; exact wpAny_pure h
theorem qw {t u:Nat} {y0 xl:Keyed} (T:Two prog w A E κ s win X Y) (e0:Y[0]?=some y0) (e1:X[X.length - 1]?=some xl) (hX:0<X.length) (t3:∀ x∈X.take t,win y0 x=false) (u3:∀ y∈Y.drop u,win y xl=false) (hu:0<u) :
  mg win X Y=X.take t++mg win (X.drop t) (Y.take u)++Y.drop u:=by
 have a1:mg win X (Y.take u++Y.drop u)=mg win X (Y.take u)++Y.drop u:=eS _ _ fun y hy x hx=>by
  cases hc:win y x with
  | false=>rfl
  | true =>
   obtain ⟨q,hq⟩:=List.getElem?_of_mem hx
   have hl:=(List.getElem?_eq_some_iff.mp hq).1
   have:=T.ur (by omega) hq e1 hc
   rw [u3 y hy] at this; cases this
 rw [List.take_append_drop] at a1
 rw [a1]
 congr 1
 have e2:Y.take u=y0::(Y.take u).drop 1:=by
  have:(Y.take u)[0]?=some y0:=by rw [List.getElem?_take,if_pos hu]; exact e0
  have:=ax this
  rwa [List.drop_zero] at this
 rw [e2]
 conv=>lhs; rw [<-List.take_append_drop t X]
 exact tL _ t3
theorem wo {a b c:Nat × Nat × Nat}:(#[a,b].setIfInBounds 0 c).eraseIdxIfInBounds (0+1) = #[c]:=by
 apply Array.ext'
 simp [Array.eraseIdxIfInBounds]
theorem CY {Q:Bool->SortSt->Shared->Prop} {g pw:Nat} (T:Two prog w A E κ s win X Y) (hX:0<X.length) (hY:0<Y.length)
  (hq:∀ g',Q true (SortSt.mk' κ (mg win X Y).toArray #[(0,X.length+Y.length,pw)] g' none) s):kasC (model prog w) A E (mergeAt' 0) Q (SortSt.mk' κ (X++Y).toArray #[(0,X.length,pw),(X.length,Y.length,0)] g none) s:=by
 obtain ⟨y0,e0⟩:∃ y,Y[0]?=some y:=⟨_,List.getElem?_eq_getElem hY⟩
 obtain ⟨xl,e1⟩:∃ x,X[X.length - 1]?=some x:=⟨_,List.getElem?_eq_getElem (by omega)⟩
 have ml:=List.mem_of_getElem? e1
 have g1:(X++Y).toArray[X.length]?=some y0:=by rw [List.getElem?_toArray,List.getElem?_append_right (Nat.le_refl _),Nat.sub_self]; exact e0
 have g2:(X++Y).toArray[X.length - 1]?=some xl:=by rw [List.getElem?_toArray,List.getElem?_append_left (by omega)]; exact e1
 refine kasC_bind (kasC_get ?_)
 refine kasC_bind (qx ?_)
 refine kasC_bind (aR g1 ?_)
 have G:=T.yE (List.mem_of_getElem? e0) (lo:=0) (hi:=X.length) (Nat.le_refl _) (Nat.zero_le _)
 simp only [Nat.sub_zero,Nat.zero_add] at G
 obtain ⟨t,t1,t2,t3⟩:=G
 refine kasC_bind (fT (t2.shift fun i hi => ?_) hX t1 rfl ?_)
 ·rw [List.getElem?_toArray,List.getElem?_toArray,Nat.zero_add,List.getElem?_append_left hi]
 have t4:∀ x∈X.take t,win y0 x=false:=fun x hx=>by
  obtain ⟨q,q1,q2⟩:=bL hx
  rw [t3 q x q2 (List.getElem?_eq_some_iff.mp q2).1,decide_eq_false (by omega)]
 dsimp only
 by_cases c1:X.length - t=0
 ·rw [if_pos (by simp [c1])]
  refine kasC_pure ?_
  have:mg win X Y=X++Y:=by
   have e2:=ax e0
   rw [List.drop_zero] at e2
   rw [List.take_of_length_le (by omega)] at t4
   have:=tL (win:=win) (A:=[]) (B:=Y.drop 1) (b:=y0) X t4
   rw [List.append_nil,bA,<-e2] at this
   exact this
  rw [this] at hq
  rw [wo]
  exact hq g
 rw [if_neg (by simpa using c1)]
 refine kasC_bind (aR (x:=xl) (by rw [show 0+t+(X.length - t) - 1=X.length - 1 by omega]; exact g2) ?_)
 have G:=T.xr ml (lo:=0) (hi:=Y.length) (Nat.le_refl _) (Nat.zero_le _)
 simp only [Nat.sub_zero,Nat.zero_add] at G
 obtain ⟨u,u1,u2,u3⟩:=G
 refine kasC_bind (fT (u2.shift fun i hi => ?_) (show Y.length - 1<Y.length by omega) u1 rfl ?_)
 ·rw [List.getElem?_toArray,List.getElem?_toArray,Nat.zero_add,List.getElem?_append_right (by omega),Nat.add_sub_cancel_left]
 dsimp only
 have u0:0<u:=by
  obtain ⟨xt,ht⟩:∃ x,X[t]?=some x:=⟨_,List.getElem?_eq_getElem (by omega)⟩
  have h1:=T.ur (by omega) ht e1 (by rw [t3 t xt ht (by omega),decide_eq_true (Nat.le_refl _)]:win y0 xt=true)
  rw [u3 0 y0 e0 hY] at h1
  exact of_decide_eq_true h1
 rw [if_neg (by simp; omega)]
 have u4:∀ y∈Y.drop u,win y xl=false:=fun y hy=>by
  obtain ⟨q,hq⟩:=List.getElem?_of_mem hy
  rw [List.getElem?_drop] at hq
  rw [u3 _ y hq (List.getElem?_eq_some_iff.mp hq).1,decide_eq_false (by omega)]
 have sp:=qw T e0 e1 hX t4 u4 u0
 have x1:(X++Y).toArray.extract (0+t) X.length=(X.drop t).toArray:=by
  apply Array.ext'
  simp [List.drop_append_of_le_length t1]
 have x2:(X++Y).toArray.extract X.length (X.length+u)=(Y.take u).toArray:=by
  apply Array.ext'
  simp
 have T':=T.sub (List.drop_sublist t X) (List.take_sublist u Y)
 have l1:(X.drop t).length=X.length - t:=List.length_drop ..
 have l2:(Y.take u).length=u:=by rw [List.length_take]; omega
 have w0:∀ x y,(X.drop t)[0]?=some x->(Y.take u)[0]?=some y->win y x=true:=fun x y hx hy=>by
  rw [List.getElem?_drop,Nat.add_zero] at hx
  rw [List.getElem?_take,if_pos u0,e0] at hy
  cases hy
  rw [t3 t x hx (by omega),decide_eq_true (Nat.le_refl _)]
 have wL:∀ x,(X.drop t)[(X.drop t).length - 1]?=some x->∀ y∈Y.take u,win y x=true:=fun x hx y hy=>by
  rw [l1,List.getElem?_drop,show t+(X.length - t - 1)=X.length - 1 by omega,e1] at hx
  cases hx
  obtain ⟨q,q1,q2⟩:=bL hy
  rw [u3 q y q2 (List.getElem?_eq_some_iff.mp q2).1,decide_eq_true q1]
 show kasC _ _ _ (if X.length - t<=u then _ else _) _ _ _
 have fin:∀ (r:Array Keyed),r.toList=mg win (X.drop t) (Y.take u)->(r.toList.zipIdx.foldl (fun a q=>a.setIfInBounds (0+t+q.2) q.1) (X++Y).toArray)=(mg win X Y).toArray:=fun r hr=>by
  apply Array.ext'
  rw [nZ (0+t) r.toList 0 _ (X.take t) (X.drop t++Y.take u) (Y.drop u)]
  ·rw [hr,sp]
  ·show X++Y=_
   rw [<-List.append_assoc,List.take_append_drop,List.append_assoc,List.take_append_drop]
  ·rw [List.length_take]; omega
  ·rw [hr,(dt _ _).length_eq]
 have tail:∀ (r:Array Keyed) (st':SortSt),r.toList=mg win (X.drop t) (Y.take u)->Sm (SortSt.mk' κ (X++Y).toArray #[(0,X.length+Y.length,pw)] g none) st' ->
   Q true (SortSt.mk' (kindOf st') (r.toList.zipIdx.foldl (fun a q=>a.setIfInBounds (0+t+q.2) q.1) (arrOf st')) (pendingOf st') (gallopOf st') (failedOf st')) s:=fun r st' hr hs=>by
  obtain ⟨h1,h2,h3,h4⟩:=hs
  rw [h1,h2,h3,h4]
  have:=fin r hr
  show Q true (SortSt.mk' κ (r.toList.zipIdx.foldl (fun a q=>a.setIfInBounds (0+t+q.2) q.1) (X++Y).toArray) _ _ none) s
  rw [this]
  exact hq _
 rw [wo,x1,x2]
 by_cases c3:X.length - t<=u
 case' pos =>
  rw [if_pos c3]
  refine kasC_bind (Cf rfl T' (by omega) (by omega) w0 wL fun r st' hr hs => ?_)
 case' neg =>
  rw [if_neg c3]
  refine kasC_bind (Dd rfl T' (by omega) (by omega) w0 wL fun r st' hr hs => ?_)
 all_goals
  refine kasC_bind (kasC_modify (kasC_bind (kasC_get (kasC_pure ?_))))
  have hf:failedOf st'=none:=hs.2.2.2
  have:=tail r st' hr hs
  have e:(failedOf st').isNone=true:=by rw [hf]; rfl
  show Q (failedOf st').isNone _ _
  rw [e]
  exact this
end
end SM
namespace SM
open PySem PySem.W PySem.Calls PyProof.Rows IS
section
variable {prog:Program} {w:World} {A:Around} {E:Value->Shared->Prop} {κ:SortKind} {s:Shared}
theorem uc {Q:Option Nat->SortSt->Shared->Prop} {st:SortSt} {lo nrem:Nat} (hk:kindOf st=κ) (h1:1<=nrem) (ha:∀ i,i+1<nrem->∃ x y,(arrOf st)[lo+i]?=some x/\(arrOf st)[lo+i+1]?=some y/\Cm prog w A E κ s y x false) (hq:Q (some nrem) st s) :
  kasC (model prog w) A E (countRun' lo nrem) Q st s:=by
 refine kasC_bind (av (Q:=fun c st' s'=>s'=s/\st'=st/\c=(none,nrem)) (bh (fun i c st'=>st'=st/\c=(none,i+1)) ⟨rfl,rfl⟩ ?_ ?_) ?_)
 ·rintro i c st' hi ⟨rfl,rfl⟩
  dsimp only
  obtain ⟨x,y,hx,hy,hc⟩:=ha i (by omega)
  refine kasC_bind (kasC_bind (kasC_get (kasC_bind (aR (x:=y) (by rw [<-Nat.add_assoc]; exact hy) (kasC_bind (aR (x:=x) (by rw [show lo+(i+1) - 1=lo+i by omega]; exact hx) (hc _ st' hk ?_)))))))
  dsimp only
  rw [if_neg (by simp)]
  exact kasC_pure ⟨rfl,rfl,rfl⟩
 ·rintro c st' ⟨rfl,rfl⟩
  exact ⟨rfl,rfl,by rw [show nrem - 1+1=nrem by omega]⟩
 ·rintro c st' s' ⟨rfl,rfl,rfl⟩
  dsimp only
  rw [if_pos (by simp)]
  exact kasC_pure hq
theorem u5 {Q:Bool->SortSt->Shared->Prop} {st:SortSt} {lo n:Nat} (h1:1<=n) (hq:Q true st s):kasC (model prog w) A E (binarySort' lo n n) Q st s:=by
 refine kasC_bind (av (Q:=fun c st' s'=>s'=s/\st'=st/\c=(none,())) (bh (fun i c st'=>st'=st/\c=(none,())) ⟨rfl,rfl⟩ ?_ ?_) ?_)
 ·rintro i c st' hi ⟨rfl,rfl⟩
  omega
 ·rintro c st' ⟨rfl,rfl⟩
  exact ⟨rfl,rfl,rfl⟩
 ·rintro c st' s' ⟨rfl,rfl,rfl⟩
  exact kasC_pure hq
noncomputable def kv:Value->Int
 | .int i _=>i
 | _=>0
noncomputable def win (y x:Keyed):Bool:=decide (kv y.1<kv x.1)
end
end SM
namespace SM
open PySem PySem.W PySem.Calls PyProof.Rows IS
theorem m9 {α:Type} {N:Nat} {R:α->Prop} {ask:Nat->Nat->Bool}:∀ (t:KasT α),kpo N R t->R (bM ask t)
 | .ret _,h=>h
 | .ask i j k,h=>m9 (k (ask i j)) (h.2.2 _)
theorem o8 {n:Nat} (h1:64<=n) (h2:n<128):minRun' n n 0=n / 2+n % 2:=by
 obtain ⟨f,rfl⟩:∃ f,n=f+2:=⟨n - 2,by omega⟩
 have a:minRun' (f+1+1) (f+2) 0=minRun' (f+1) ((f+2) / 2) (max 0 ((f+2) % 2)):=by rw [minRun'_succ,if_neg (by omega)]
 rw [show f+2=f+1+1 from rfl] at a ⊢
 rw [a,minRun'_succ,if_pos (by omega)]
 omega
section
variable {prog:Program} {w:World} {A:Around} {E:Value->Shared->Prop} {s:Shared}
noncomputable def R1 (ky:Nat->Int) (it:Array Keyed) (n n1:Nat) (p:Array Nat):Prop:=Id p n n1/\Up ky p n1/\p.Perm (List.range n).toArray/\32<=n1
theorem xZ {it:Array Keyed} {ky:Nat->Int} {n n1:Nat} {p:Array Nat} {κ:SortKind} (h:R1 ky it n n1 p) (hn1:n1<n) (hit:∀ i,i<n->∃ t,(kas_item it i).1=.int (ky i) t) (asc:∀ i j,32<=i->i<=j->j<n->ky i<=ky j) :
  ∃ X Y:List Nat,p=(X++Y).toArray/\X.length=n1/\Y.length=n - n1/\Two prog w A E oneType' s win (X.map (kas_item it)) (Y.map (kas_item it)) /\
   Up ky (mg (fun y x=>win (kas_item it y) (kas_item it x)) X Y).toArray n/\(mg (fun y x=>win (kas_item it y) (kas_item it x)) X Y).toArray.Perm (List.range n).toArray:=by
 obtain ⟨hi,hu,hp,h32⟩:=h
 have sz:=hi.sz
 have el:p.toList.length=n:=by rw [Array.length_toList]; exact sz
 have gt:∀ i,i<n->p.toList[i]?=some (pf p i):=fun i h=>by
  rw [Array.getElem?_toList]
  unfold pf
  simp [Array.getD,sz,h]
 have gX:∀ i,i<n1->(p.toList.take n1)[i]?=some (pf p i):=fun i h=>by rw [List.getElem?_take,if_pos h]; exact gt i (by omega)
 have gY:∀ i,n1+i<n->(p.toList.drop n1)[i]?=some (n1+i):=fun i h=>by rw [List.getElem?_drop,gt _ h,hi.id _ (by omega) h]
 have lX:(p.toList.take n1).length=n1:=by rw [List.length_take,el]; omega
 have lY:(p.toList.drop n1).length=n - n1:=by rw [List.length_drop,el]
 have mX:∀ x∈p.toList.take n1,x<n1:=fun x hx=>by
  obtain ⟨i,h⟩:=List.getElem?_of_mem hx
  have hl:=(List.getElem?_eq_some_iff.mp h).1
  rw [gX i (by omega)] at h
  cases h
  exact hi.lo i (by omega)
 have mY:∀ y∈p.toList.drop n1,n1<=y/\y<n:=fun y hy=>by
  obtain ⟨i,h⟩:=List.getElem?_of_mem hy
  have hl:=(List.getElem?_eq_some_iff.mp h).1
  rw [gY i (by omega)] at h
  cases h
  omega
 have kvI:∀ i,i<n->kv (kas_item it i).1=ky i:=fun i h=>by obtain ⟨t,e⟩:=hit i h; rw [e]; rfl
 have pX:(p.toList.take n1).Pairwise (Lx ky):=by
  rw [List.pairwise_iff_getElem]
  intro i j h1 h2 h3
  have a:=gX i (by omega); have b:=gX j (by omega)
  rw [List.getElem?_eq_getElem h1] at a; rw [List.getElem?_eq_getElem h2] at b
  have a:=Option.some.inj a; have b:=Option.some.inj b
  rw [a,b]
  exact hu i j h3 (by omega)
 have pY:(p.toList.drop n1).Pairwise (Lx ky):=by
  rw [List.pairwise_iff_getElem]
  intro i j h1 h2 h3
  have a:=gY i (by omega); have b:=gY j (by omega)
  rw [List.getElem?_eq_getElem h1] at a; rw [List.getElem?_eq_getElem h2] at b
  have a:=Option.some.inj a; have b:=Option.some.inj b
  rw [a,b]
  have:=asc (n1+i) (n1+j) (by omega) (by omega) (by omega)
  unfold Lx
  omega
 refine ⟨p.toList.take n1,p.toList.drop n1,by rw [List.take_append_drop],lX,lY,⟨?_,?_,?_⟩,?_,?_⟩
 ·intro x hx y hy
  obtain ⟨i,hi',rfl⟩:=List.mem_map.mp hx
  obtain ⟨j,hj',rfl⟩:=List.mem_map.mp hy
  have a:=mX i hi'; have b:=mY j hj'
  refine Cm.of fun C hC => ?_
  unfold win at hC
  rw [kvI i (by omega),kvI j (by omega)] at hC
  obtain ⟨t,e1⟩:=hit i (by omega); obtain ⟨u,e2⟩:=hit j (by omega)
  rw [e1,e2]
  exact kat_lt_int hC
 ·rw [List.pairwise_map]
  refine pX.imp_of_mem fun {a b} ma mb r y h => ?_
  have:=mX a ma; have:=mX b mb
  unfold win at h ⊢
  rw [kvI a (by omega)] at h
  rw [kvI b (by omega)]
  have:=of_decide_eq_true h
  unfold Lx at r
  exact decide_eq_true (by omega)
 ·rw [List.pairwise_map]
  refine pY.imp_of_mem fun {a b} ma mb r y h => ?_
  have:=mY a ma; have:=mY b mb
  unfold win at h ⊢
  rw [kvI b (by omega)] at h
  rw [kvI a (by omega)]
  have:=of_decide_eq_true h
  unfold Lx at r
  exact decide_eq_true (by omega)
 ·have pw:=qT (win:=fun y x=>win (kas_item it y) (kas_item it x)) (R:=Lx ky) (fun a b c=>Lx.trans ky) _ _ pX pY fun x hx y hy=>by
   have a:=mX x hx; have b:=mY y hy
   unfold win
   rw [kvI x (by omega),kvI y (by omega)]
   unfold Lx
   by_cases z:ky y<ky x
   ·rw [decide_eq_true z,if_pos rfl]; exact .inl z
   ·rw [decide_eq_false z,if_neg (by simp)]; omega
  have ln:=(dt (win:=fun y x=>win (kas_item it y) (kas_item it x)) (p.toList.take n1) (p.toList.drop n1)).length_eq
  rw [List.take_append_drop,el] at ln
  intro i j hij hj
  have:=List.pairwise_iff_getElem.mp pw i j (by omega) (by omega) hij
  unfold pf
  simpa [Array.getD,ln,hj,show i<n by omega] using this
 ·refine Array.Perm.trans ?_ hp
  rw [Array.perm_iff_toList_perm]
  have:=dt (win:=fun y x=>win (kas_item it y) (kas_item it x)) (p.toList.take n1) (p.toList.drop n1)
  rwa [List.take_append_drop] at this
end
end SM
namespace SM
open PySem PySem.W PySem.Calls PyProof.Rows IS
section
variable {prog:Program} {w:World} {A:Around} {E:Value->Shared->Prop} {s:Shared}
theorem vQ {Q:Bool->SortSt->Shared->Prop} {st:SortSt} {lo n ok:Nat} (e:n=ok) (h1:1<=n) (hq:Q true st s):kasC (model prog w) A E (binarySort' lo n ok) Q st s:=e ▸ u5 h1 hq
noncomputable def PR (ky:Nat->Int) (it:Array Keyed) (n:Nat) (s:Shared) (x:Nat):ForInStep (Option Unit × Nat)->SortSt->Shared->Prop
 | .done c,st',s'=>s'=s/\c.1=none/\((∃ p,R1 ky it n n p/\st'=SortSt.mk' oneType' (p.map (kas_item it)) #[(0,n,0)] 7 none)\/∃ p n1 pw,R1 ky it n n1 p/\n1<n/\st'=SortSt.mk' oneType' (p.map (kas_item it)) #[(0,n1,pw),(n1,n - n1,0)] 7 none)
 | .yield c,st',s'=>s'=s/\((x=1/\∃ p n1,R1 ky it n n1 p/\c=(none,n1)/\st'=SortSt.mk' oneType' (p.map (kas_item it)) #[(0,n1,0)] 7 none)\/(2<=x/\∃ p n1 pw,R1 ky it n n1 p/\n1<n/\c=(none,n)/\st'=SortSt.mk' oneType' (p.map (kas_item it)) #[(0,n1,pw),(n1,n - n1,0)] 7 none))
theorem A1 {it:Array Keyed} {ky:Nat->Int} {n:Nat} (h64:64<=n) (h128:n<128) (hit:∀ i,i<n->∃ t,(kas_item it i).1=.int (ky i) t) (asc:∀ i j,32<=i->i<=j->j<n->ky i<=ky j) {Q:Unit->SortSt->Shared->Prop}
  (hq:∀ p st',p.size=n->Up ky p n->p.Perm (List.range n).toArray->arrOf st'=p.map (kas_item it)->failedOf st'=none->Q () st' s):kasC (model prog w) A E sortRuns' Q (kas_st oneType' it (List.range n).toArray) s:=by
 have cmp:∀ i j (C:Bool->Shared->Prop),i<n->j<n->C (cw ky i j) s->kas_cmp prog w A oneType' it i j C s:=fun i j C hi hj hC=>by
  obtain ⟨t,e1⟩:=hit i hi; obtain ⟨u,e2⟩:=hit j hj
  show wpAny (model prog w) A (keyLt' oneType' (kas_item it i).1 (kas_item it j).1) C _ s
  rw [e1,e2]
  exact kat_lt_int hC
 have same:∀ i,i<n->pf (List.range n).toArray i=i:=fun i h=>by
  unfold pf
  simp [Array.getD,h]
 have l0:Lt n (List.range n).toArray:=fun i=>by
  by_cases z:i<n
  ·simp [Array.getD,z]
  ·simp [Array.getD,z]; omega
 have sz0:(List.range n).toArray.size=n:=by simp
 obtain ⟨m,p1,a1,a2,a3,a4,a5⟩:=lx ky (p:=(List.range n).toArray) (N:=n) ⟨sz0,by omega,fun i _ h=>same i h,fun i h=>by
  have:i=0:=by omega
  subst this
  rw [same 0 (by omega)]; omega⟩ (same 0 (by omega))
 have l1:Lt n p1:=by
  have:=m9 (ask:=cw ky) _ (iJ l0 n)
  rw [a1] at this; exact this
 have hmr:=o8 h64 h128
 refine kasC_bind (kasC_get ?_)
 extract_lets sz mr lo0
 have hsz:n=sz:=by
  show n=((List.range n).toArray.map (kas_item it)).size
  rw [Array.size_map]; exact sz0.symm
 have hmm:mr=n / 2+n % 2:=by
  show minRun' sz sz 0=_
  rw [<-hsz]; exact hmr
 clear_value mr sz
 subst hsz
 refine kasC_bind (av (Q:=fun c st' s'=>s'=s/\c.1=none/\((∃ p,R1 ky it n n p/\st'=SortSt.mk' oneType' (p.map (kas_item it)) #[(0,n,0)] 7 none)\/∃ p n1 pw,R1 ky it n n1 p/\n1<n/\st'=SortSt.mk' oneType' (p.map (kas_item it)) #[(0,n1,pw),(n1,n - n1,0)] 7 none))
  (bh (fun x c st'=>(x=0/\c=(none,0)/\st'=kas_st oneType' it (List.range n).toArray)\/(x=1/\∃ p n1,R1 ky it n n1 p/\c=(none,n1)/\st'=SortSt.mk' oneType' (p.map (kas_item it)) #[(0,n1,0)] 7 none) \/
   (2<=x/\∃ p n1 pw,R1 ky it n n1 p/\n1<n/\c=(none,n)/\st'=SortSt.mk' oneType' (p.map (kas_item it)) #[(0,n1,pw),(n1,n - n1,0)] 7 none)) (.inl ⟨rfl,rfl,rfl⟩) ?_ ?_) ?_)
 ·intro x c st' hx h
  refine av (Q:=PR ky it n s (x+1)) ?_ ?_
  ·rcases h with ⟨rfl,rfl,rfl⟩ | ⟨rfl,p,n1,r1,rfl,rfl⟩ | ⟨hx2,p,n1,pw,r1,hn1,rfl,rfl⟩
   ·refine af (fun h=>absurd (show 0 >= n from h) (by omega)) fun _ => ?_
    refine kasC_bind (kas_count_ (p:=(List.range n).toArray) (nrem:=n) (G:=fun r s'=>s'=s/\r=(m,p1)) (by omega) (by rw [sz0]; omega) (fun m' p' s' b1 b2 b3 b4 => ?_) (jJ cmp _ (iJ l0 n) ⟨rfl,a1⟩))
    obtain ⟨rfl,b4⟩:=b4
    obtain ⟨rfl,rfl⟩:=Prod.mk.inj b4
    dsimp (config:={zeta:=false,zetaHave:=false}) only
    extract_lets nn jp
    have key:∀ p n1,R1 ky it n n1 p->kasC (model prog w) A E (jp () n1) (PR ky it n s' 1) (kas_st oneType' it p) s':=fun p n1 r=>by
     refine kasC_bind (kasC_get ?_)
     refine kasC_bind (kasC_modify (kasC_pure ⟨rfl,.inl ⟨rfl,p,n1,r,?_,rfl⟩⟩))
     show (none,0+n1)=_
     rw [Nat.zero_add]
    clear_value jp
    refine af (fun c1 => ?_) fun c1 => ?_
    ·refine kasC_bind (kasC_lift (wpAny_rule ?_))
     have c1:m'<mr:=c1
     obtain ⟨p2,q1,q2,q3,q4⟩:=jL ky (M:=mr) (by omega) (mr - m') p' m' a3 (by omega) a4
     have mm:max m' 1=m':=by omega
     have mn:min n mr=mr:=by omega
     refine kasC_bind (kas_bin_ (p:=p') (n:=min n mr) (ok:=m') (G:=fun p s''=>s''=s'/\p=p2) (by rw [b3,sz0]; omega) (fun p3 s3 z1 z2 => ?_) (by rw [mm,mn]; exact jJ cmp _ (mG _ _ _ l1) ⟨rfl,q1⟩))
     obtain ⟨rfl,rfl⟩:=z2
     refine af (fun z=>by cases z) fun _ => ?_
     refine key p3 _ ?_
     show R1 ky it n (min n mr) p3
     rw [mn]
     exact ⟨q2,q3,q4.trans a5,by omega⟩
    ·have c1:¬ m'<mr:=c1
     exact key p' m' ⟨a3,a4,a5,by omega⟩
   ·have le:=r1.1.le
    refine af (fun h => ?_) fun c1 => ?_
    ·have:n1=n:=by have h:n1 >= n:=h; omega
     subst this
     exact kasC_pure ⟨rfl,rfl,.inl ⟨p,r1,rfl⟩⟩
    have c1:¬ n1 >= n:=c1
    have ga:∀ i,n1<=i->i<n->(p.map (kas_item it))[i]?=some (kas_item it i):=fun i h1 h2=>by
     have:=r1.1.id i h1 h2
     have sz:=r1.1.sz
     unfold pf at this
     have e:p[i]?=some i:=by
      rw [Array.getElem?_eq_getElem (by omega)]
      simpa [Array.getD,sz,h2] using this
     rw [Array.getElem?_map,e]; rfl
    refine kasC_bind (uc (κ:=oneType') (lo:=n1) (nrem:=n - n1) rfl (by omega) (fun i hi=>⟨_,_,ga (n1+i) (by omega) (by omega),ga (n1+i+1) (by omega) (by omega),?_⟩) ?_)
    ·refine Cm.of fun C hC=>cmp _ _ C (by omega) (by omega) ?_
     have:=asc (n1+i) (n1+i+1) (by have:=r1.2.2.2; omega) (by omega) (by omega)
     unfold cw
     rw [decide_eq_false (by omega)]; exact hC
    dsimp (config:={zeta:=false,zetaHave:=false}) only
    extract_lets nn jp
    have key:kasC (model prog w) A E (jp () (n - n1)) (PR ky it n s 2) (SortSt.mk' oneType' (p.map (kas_item it)) #[(0,n1,0)] 7 none) s:=by
     refine kasC_bind (kasC_get ?_)
     refine kasC_bind (av (Q:=fun c st' s'=>s'=s/\st'=SortSt.mk' oneType' (p.map (kas_item it)) #[(0,n1,0)] 7 none/\c=(none,())) (bh (fun i c st'=>st'=SortSt.mk' oneType' (p.map (kas_item it)) #[(0,n1,0)] 7 none/\c=(none,())) ⟨rfl,rfl⟩ ?_ ?_) ?_)
     ·rintro i c st' hi ⟨rfl,rfl⟩
      exact kasC_bind (kasC_get (kasC_pure ⟨rfl,rfl,rfl⟩))
     ·rintro c st' ⟨rfl,rfl⟩
      exact ⟨rfl,rfl,rfl⟩
     ·rintro c st' s' ⟨rfl,rfl,rfl⟩
      refine kasC_bind (kasC_modify (kasC_bind (kasC_modify (kasC_pure ⟨rfl,.inr ⟨Nat.le_refl 2,p,n1,power' n (2 * 0+n1) (2 * 0+n1+n1+(n - n1)) n,r1,by omega,?_,?_⟩⟩))))
      ·show (none,n1+(n - n1))=_
       rw [show n1+(n - n1)=n by omega]
      ·have pe:∀ pw,(#[(0,n1,0)].modify (#[(0,n1,0)].size - 1) fun x=>(x.fst,x.2.fst,pw)).push (n1,n - n1,0) = #[(0,n1,pw),(n1,n - n1,0)]:=fun pw=>by
        apply Array.ext'
        simp
       exact congrArg (fun q=>SortSt.mk' oneType' (p.map (kas_item it)) q 7 none) (pe _)
    clear_value jp
    refine af (fun c2 => ?_) fun _=>key
    have c2:n - n1<mr:=c2
    have mn:min (n - n1) mr=n - n1:=by omega
    refine kasC_bind (kasC_lift (wpAny_rule ?_))
    refine kasC_bind (vQ (n:=min (n - n1) mr) mn (by omega) ?_)
    refine af (fun z=>by cases z) fun _ => ?_
    show kasC _ _ _ (jp () (min (n - n1) mr)) _ _ _
    rw [mn]; exact key
   ·exact af (fun _=>kasC_pure ⟨rfl,rfl,.inr ⟨p,n1,pw,r1,hn1,rfl⟩⟩) fun h=>absurd (Nat.le_refl n) h
  ·rintro (c | c) st2 s2 ⟨rfl,h⟩
   ·exact ⟨rfl,h⟩
   ·exact ⟨rfl,.inr h⟩
 ·rintro c st' (⟨h,_⟩ | ⟨h,_⟩ | ⟨_,p,n1,pw,r1,hn1,rfl,rfl⟩)
  ·omega
  ·omega
  ·exact ⟨rfl,rfl,.inr ⟨p,n1,pw,r1,hn1,rfl⟩⟩
 ·rintro ⟨c1,c2⟩ st' s' ⟨rfl,hc,hst⟩
  cases (show c1=none from hc)
  have full:∀ p:Array Nat,R1 ky it n n p->∀ st',arrOf st'=p.map (kas_item it)->failedOf st'=none->Q () st' s':=fun p r st' h1 h2=>hq p st' r.1.sz r.2.1 r.2.2.1 h1 h2
  refine kasC_bind (av (Q:=fun c st2 s2=>s2=s'/\c=(none,())/\Q () st2 s') (bh (fun i c st2=>c=(none,())/\((i=0/\st2=st')\/(1<=i/\(pendingOf st2).size<=1/\Q () st2 s'))) ⟨rfl,.inl ⟨rfl,rfl⟩⟩ ?_ ?_) ?_)
  ·rintro i c st2 hi ⟨rfl,⟨rfl,rfl⟩ | ⟨h1,h2,h3⟩⟩
   ·rcases hst with ⟨p,r1,rfl⟩ | ⟨p,n1,pw,r1,hn1,rfl⟩
    ·exact kasC_bind (kasC_get (af (fun _=>kasC_pure ⟨rfl,rfl,full p r1 _ rfl rfl⟩) fun h=>absurd (Nat.le_refl 1) h))
    ·obtain ⟨X,Y,e1,e2,e3,T,e4,e5⟩:=xZ (prog:=prog) (w:=w) (A:=A) (E:=E) (s:=s') (κ:=oneType') r1 hn1 hit asc
     have est:SortSt.mk' oneType' (p.map (kas_item it)) #[(0,n1,pw),(n1,n - n1,0)] 7 none=SortSt.mk' oneType' (X.map (kas_item it)++Y.map (kas_item it)).toArray #[(0,(X.map (kas_item it)).length,pw),((X.map (kas_item it)).length,(Y.map (kas_item it)).length,0)] 7 none:=by
      rw [e1,List.length_map,List.length_map,e2,e3]
      congr 1
      simp
     rw [est]
     refine kasC_bind (kasC_get (af (fun h=>absurd (show 2<=1 from h) (by decide)) fun _ => ?_))
     refine kasC_bind (CY T (by rw [List.length_map]; have:=r1.2.2.2; omega) (by rw [List.length_map]; omega) fun g' => ?_)
     refine af (fun z=>by cases z) fun _=>kasC_pure ⟨rfl,rfl,.inr ⟨by omega,Nat.le_refl 1,?_⟩⟩
     refine hq _ _ ?_ e4 e5 ?_ rfl
     ·rw [List.size_toArray,(dt _ _).length_eq,List.length_append]; omega
     ·show (mg win (X.map (kas_item it)) (Y.map (kas_item it))).toArray=_
      rw [mR]
      simp
   ·exact kasC_bind (kasC_get (af (fun _=>kasC_pure ⟨rfl,rfl,h3⟩) fun h=>absurd h2 h))
  ·rintro c st2 ⟨rfl,⟨h,_⟩ | ⟨_,_,h3⟩⟩
   ·omega
   ·exact ⟨rfl,rfl,h3⟩
  ·rintro c st2 s2 ⟨rfl,rfl,h3⟩
   exact kasC_pure h3
end
end SM
namespace IS
open PySem PySem.W PySem.Calls PyProof.Rows SM
section
variable {prog:Program} {w:World} {A:Around} {E:Value->Shared->Prop} {s:Shared} {h₀:Heap} {L l D kS:Addr} {m:Str->Option Value} {news:List (Addr × Obj)} {vs ks:List Value} {Q:Value->Shared->Prop} {kz:List Int} {f:Value} {P:PySem.Fin->Shared->Prop}
noncomputable abbrev Mid (ks:List Value) (e e1:Nat) (kS D:Addr) (news:List (Addr × Obj)):List (Addr × Obj):=(kS,seqObj "list" (List.toArray ks) e)::(D,seqObj "list" #[] e1)::news
theorem rQ {st:SortSt} {e e1:Nat} {out:List Value} (hout:(arrOf st).map (·.2)=List.toArray out) (z1:out.length<128) (z2:ks.length<128) (hf:failedOf st=none) (F:Fr h₀ L s.heap m) (N:News h₀ L s.heap (Mid ks e e1 kS D news))
  (d1:D≠kS) (d2:∀ p∈news,p.1≠kS) (d3:∀ p∈news,p.1≠D) (h:∀ h' c,Fr h₀ L h' m->News h₀ L h' ((D,seqObj "list" (List.toArray out) c)::news)->P (.done (.ret .none)) { s with heap:=h' }) :
  wpAny (model prog w) A (ksk_tail D false e1 (.ref kS) st) P E s:=by
 have nk:=N _ (.head _)
 have nd:=N _ (.tail _ (.head _))
 have s1:=Heap.SameBut.update s.heap kS (Obj.mapSeq fun _=>(#[]:Array Value))
 have g1:=(s1.2 D d1).trans nd.1
 have s2:=Heap.SameBut.update (s.heap.update kS (Obj.mapSeq fun _=>(#[]:Array Value))) D (Obj.mapSeq fun _=>List.toArray out)
 obtain ⟨c,hc⟩:∃ c,((s.heap.update kS (Obj.mapSeq fun _=>(#[]:Array Value))).update D (Obj.mapSeq fun _=>List.toArray out)).get? D=some (seqObj "list" (List.toArray out) c):=⟨_,get?_update_seq g1 fun _=>List.toArray out⟩
 have N0:News h₀ L s.heap news:=fun p hp=>N p (.tail _ (.tail _ hp))
 unfold ksk_tail
 dsimp only
 rw [hout]
 refine wpAny_bind (listUpdate_at nk.1 rfl ?_ (by rw [List.size_toArray,sizeLine_eq]; omega) (Nat.zero_le _))
 refine wpAny_bind (wpAny_letGo (wpAny_bind (seqEpoch_at g1 rfl ?_)))
 refine wpAny_bind (listUpdate_at g1 rfl ?_ (Nat.zero_le _) (by show (List.toArray out).size<=_; rw [List.size_toArray,sizeLine_eq]; omega))
 rw [hf]
 simp only [bne_self_eq_false,Bool.false_eq_true,if_false]
 refine wpAny_pure (h _ c (kas_fr (kas_fr F s1 nk.2.1 nk.2.2) s2 nd.2.1 nd.2.2) fun p hp => ?_)
 rcases List.mem_cons.mp hp with rfl | hp
 ·exact ⟨hc,nd.2⟩
 ·exact kas_news (kas_news N0 s1 d2) s2 d3 p hp
theorem vI {e e1:Nat} (hl:ks.length=vs.length) (hk:IntsAre ks kz) (h64:64<=vs.length) (h128:vs.length<128) (asc:∀ i j,32<=i->i<=j->j<vs.length->kz.getD i 0<=kz.getD j 0) (F:Fr h₀ L s.heap m) (N:News h₀ L s.heap (Mid ks e e1 kS D news))
  (d1:D≠kS) (d2:∀ p∈news,p.1≠kS) (d3:∀ p∈news,p.1≠D) (h:∀ h' c,Fr h₀ L h' m->News h₀ L h' ((D,seqObj "list" (List.toArray (cZ kz vs)) c)::news)->P (.done (.ret .none)) { s with heap:=h' }) :
  wpAny (model prog w) A (ksk_end D false vs.toArray e1 (.ref kS) (List.toArray ks)) P E s:=by
 have hn:¬ vs.toArray.size<2:=by rw [List.size_toArray]; omega
 have kl:kz.length=vs.length:=by rw [<-hl]; exact hk.length.symm
 have kind:keyKind' (List.toArray ks)=pure oneType':=ksk_kind (by simpa using hk) (by simp; omega)
 unfold ksk_end
 dsimp only
 simp only [Bool.false_eq_true,if_false]
 rw [if_neg hn,if_neg hn,kind]
 refine wpAny_bind (wpAny_pure ?_)
 have est:SortSt.mk' oneType' ((List.toArray ks).zip vs.toArray) #[] 7 none=kas_st oneType' (ks.toArray.zip vs.toArray) (List.toArray (List.range vs.length)):=by
  have e:=kas_range (ks.toArray.zip vs.toArray)
  rw [show (ks.toArray.zip vs.toArray).size=vs.length by simp [hl]] at e
  unfold kas_st
  rw [e]
 rw [est]
 have run:kasC (model prog w) A E sortRuns' (fun _ st' s'=>s'=s/\failedOf st'=none/\(arrOf st').map (·.2)=List.toArray (cZ kz vs)) (kas_st oneType' (ks.toArray.zip vs.toArray) (List.toArray (List.range vs.length))) s:=by
  refine A1 (ky:=fun i=>kz.getD i 0) h64 h128 (fun i hi => ?_) asc fun p st' sz up pm ha hf=>⟨rfl,hf,?_⟩
  ·rw [kat_item hl]
   exact gB hk i (by omega)
  ·rw [kat_snds hl ha,kI kl rfl sz up pm]; rfl
 refine wpAny_bind (wpAny_mono run (fun r s' hr => ?_) fun _ _ x=>x)
 obtain ⟨rfl,hf,ho⟩:=hr
 refine rQ ho ?_ (by omega) hf F N d1 d2 d3 h
 unfold cZ
 rw [List.length_map,(aN (α:=Value) (kz.zip vs)).length_eq,List.length_zip]
 omega
end
end IS
namespace IS
open PySem PySem.W PySem.Calls PyProof.Rows SM
section
variable {prog:Program} {w:World} {A:Around} {E:Value->Shared->Prop} {s:Shared} {h₀:Heap} {L l D kS:Addr} {m:Str->Option Value} {news:List (Addr × Obj)} {vs:List Value} {Q:Value->Shared->Prop} {kz:List Int} {f:Value} {P:PySem.Fin->Shared->Prop}
noncomputable abbrev kj (prog:Program) (w:World) (A:Around) (h₀:Heap) (L:Addr) (m:Str->Option Value) (news:List (Addr × Obj)) (vs:List Value) (kz:List Int) (f:Value) (s:Shared):Prop :=
 ∀ (i:Nat) (v:Value) (k:Int),vs[i]?=some v->kz[i]?=some k->∀ (h:Heap) (tk:Nat) (own:List (Addr × Obj)),Fr h₀ L h m->News h₀ L h (news++own) ->
  wpAny (model prog w) A (call f [v]) (KskEnd h₀ L m (news++own) k { s with heap:=h,toks:=tk }) (fun _ _=>False) { s with heap:=h,toks:=tk }
theorem lj {e1:Nat} {body:Value->PUnit->Sem (ForInStep PUnit)} (hlen:kz.length=vs.length) (h128:vs.length<128) (d1:D≠kS) (d2:∀ p∈news,p.1≠kS) (turn:kj prog w A h₀ L m news vs kz f s)
  (hb:∀ x (Q':ForInStep PUnit->Shared->Prop) s',wpAny (model prog w) A (call f [x]) (fun k s2=>wpAny (model prog w) A (Builtin.List.listUpdate (.ref kS) (·.push k)) (fun _ s3=>Q' (.yield ⟨⟩) s3) E s2) (fun _ _=>False) s'->wpAny (model prog w) A (body x ⟨⟩) Q' E s') :
  ∀ (r:List Value) (i:Nat) (ks:List Value) (e:Nat) (h:Heap) (tk:Nat),vs.drop i=r->i<=vs.length->IntsAre ks (kz.take i)->Fr h₀ L h m->News h₀ L h (Mid ks e e1 kS D news) ->
   wpAny (model prog w) A (forIn r PUnit.unit body) (fun _ s'=>∃ ks e h tk,s'={ s with heap:=h,toks:=tk }/\IntsAre ks kz/\Fr h₀ L h m/\News h₀ L h (Mid ks e e1 kS D news)) E { s with heap:=h,toks:=tk }
 | [],i,ks,e,h,tk,hr,hi,hk,F,N=>by
  have:vs.length<=i:=List.drop_eq_nil_iff.mp hr
  rw [List.take_of_length_le (by omega)] at hk
  rw [List.forIn_nil]
  exact wpAny_pure ⟨ks,e,h,tk,rfl,hk,F,N⟩
 | v::r,i,ks,e,h,tk,hr,hi,hk,F,N=>by
  have hi2:i<vs.length:=by
   rcases Nat.lt_or_ge i vs.length with z | z
   ·exact z
   ·rw [List.drop_of_length_le z] at hr; cases hr
  have hv:vs[i]?=some v:=by
   have:=congrArg List.head? hr
   rwa [List.head?_drop] at this
  have hk2:kz[i]?=some (kz.getD i 0):=by rw [List.getElem?_eq_getElem (by omega)]; simp [List.getD,List.getElem?_eq_getElem (show i<kz.length by omega)]
  have hkl:ks.length=i:=by rw [hk.length,List.length_take]; omega
  rw [List.forIn_cons]
  refine wpAny_bind (hb v _ _ (wpAny_mono (turn i v _ hv hk2 h tk [(kS,seqObj "list" (List.toArray ks) e),(D,seqObj "list" #[] e1)] F fun p hp=>N p ?_) (fun x s' hx => ?_) fun _ _ z=>z))
  ·rcases List.mem_append.mp hp with z | z
   ·exact .tail _ (.tail _ z)
   ·rcases List.mem_cons.mp z with rfl | z
    ·exact .head _
    ·rw [List.mem_singleton.mp z]; exact .tail _ (.head _)
  ·obtain ⟨h',tk',t',rfl,rfl,F',N'⟩:=hx
   have nk:=N' (kS,seqObj "list" (List.toArray ks) e) (List.mem_append_right _ (.head _))
   have nd:=N' (D,seqObj "list" #[] e1) (List.mem_append_right _ (.tail _ (.head _)))
   have s1:=Heap.SameBut.update h' kS (Obj.mapSeq (·.push (.int (kz.getD i 0) t')))
   obtain ⟨c,hc⟩:∃ c,(h'.update kS (Obj.mapSeq (·.push (.int (kz.getD i 0) t')))).get? kS=some (seqObj "list" (List.toArray (ks++[.int (kz.getD i 0) t'])) c):=by
    have:=get?_update_seq nk.1 (·.push (.int (kz.getD i 0) t'))
    rw [show (List.toArray ks).push (.int (kz.getD i 0) t')=List.toArray (ks++[.int (kz.getD i 0) t']) by simp] at this
    exact ⟨_,this⟩
   refine listUpdate_at (s:={ s with heap:=h',toks:=tk' }) nk.1 rfl ?_ (by rw [List.size_toArray,sizeLine_eq]; omega) (by rw [Array.size_push,List.size_toArray,sizeLine_eq]; omega)
   refine lj hlen h128 d1 d2 turn hb r (i+1) (ks++[.int (kz.getD i 0) t']) c _ tk' ?_ (by omega) ?_ (kas_fr F' s1 nk.2.1 nk.2.2) fun p hp => ?_
   ·have:=congrArg List.tail hr
    rwa [List.tail_drop] at this
   ·rw [List.take_succ,hk2]
    exact ksk_snoc hk
   ·rcases List.mem_cons.mp hp with rfl | hp
    ·exact ⟨hc,nk.2⟩
    ·rcases List.mem_cons.mp hp with rfl | hp
     ·exact ⟨(s1.2 D d1).trans nd.1,nd.2⟩
     ·have:=N' p (List.mem_append_left _ hp)
      exact ⟨(s1.2 p.1 (d2 p hp)).trans this.1,this.2⟩
theorem sr {e1:Nat} (hlen:kz.length=vs.length) (h64:64<=vs.length) (h128:vs.length<128) (asc:∀ i j,32<=i->i<=j->j<vs.length->kz.getD i 0<=kz.getD j 0) (d1:D≠kS) (d2:∀ p∈news,p.1≠kS) (d3:∀ p∈news,p.1≠D)
  (turn:kj prog w A h₀ L m news vs kz f s) {h:Heap} (F:Fr h₀ L h m) (N:News h₀ L h (Mid [] 0 e1 kS D news)) (hq:∀ h' tk c,Fr h₀ L h' m->News h₀ L h' ((D,seqObj "list" (List.toArray (cZ kz vs)) c)::news)->P (.done (.ret .none)) { s with heap:=h',toks:=tk }) :
  wpAny (model prog w) A (ksk_rest D f false vs.toArray e1 (.ref kS)) P E { s with heap:=h }:=by
 unfold ksk_rest
 refine wpAny_bind (wpAny_rule ?_)
 rw [<-Array.forIn_toList]
 refine wpAny_bind (wpAny_mono (lj (s:=s) (tk:=s.toks) hlen h128 d1 d2 turn (fun x Q' s' hx => ?_) vs 0 [] 0 h rfl (Nat.zero_le _) .nil F N) (fun _ s' hd => ?_) fun _ _ x=>x)
 ·refine wpAny_bind (wpAny_attempt (wpAny_mono hx (fun k s2 hk => ?_) fun _ _ z=>z.elim))
  exact wpAny_bind (wpAny_mono hk (fun _ s3 h3=>wpAny_pure h3) fun _ _ x=>x)
 ·obtain ⟨ks,e,h',tk,rfl,hk,F',N'⟩:=hd
  refine wpAny_bind (listItems_at (N' _ (.head _)).1 rfl ?_)
  exact vI (by rw [hk.length,hlen]) hk h64 h128 asc F' N' d1 d2 d3 fun h2 c F2 N2=>hq h2 tk c F2 N2
end
end IS
namespace IS
open PySem PySem.W PySem.Calls PyProof.Rows SM
section
variable {prog:Program} {w:World} {A:Around} {E:Value->Shared->Prop} {s:Shared} {h₀:Heap} {L l D kS:Addr} {m:Str->Option Value} {news:List (Addr × Obj)} {vs:List Value} {Q:Value->Shared->Prop} {kz:List Int} {f:Value} {P:PySem.Fin->Shared->Prop}
theorem qZ {h:Heap} {n:Nat} (F:Fr h₀ L h m) (N:News h₀ L h news) (ho:h.get? D=some (seqObj "list" vs.toArray n)) (hL:D≠L) (h0:h₀.get? D=none) (dn:∀ p∈news,p.1<D)
  (hlen:kz.length=vs.length) (h64:64<=vs.length) (h128:vs.length<128) (asc:∀ i j,32<=i->i<=j->j<vs.length->kz.getD i 0<=kz.getD j 0) (turn:kj prog w A h₀ L m news vs kz f s)
  (hq:∀ h' tk c,Fr h₀ L h' m->News h₀ L h' ((D,seqObj "list" (List.toArray (cZ kz vs)) c)::news)->P (.done (.ret .none)) { s with heap:=h',toks:=tk }) :
  wpAny (model prog w) A (ksk_tree D f false) P E { s with heap:=h }:=by
 have d3:∀ p∈news,p.1≠D:=fun p hp=>Nat.ne_of_lt (dn p hp)
 have s1:=Heap.SameBut.update h D (Obj.mapSeq fun _=>(#[]:Array Value))
 obtain ⟨e1,g1⟩:∃ e1,(h.update D (Obj.mapSeq fun _=>(#[]:Array Value))).get? D=some (seqObj "list" #[] e1):=⟨_,get?_update_seq ho fun _ => #[]⟩
 have F1:=kas_fr F s1 hL h0
 have N1:=kas_news N s1 d3
 unfold ksk_tree
 refine wpAny_bind (listItems_at (s:={ s with heap:=h }) ho rfl ?_)
 refine wpAny_bind (listUpdate_at (s:={ s with heap:=h }) ho rfl ?_ (by rw [List.size_toArray,sizeLine_eq]; omega) (Nat.zero_le _))
 generalize h.update D (Obj.mapSeq fun _=>(#[]:Array Value))=h1 at *
 refine wpAny_bind (seqEpoch_at (s:={ s with heap:=h1 }) g1 rfl ?_)
 refine wpAny_bind (wpAny_newTuple ?_ (by show vs.length<=_; rw [sizeLine_eq]; omega))
 refine wpAny_bind (wpAny_newList ?_ (Nat.zero_le _))
 refine wpAny_holding ?_
 show wpAny (model prog w) A (ksk_rest D f false vs.toArray e1 (.ref (h1.push (seqObj "tuple" vs.toArray 0)).objs.size)) P E { s with heap:=(h1.push (seqObj "tuple" vs.toArray 0)).push (seqObj "list" #[] 0) }
 have F2:=F1.push (seqObj "tuple" vs.toArray 0)
 have keep:∀ b o,h1.get? b=some o->(h1.push (seqObj "tuple" vs.toArray 0)).get? b=some o:=fun b o q=>Heap.get?_push_of_some _ q
 generalize h1.push (seqObj "tuple" vs.toArray 0)=h2 at *
 have lD:D<h2.objs.size:=Heap.lt_size (keep _ _ g1)
 have lN:∀ p∈news,p.1<h2.objs.size:=fun p hp=>Heap.lt_size (keep _ _ (N1 p hp).1)
 refine sr hlen h64 h128 asc (Nat.ne_of_lt lD) (fun p hp=>Nat.ne_of_lt (lN p hp)) d3 turn (F2.push _) (fun p hp => ?_) hq
 rcases List.mem_cons.mp hp with rfl | hp
 ·exact ⟨Heap.get?_push_size _ rfl,Nat.ne_of_gt F2.ns.lt,Heap.get?_none_of_le (Nat.le_trans F.above (Nat.le_of_lt F2.ns.lt))⟩
 ·rcases List.mem_cons.mp hp with rfl | hp
  ·exact ⟨Heap.get?_push_of_some _ (keep _ _ g1),hL,h0⟩
  ·exact ⟨Heap.get?_push_of_some _ (keep _ _ (N1 p hp).1),(N1 p hp).2⟩
theorem vO {kw:List (Str × Value)} (F:Fr h₀ L s.heap m) (N:News h₀ L s.heap news) (hl:s.heap.IsList l vs.toArray) (hlen:kz.length=vs.length) (h64:64<=vs.length) (h128:vs.length<128) (asc:∀ i j,32<=i->i<=j->j<vs.length->kz.getD i 0<=kz.getD j 0)
  (ha1:argsOk "sorted" ⟨[.ref l],kw⟩) (ha2:∀ x,argsOk "list.sort" ⟨[.ref x],kw⟩) (ht:∀ x,Builtin.«list.sort» ⟨[.ref x],kw⟩=ksk_tree x f false) (turn:kj prog w A.in1.in1 h₀ L m news vs kz f s)
  (h:∀ D h' tk c,Fr h₀ L h' m->News h₀ L h' ((D,seqObj "list" (List.toArray (cZ kz vs)) c)::news)->(∀ q∈news,q.1<D)->Q (.ref D) { s with heap:=h',toks:=tk }) :
  wpAny (model prog w) A (call (.builtin "sorted") [.ref l] kw) Q E s:=by
 refine call_function_entry_kw kind_sorted plain_sorted entry_sorted ha1 ?_
 unfold Builtin.«sorted»
 refine wpAny_bind (m:=checkCount "sorted" 1 1 _) (wpAny_pure (wpAny_bind (collect_list hl ?_ (by rw [sizeLine_eq]; omega))))
 refine wpAny_bind (wpAny_newList ?_ (by rw [sizeLine_eq]; omega))
 have keep:∀ b o,s.heap.get? b=some o->((s.heap.push (seqObj "list" #[] 0)).update s.heap.objs.size (Obj.mapSeq (· ++ vs.toArray))).get? b=some o:=fun b o q=>by
  have:=Nat.ne_of_lt (Heap.lt_size q)
  rw [Heap.get?_update_ne _ _ _ _ this,Heap.get?_push_ne _ _ _ this]
  exact q
 have sz:((s.heap.push (seqObj "list" #[] 0)).update s.heap.objs.size (Obj.mapSeq (· ++ vs.toArray))).objs.size=s.heap.objs.size+1:=by rw [Heap.size_update,size_push']
 have F1:=F.kept keep
 have N1:=N.grown keep
 show wpAny _ _ _ _ _ { s with heap:=((s.heap.push (seqObj "list" #[] 0)).update s.heap.objs.size (Obj.mapSeq (· ++ vs.toArray))).push (seqObj "list" vs.toArray 0) }
 generalize (s.heap.push (seqObj "list" #[] 0)).update s.heap.objs.size (Obj.mapSeq (· ++ vs.toArray))=h1 at *
 have gD:(h1.push (seqObj "list" vs.toArray 0)).get? h1.objs.size=some (seqObj "list" vs.toArray 0):=Heap.get?_push_size _ rfl
 have ln:∀ q∈news,q.1<h1.objs.size:=fun q hq=>Heap.lt_size (N1 q hq).1
 refine wpAny_bind (wpAny_holding (wpAny_call_entry_kw slot_list_sort ⟨_,gD,rfl⟩ entry_list_sort ?body (ha2 _)))
 case body =>
  show wpAny (model prog w) A.in1.in1 (Builtin.«list.sort» ⟨[.ref h1.objs.size],kw⟩) _ _ _
  rw [ht]
  refine qZ (s:=s) (F1.push _) (fun p hp=>⟨Heap.get?_push_of_some _ (N1 p hp).1,(N1 p hp).2⟩) gD (Nat.ne_of_gt F1.ns.lt) (Heap.get?_none_of_le (Nat.le_trans F.above (Nat.le_of_lt F1.ns.lt))) ln hlen h64 h128 asc turn fun h' tk c F' N' => ?_
  exact ⟨_,rfl,wpAny_pure ⟨_,rfl,h _ h' tk c F' N' ln⟩⟩
end
end IS
namespace IS
open PySem PySem.W PySem.Calls PyProof.Rows SM
noncomputable def Few (kz:List Int) (n:Nat):Prop:=n<64\/(64<=n/\n<128/\∀ i j,32<=i->i<=j->j<n->kz.getD i 0<=kz.getD j 0)
section
variable {prog:Program} {w:World} {A:Around} {E:Value->Shared->Prop} {s:Shared} {h₀:Heap} {L l:Addr} {m:Str->Option Value} {news:List (Addr × Obj)} {vs:List Value} {Q:Value->Shared->Prop} {kz:List Int} {f:Value}
theorem vH {kw:List (Str × Value)} (F:Fr h₀ L s.heap m) (N:News h₀ L s.heap news) (hl:s.heap.IsList l vs.toArray) (hlen:kz.length=vs.length) (hz:Few kz vs.length)
  (ha1:argsOk "sorted" ⟨[.ref l],kw⟩) (ha2:∀ x,argsOk "list.sort" ⟨[.ref x],kw⟩) (ht:∀ x,Builtin.«list.sort» ⟨[.ref x],kw⟩=ksk_tree x f false) (turn:kj prog w A.in1.in1 h₀ L m news vs kz f s)
  (h:∀ D h' tk c,Fr h₀ L h' m->News h₀ L h' ((D,seqObj "list" (List.toArray (cZ kz vs)) c)::news)->(∀ q∈news,q.1<D)->Q (.ref D) { s with heap:=h',toks:=tk }) :
  wpAny (model prog w) A (call (.builtin "sorted") [.ref l] kw) Q E s:=by
 rcases hz with hz | ⟨h1,h2,h3⟩
 ·exact sortedK F N hl hlen hz ha1 ha2 ht turn h
 ·exact vO F N hl hlen h1 h2 h3 ha1 ha2 ht turn h
end
theorem rK:∀ {l:List Int},I.upB l=true->l.Pairwise (· <= ·)
 | [],_=>.nil
 | [a],_=>List.pairwise_singleton _ _
 | a::b::r,h=>by
  have h:(decide (a<=b)&&I.upB (b::r))=true:=h
  rw [Bool.and_eq_true] at h
  have ih:=rK h.2
  refine List.pairwise_cons.mpr ⟨fun x hx => ?_,ih⟩
  have ab:=of_decide_eq_true h.1
  rcases List.mem_cons.mp hx with rfl | hx
  ·exact ab
  ·exact Int.le_trans ab ((List.pairwise_cons.mp ih).1 x hx)
theorem yU {xs:List I.D} {kz:List Int} (h:I.kL xs) (ek:I.dF xs=some kz) (hlen:kz.length=xs.length):Few kz xs.length:=by
 rcases h with h | ⟨h1,h2⟩
 ·exact .inl h
 ·by_cases z:xs.length<64
  ·exact .inl z
  ·rw [ek] at h2
   have p:=List.pairwise_iff_getElem.mp (rK (show I.upB (kz.drop 32)=true from h2))
   refine .inr ⟨by omega,h1,fun i j hi hij hj => ?_⟩
   by_cases e:i=j
   ·rw [e]; exact Int.le_refl _
   ·have:=p (i - 32) (j - 32) (by rw [List.length_drop]; omega) (by rw [List.length_drop]; omega) (by omega)
    rw [List.getElem_drop,List.getElem_drop] at this
    simp only [show 32+(i - 32)=i by omega,show 32+(j - 32)=j by omega] at this
    rw [List.getD_eq_getElem?_getD,List.getD_eq_getElem?_getD,List.getElem?_eq_getElem (by omega),List.getElem?_eq_getElem (by omega)]
    exact this
end IS
namespace IS
open PySem PySem.W PyProof.Rows
section
variable {prog:Program} {w:World} {A:Around} {E:Value->Shared->Prop} {s:Shared}
end
section
variable {prog:Program} {w:World} {A:Around} {E:Value->Shared->Prop} {s:Shared} {h₀:Heap} {L D:Addr} {m:Str->Option Value} {news:List (Addr × Obj)} {vs:List Value} {kz:List Int} {f:Value} {P:PySem.Fin->Shared->Prop} {n:Nat}
end
end IS
namespace IS
open PySem PySem.W PyProof.Rows
section
variable {prog:Program} {w:World} {A:Around} {E:Value->Shared->Prop} {s:Shared}
end
section
variable {prog:Program} {w:World} {A:Around} {E:Value->Shared->Prop} {s:Shared} {h₀:Heap} {L l:Addr} {m:Str->Option Value} {news:List (Addr × Obj)} {vs:List Value} {Q:Value->Shared->Prop} {ts:List (Int × Int)}
end
end IS
namespace IS
open PySem PySem.Spec L2
open PyProof.Rows hiding St
noncomputable def fb (kz:List Int) (xs:List V):List V:=(I.sortBy (fun a b=>decide (a.1<=b.1)) (kz.zip xs)).map (·.2)
theorem gO {α:Type} {f:α->V} {g:α->Value}:∀ {l:List α},(∀ a∈l,RelV (f a) (g a))->Vals (l.map f) (l.map g)
 | [],_=>.nil
 | a::_,h=>.cons (h a (.head _)) (gO fun b hb=>h b (.tail _ hb))
theorem lO:∀ {xs:List V} {vs:List Value},Vals xs vs->∀ p∈xs.zip vs,RelV p.1 p.2
 | _,_,.nil,p,h=>by cases h
 | _,_,.cons r t,p,h=>by
  rw [List.zip_cons_cons] at h
  rcases List.mem_cons.mp h with rfl | h
  ·exact r
  ·exact lO t p h
theorem pN {kz:List Int} {xs:List V} {vs:List Value} (r:Vals xs vs):Vals (fb kz xs) (cZ kz vs):=by
 have hl:=r.length
 have e1:kz.zip xs=(kz.zip (xs.zip vs)).map (Prod.map id Prod.fst):=by
  rw [<-List.zip_map_right,List.map_fst_zip (by omega)]
 have e2:kz.zip vs=(kz.zip (xs.zip vs)).map (Prod.map id Prod.snd):=by
  rw [<-List.zip_map_right,List.map_snd_zip (by omega)]
 have s1:=sort_map (Prod.map id Prod.fst:Int × (V × Value)->Int × V) (fun _=>rfl) (kz.zip (xs.zip vs))
 have s2:=sort_map (Prod.map id Prod.snd:Int × (V × Value)->Int × Value) (fun _=>rfl) (kz.zip (xs.zip vs))
 have q1:fb kz xs=(I.sortBy leK (kz.zip (xs.zip vs))).map (fun a=>a.2.1):=by
  show (I.sortBy leK (kz.zip xs)).map _=_
  rw [e1,s1,List.map_map]
  rfl
 have q2:cZ kz vs=(I.sortBy leK (kz.zip (xs.zip vs))).map (fun a=>a.2.2):=by
  show (I.sortBy leK (kz.zip vs)).map _=_
  rw [e2,s2,List.map_map]
  rfl
 rw [q1,q2]
 refine gO fun a ha => ?_
 have:=(aN (kz.zip (xs.zip vs))).mem_iff.mp ha
 exact lO r _ (List.of_mem_zip this).2
theorem jn {kz:List Int} {xs:List V} (h:kz.length=xs.length):(fb kz xs).length=xs.length:=by
 show ((I.sortBy leK (kz.zip xs)).map _).length=_
 rw [List.length_map,(aN _).length_eq,List.length_zip]
 omega
theorem kh {P:Program} {w:World} {H:Hp} {h:Heap} {a:Addr} {o:HO} (x:aE P w H h a o):∃ ob,h.get? a=some ob:=by
 cases o with
 | lst xs=>obtain ⟨_,_,_,_,e⟩:=x; exact ⟨_,e⟩
 | tup xs=>obtain ⟨_,_,_,ob,e,_⟩:=x; exact ⟨_,e⟩
 | dK kvs=>obtain ⟨_,_,_,_,o,_,_,e,_⟩:=x; exact ⟨_,e⟩
 | dT kvs=>obtain ⟨_,_,_,_,o,_,_,e,_⟩:=x; exact ⟨_,e⟩
 | set S n=>obtain ⟨o,_,_,_,e,_⟩:=x; exact ⟨_,e⟩
 | ins C dx fs=>obtain ⟨_,_,_,e,_⟩:=x; exact ⟨_,e⟩
 | own y=>obtain ⟨_,e⟩:=x; exact ⟨_,e⟩
 | xd fs=>obtain ⟨_,⟨_,_,_,e,_⟩,_⟩:=x; exact ⟨_,e⟩
 | rng lo hi=>obtain ⟨_,_,_,e⟩:=x; exact ⟨_,e⟩
 | frz ob u=>obtain ⟨e,_⟩:=x; exact ⟨_,e⟩
 | tbl ps=>exact ⟨_,(show h.get? a=some _ from x)⟩
 | met f y=>exact ⟨_,(show h.get? a=some _ from x)⟩
 | ext φ=>obtain ⟨_,⟨_,e⟩,_⟩:=x; exact ⟨_,e⟩
section
variable {X:Cx} {pins:List (Addr × Obj)} {σ:List (Option V)} {H:Hp} {s:Shared} {f l:Addr} {xs:List V} {kz:List Int} {Q:VK}
theorem pq (a v:Value):argsOk "sorted" ⟨[a],[(Str.ofString "key",v)]⟩:=by unfold argsOk; kernel_rfl
theorem oZ (a v:Value):argsOk "list.sort" ⟨[a],[(Str.ofString "key",v)]⟩:=by unfold argsOk; kernel_rfl
theorem sG (I:Inv X pins σ H s) (hL:SqL X.K H l xs) (hlen:kz.length=xs.length) (h64:Few kz xs.length)
  (turn:∀ (i:Nat) (v:V) (u:Value) (k:Int),xs[i]?=some v->RelV v u->kz[i]?=some k->∀ (h:Heap) (tk:Nat),(∀ b o,b≠X.env.locals->s.heap.get? b=some o->h.get? b=some o) ->
   wpAny (model X.prog X.w) X.A.in1.in1 (call (.ref f) [u]) (fun r s'=>∃ h' tk' t',s'={ s with heap:=h',toks:=tk' }/\r=.int k t'/\∀ b o,h.get? b=some o->h'.get? b=some o) (fun _ _=>False) { s with heap:=h,toks:=tk })
  (q:∀ D:Addr,H D=none->Q (.ref D) (upd H D (.lst (fb kz xs)))) :
  wpAny (model X.prog X.w) X.A (call (.builtin "sorted") [.ref l] [(Str.ofString "key",.ref f)]) (EP X pins σ Q) X.xe s:=by
 obtain ⟨its,rv,pl,hz⟩:=I.list hL
 have hvl:=rv.length
 obtain ⟨m,hn,_⟩:=id I.loc
 have mem:∀ {b:Addr} {o:Obj},b≠X.env.locals->s.heap.get? b=some o->(b,o)∈gJ (Att.jN s.heap) s.heap X.env.locals:=fun h1 h2=>lL h1 (Att.ic _ _) h2
 refine vH (Att.yA hn) qb pl.isList (kz:=kz) (by omega) (hvl ▸ h64) (pq _ _) (fun _=>oZ _ _) (fun _=>rfl) (fun i u k hu hk h tk own F N => ?_) fun D h' tk c F' N' dn => ?_
 ·obtain ⟨v,hv,rvu⟩:∃ v,xs[i]?=some v/\RelV v u:=by
   have hi:i<xs.length:=by rw [hvl]; exact (List.getElem?_eq_some_iff.mp hu).1
   obtain ⟨u',e,r⟩:=rv.get (List.getElem?_eq_getElem hi)
   rw [hu] at e; cases e
   exact ⟨_,List.getElem?_eq_getElem hi,r⟩
  refine wpAny_mono (turn i v u k hv rvu hk h tk fun b o hb e=>(N (b,o) (List.mem_append_left _ (mem hb e))).1) (fun r s' hr => ?_) fun _ _ z=>z
  obtain ⟨h',tk',t',rfl,rfl,kp⟩:=hr
  refine ⟨h',tk',t',rfl,rfl,⟨F.ns.keeps kp,fun b o e=>kp b o (F.keep b o e),F.above⟩,fun p hp=>⟨kp _ _ (N p hp).1,(N p hp).2⟩⟩
 ·have hD:=N' (D,_) (.head _)
  have kp:∀ b o,b≠X.env.locals->s.heap.get? b=some o->h'.get? b=some o:=fun b o hb e=>(N' (b,o) (.tail _ (mem hb e))).1
  have ltD:∀ b o,b≠X.env.locals->s.heap.get? b=some o->b≠D:=fun b o hb e=>Nat.ne_of_lt (dn (b,o) (mem hb e))
  have hDL:D≠X.env.locals:=hD.2.1
  have trL:∀ b u,H b=some u->b≠X.env.locals:=fun b u e z=>by rw [z,I.free] at e; cases e
  have inH:∀ b u,H b=some u->∃ o,s.heap.get? b=some o:=fun b u e=>kh (I.hok b u e)
  have trD:∀ b u,H b=some u->b≠D:=fun b u e=>by
   obtain ⟨o,ho⟩:=inH b u e
   exact ltD b o (trL b u e) ho
  have hDn:H D=none:=by
   cases e:H D with
   | none=>rfl
   | some u=>exact absurd rfl (trD D u e)
  refine ⟨.ref D,upd H D (.lst (fb kz xs)),?_,rfl,q D hDn⟩
  refine I.step (g':=s.gens) (d':=s.drawn) (ch:=[]) (fun _ z=>nomatch z) (fun b o hb _ _ e _=>kp b o hb e) (fun b o hb _ _ e _=>⟨o.slots,kp b o hb e⟩) (fun b o _ e n => ?_) (fun b o _ e => ?_) (fun b ys e => ?_) (fun b o u e => ?_) (fun b ps e => ?_) (fun m' hm => ?_) (fun b u e => ?_) I.bare
  ·by_cases z:b=X.env.locals
   ·rw [z,ah hDL.symm]; exact I.free
   ·rw [ah (ltD b o z e)]; exact n
  ·by_cases z:b=X.env.locals
   ·obtain ⟨o',_,_,ho',_⟩:=F'.ns
    rw [z]; exact ⟨o',ho'⟩
   ·exact ⟨o,kp b o z e⟩
  ·rw [ah (trD b _ e)]; exact e
  ·rw [ah (trD b _ e)]; exact e
  ·exact ⟨#[],by rw [ah (trD b _ e),e]; simp⟩
  ·rw [show m'=m from (hm.eq_nsMap).trans hn.eq_nsMap.symm]
   exact F'.ns
  ·by_cases z:b=D
   ·subst z
    rw [ak] at e; cases e
    exact ⟨by rw [jn hlen]; exact hz,_,c,pN rv,hD.1⟩
   ·rw [ah z] at e
    refine (I.hok b u e).aX (fun d v hd g=>kp d v ?_ g) (fun d g=>by rw [ah (trD d _ g)]; exact g) fun d ys g=>by rw [ah (trD d _ g)]; exact g
    rcases hd with rfl | hd
    ·exact trL _ _ e
    ·exact trL _ _ hd
end
end IS
namespace IS
open PySem PySem.Spec L2
open PyProof.Rows hiding St
theorem sR {nm q:Str} {g:Arg} {body:Expr} {scope:Scope} {cl:List (Str × Addr)} {pm cdv ct v:Value} :
  bindArgs (PySem.W.kla_fn nm q ⟨[],[g],none,[],[],none,[]⟩ body scope cl pm cdv ct) ⟨[v],[]⟩=pure [(g.arg,v)]:=by
 have e:([(g.arg,v)].lookup g.arg)=some v:=by simp
 unfold bindArgs
 simp [seqItems?,e]
 rfl
noncomputable def rS (K:PySem.W.Frag) (_:List (Option V)) (H:Hp) (xs:List V) (kz:List Int):Prop:=∀ (i:Nat) (v:V) (k:Int),xs[i]?=some v->kz[i]?=some k->∃ (a:Addr) (ys:List V),v=.ref a/\SqT K H a ys/\ys[1]?=some (V.int k)
noncomputable def Bs (K:PySem.W.Frag) (P:Addr) (q:Str) (Ks:List (Option V)->Hp->List V->List Int->Prop) (σ:List (Option V)) (x:V) (H1:Hp) (Q:VK):Prop :=
 ∃ ps,H1 P=some (.tbl ps)/\TriplesOk ps.toList/\(∀ pos cv,codeAmong pos ps.toList=some cv->∃ c',cv=Value.ref c'/\H1 c'=some (cE c' q)) /\
  ∀ H2,Ai H1 H2 P q ps->∃ (l:Addr) (xs:List V) (kz:List Int),x=.ref l/\SqL K H2 l xs/\Few kz xs.length/\kz.length=xs.length/\Ks σ H2 xs kz/\∀ D,H2 D=none->Q (.ref D) (upd H2 D (.lst (fb kz xs)))
noncomputable def Cv (K:PySem.W.Frag) (P:Addr) (q:Str) (Ks:List (Option V)->Hp->List V->List Int->Prop) (te:TE):TE:=fun σ H Q=>te σ H fun x0 H1=>∃ x,[x0]=[x]/\Bs K P q Ks σ x H1 Q
section
variable {X:Cx} {c P:Addr} {q x:Str} {params:Arguments} {body e:Expr} {scope:Scope} {clos:List (Str × Addr)} {pos lp kp p:Pos} {te:TE}
theorem p5 {Ks:List (Option V)->Hp->List V->List Int->Prop} (hB:BMd X.mg X.base) (hcode:X.env.code=.ref c) (C:PySem.W.CodeHd X.base c P) (hq:X.env.qual ++ "<lambda>" = q) (hdef:defaultsOf params X.env=([],[])) (hcl:closureFor scope X.env=pure clos)
  (hroom:X.A.depth<recursionLimit) (hg:Gl X "sorted") (hm:X.mg "sorted" = none) (ha:PE X e te) (he:starEach [e] X.env=(false,eval e X.env)::starEach [] X.env)
  (hbind:∀ (v:Value) (f c':Addr) (ctv:Value),bindArgs (PySem.W.kla_fn "<lambda>" q params body scope clos ((X.mg "__name__").getD .none) (.ref c') ctv) ⟨[v],[]⟩=pure [(x,v)]) (hloc:scope.names.lookup x=some .local)
  (hco:scope.isCoroutine=false) (hgen:scope.isGenerator=false) (hk:scope.kind=.function) (hcell:∀ y∈scope.names,y.2≠.cell)
  (hbody:∀ (pins:List (Addr × Obj)) (σ:List (Option V)) (H:Hp) (s:Shared) (xs:List V) (kz:List Int) (i:Nat) (v:V) (u:Value) (k:Int),Inv X pins σ H s->Ks σ H xs kz->xs[i]?=some v->RelV v u->kz[i]?=some k ->
   ∀ (h₁:Heap) (tk:Nat) (B:Around) (n f c':Addr) (Q:Value->Shared->Prop),(∀ b o,b≠X.env.locals->s.heap.get? b=some o->h₁.get? b=some o)->h₁.Ns n (fun y=>[(x,u)].lookup y)->(∀ t tk',Q (.int k t) { s with heap:=h₁,toks:=tk' }) ->
    wpAny (model X.prog X.w) B (eval body (iw q scope n clos f c')) Q (fun _ _=>False) { s with heap:=h₁,toks:=tk }) :
  PE X (.Call (.Name "sorted" p) [e] [⟨some "key",.Lambda params body scope lp,kp⟩] pos) (Cv X.K P q Ks te):=by
 intro pins s σ H Q I h
 refine wpAny_Call_Name_kw (eO I hg hm PyProof.Rows.boot_sorted ?_ (by decide) (by decide))
 refine PyProof.Rows.callWith_kw (thn (bV ha fH he pos pins s σ H (fun vs H1=>∃ x,vs=[x]/\Bs X.K P q Ks σ x H1 Q) I h) fun us s1 ⟨vs,H1,I1,r1,x,e1,ps,hP,ht,hc,q1⟩ => ?_) (by rw [he]; rfl) (by rw [he]; rfl) rfl rfl
 subst e1
 obtain ⟨u,rfl,ru⟩:=r1.one
 refine PyProof.Rows.kws_cons (qR I1 hB hcode C hP ht hc hq hdef hcl fun f c' ctv s2 H2 I2 hf hfn hfs hc' hL=>PyProof.Rows.kws_nil ?_)
 obtain ⟨l,xs,kz,rfl,hl,h64,hlen,hKs,q2⟩:=q1 H2 hL
 cases (show u=Value.ref l from ru)
 refine sG I2 hl hlen h64 (fun i v u k hv rvu hk' h tk kp => ?_) q2
 have neL:∀ b o,X.base.get? b=some o->b≠X.env.locals:=fun b o e=>Nat.ne_of_lt (Nat.lt_of_lt_of_le (Heap.lt_size e) (Nat.le_trans I2.ok.bsz I2.ok.above))
 have hfL:f≠X.env.locals:=Nat.ne_of_gt (Nat.lt_of_lt_of_le I1.lt hfs)
 have hcd:h.CodeRec (.ref c') q:=by
  obtain ⟨⟨c₂,o,vs,t,e,g,r⟩,_⟩:=I2.hok c' _ hc'
  cases e
  exact ⟨_,o,vs,t,rfl,kp _ _ (fun z=>by rw [z,I2.free] at hc'; cases hc') g,r⟩
 refine tS (s:={ s2 with heap:=h,toks:=tk }) (A:=X.A.in1.in1) hroom (kp f _ hfL hf) hcd (I2.ok.mod.nolimit.keeps fun b o e=>kp b o (neL b o e) (I2.bk b o e)) (hbind u f c' ctv) hloc hco hgen hk hcell fun h₁ hns hk₁ => ?_
 exact hbody pins σ H2 s2 xs kz i v u k I2 hKs hv rvu hk' h₁ _ _ _ f c' _ (fun b o n e=>hk₁ b o (kp b o n e)) hns fun t tk'=>⟨h₁,tk',t,rfl,rfl,hk₁⟩
theorem qj {pins:List (Addr × Obj)} {σ:List (Option V)} {H:Hp} {s:Shared} {h₁:Heap} {a:Addr} {its:Array Value} (I:Inv X pins σ H s) (kp:∀ b o,b≠X.env.locals->s.heap.get? b=some o->h₁.get? b=some o) (ht:IsTup s.heap a its):IsTup h₁ a its:=by
 obtain ⟨o,e,hc,n,hd⟩:=ht
 refine ⟨o,kp a o (fun z => ?_) e,hc,n,hd⟩
 obtain ⟨m,⟨o',es,ep,ho',hd',_⟩,_⟩:=I.loc
 rw [z,ho'] at e; cases e; rw [hd'] at hd; cases hd
theorem kM {p1 p2 p3:Pos} {j:Nat} (hk:scope.kind=.function) (hloc:scope.names.lookup x=some .local) (hd:(x == ("__debug__" : Str))=false)
  (pins:List (Addr × Obj)) (σ:List (Option V)) (H:Hp) (s:Shared) (xs:List V) (kz:List Int) (i:Nat) (v:V) (u:Value) (k:Int) (I:Inv X pins σ H s) (K2:rS X.K σ H xs kz) (hv:xs[i]?=some v) (rv:RelV v u) (hk':kz[i]?=some k)
  (h₁:Heap) (tk:Nat) (B:Around) (n f c':Addr) (Q:Value->Shared->Prop) (kp:∀ b o,b≠X.env.locals->s.heap.get? b=some o->h₁.get? b=some o) (hn:h₁.Ns n (fun y=>[(x,u)].lookup y)) (hQ:∀ t tk',Q (.int k t) { s with heap:=h₁,toks:=tk' }) :
  wpAny (model X.prog X.w) B (eval (.Subscript (.Name x p1) (.Constant (.int 1) j p2) p3) (iw q scope n clos f c')) Q (fun _ _=>False) { s with heap:=h₁,toks:=tk }:=by
 obtain ⟨a,ys,rfl,ht,hy⟩:=K2 i v k hv hk'
 cases (show u=Value.ref a from rv)
 obtain ⟨its,r,tp,_⟩:=I.tuple ht
 obtain ⟨w,ew,rw'⟩:=r.get hy
 obtain ⟨t,rfl⟩:=(show ∃ t,w=Value.int k t from rw')
 exact lU (s:={ s with heap:=h₁,toks:=tk }) hk hloc hd hn (qj I kp tp) (by simpa using ew) fun tk'=>hQ t tk'
end
end IS
namespace IS
open PySem PySem.Spec L2
open PyProof.Rows hiding St
section
variable {X:Cx} {pins:List (Addr × Obj)} {σ:List (Option V)} {H:Hp} {s:Shared} {f r:Addr} {lo hi:Int} {n:Nat} {kz:List Int} {Q:VK}
end
end IS
namespace IS
open PySem PySem.Spec L2
open PyProof.Rows hiding St
section
variable {X:Cx} {c P:Addr} {q x:Str} {params:Arguments} {body e:Expr} {scope:Scope} {clos:List (Str × Addr)} {pos lp kp p:Pos} {te:TE}
end
end IS
namespace IS
open PySem PySem.Spec L2
open PyProof.Rows hiding St
open I (D Cell OS Fr R SZ Kt Ko)
section
variable {G:GI} {E:XK} {P:I.Pg} {KO:I.Orc} {W:Nat} {X:Cx}
theorem uT {t:Nat} {o:Option Cell} (h:I.oP t o=true):o=some (.tab t):=by
 cases o with
 | none=>cases h
 | some c=>cases c with
  | tab n=>rw [show n=t from eq_of_beq h]
  | _=>cases h
theorem Rel.lam {ι:List Addr} {Hf H H2:Hp} {os:OS} {t:Nat} {ps:Array Value} (rel:Rel G ι Hf H os) (hc:I.aa os t=some (.tab t)) (ha:ι[t]?=some (G.tA t)) (hP:H (G.tA t)=some (.tbl ps))
  (hcont:∀ pos cv,codeAmong pos ps.toList=some cv->∃ c',cv=.ref c'/\Hf c'=some (cE c' (G.tq t))) (L:Ai H H2 (G.tA t) (G.tq t) ps):∃ Hf2,Ext ι Hf ι Hf2/\Rel G ι Hf2 H2 os:=by
 rcases L with rfl | ⟨c',ps',hn,rfl,ht,hcv⟩
 ·exact ⟨Hf,.refl,rel⟩
 ·obtain ⟨x1,r1⟩:=rel.fY (o:=cE c' (G.tq t)) hn
  have cP:c'≠G.tA t:=fun z=>by rw [z,hP] at hn; cases hn
  have r2:=r1.kW (o:=.tbl ps') (c':=.tab t) hc ha ⟨ps',ak,rfl,ht,fun pos cv e=>by
   rcases hcv pos cv e with e | e
   ·obtain ⟨c2,e1,e2⟩:=hcont pos cv e
    exact ⟨c2,e1,x1.sub _ _ e2⟩
   ·exact ⟨c',e,ak⟩⟩
  have e1:os.set t (some (.tab t))=os:=by
   apply List.ext_getElem?
   intro i
   by_cases hi:i=t
   ·subst hi
    have hl:=dQ hc
    rw [List.getElem?_set_self hl]
    unfold I.aa at hc
    cases e:os[i]? with
    | none=>rw [e] at hc; cases hc
    | some o=>rw [e] at hc; rw [show o=some (.tab i) from hc]
   ·rw [List.getElem?_set_ne (Ne.symm hi)]
  have e2:upd (upd H c' (cE c' (G.tq t))) (G.tA t) (.tbl ps')=upd (upd H (G.tA t) (.tbl ps')) c' (cE c' (G.tq t)):=by
   funext b
   unfold upd
   by_cases z1:b=c'
   ·subst z1
    rw [if_neg cP,if_pos rfl,if_pos rfl]
   ·rw [if_neg z1,if_neg z1]
  rw [e1,e2] at r2
  exact ⟨_,x1,r2⟩
theorem nN {ι:List Addr} {Hf:Hp}:∀ {vs:List V} {ds:List D},Rps G ι Hf vs ds->∀ p∈vs.zip ds,Rp G ι Hf p.1 p.2
 | _,_,.nil,p,h=>by cases h
 | _,_,.cons r t,p,h=>by
  rw [List.zip_cons_cons] at h
  rcases List.mem_cons.mp h with rfl | h
  ·exact r
  ·exact nN t p h
theorem ox {ι:List Addr} {Hf:Hp} {α:Type} {f:α->V} {g:α->D}:∀ {l:List α},(∀ a∈l,Rp G ι Hf (f a) (g a))->Rps G ι Hf (l.map f) (l.map g)
 | [],_=>.nil
 | a::_,h=>.cons (h a (.head _)) (ox fun b hb=>h b (.tail _ hb))
theorem p7 {ι:List Addr} {Hf:Hp} {kz:List Int} {xs:List V} {ds:List D} (r:Rps G ι Hf xs ds):Rps G ι Hf (fb kz xs) ((I.sortBy (fun a b=>decide (a.1<=b.1)) (kz.zip ds)).map (·.2)):=by
 have hl:=r.len
 have e1:kz.zip xs=(kz.zip (xs.zip ds)).map (Prod.map id Prod.fst):=by
  rw [<-List.zip_map_right,List.map_fst_zip (by omega)]
 have e2:kz.zip ds=(kz.zip (xs.zip ds)).map (Prod.map id Prod.snd):=by
  rw [<-List.zip_map_right,List.map_snd_zip (by omega)]
 have s1:=sort_map (Prod.map id Prod.fst:Int × (V × D)->Int × V) (fun _=>rfl) (kz.zip (xs.zip ds))
 have s2:=sort_map (Prod.map id Prod.snd:Int × (V × D)->Int × D) (fun _=>rfl) (kz.zip (xs.zip ds))
 have q1:fb kz xs=(I.sortBy leK (kz.zip (xs.zip ds))).map (fun a=>a.2.1):=by
  show (I.sortBy leK (kz.zip xs)).map _=_
  rw [e1,s1,List.map_map]
  rfl
 have q2:(I.sortBy leK (kz.zip ds)).map (·.2)=(I.sortBy leK (kz.zip (xs.zip ds))).map (fun a=>a.2.2):=by
  rw [e2,s2,List.map_map]
  rfl
 show Rps G ι Hf (fb kz xs) ((I.sortBy leK (kz.zip ds)).map (·.2))
 rw [q1,q2]
 refine ox fun a ha => ?_
 have:=(aN (kz.zip (xs.zip ds))).mem_iff.mp ha
 exact nN r _ (List.of_mem_zip this).2
theorem i6:∀ {xs:List D} {kz:List Int},I.dF xs=some kz->kz.length=xs.length
 | [],_,h=>by cases h; rfl
 | x::r,kz,h=>by
  obtain ⟨k,_,h2⟩:=Option.bind_eq_some_iff.mp (show (I.fI x).bind (fun k=>(I.dF r).map (k :: ·))=some kz from h)
  obtain ⟨ks,h3,rfl⟩:=Option.map_eq_some_iff.mp h2
  rw [List.length_cons,List.length_cons,i6 h3]
theorem kK:∀ {xs:List D} {kz:List Int} {i:Nat} {d:D} {k:Int},I.dF xs=some kz->xs[i]?=some d->kz[i]?=some k->I.fI d=some k
 | [],_,_,_,_,_,h,_=>by simp at h
 | x::r,kz,i,d,k,h,hd,hk=>by
  obtain ⟨k0,h1,h2⟩:=Option.bind_eq_some_iff.mp (show (I.fI x).bind (fun k=>(I.dF r).map (k :: ·))=some kz from h)
  obtain ⟨ks,h3,rfl⟩:=Option.map_eq_some_iff.mp h2
  cases i with
  | zero=>simp at hd hk; subst hd; subst hk; exact h1
  | succ i=>exact kK (i:=i) h3 (by simpa using hd) (by simpa using hk)
theorem nE {ι:List Addr} {Hf:Hp} {vs:List V} {d:D} {k:Int} {r:List D} (h:Rps G ι Hf vs (d::.int k::r)):vs[1]?=some (V.int k):=by
 cases h with
 | cons _ h=>cases h with
  | cons h _=>cases h; rfl
theorem uj {ι:List Addr} {Hf H:Hp} {os:OS} {v:V} {d:D} {k:Int} (rel:Rel G ι Hf H os) (h:Rp G ι Hf v d) (hk:I.fI d=some k):∃ (a:Addr) (ys:List V),v=.ref a/\SqT G.K H a ys/\ys[1]?=some (V.int k):=by
 unfold I.fI at hk
 split at hk
 ·cases hk
  cases h with
  | tup h z r=>exact ⟨_,_,rfl,SqT.of (rel.sub _ _ h),nE r⟩
 ·cases hk
  cases h with
  | ktu h z r=>exact ⟨_,_,rfl,aK.lH rel.sub h,nE r⟩
 ·cases hk
theorem yo {t:Nat} {ea:I.E} (σ:St) (H:Hp) (Q:VK) (h:TF G E P KO (.pr (.srt2 t) (.cons ea .nil)) σ H Q):Cv G.K (G.tA t) (G.tq t) (rS G.K) (T G E P KO ea) σ H Q:=by
 obtain ⟨ι,Hf,ρ,os,rel,rf,w⟩:=h
 refine T.use rel rf (one (WR.bind (k:=⟨_⟩) w)) fun ι1 Hf1 H1 os1 d1 v1 x1 r1 f1 hv1 q1 => ?_
 obtain ⟨hb,q1⟩:=WR.gd (show WR G E ι1 Hf1 (R.gd (I.oP t (I.aa os1 t)=true) (R.ofO ((I.aA os1 d1).bind I.jD) os1)) _ from q1)
 obtain ⟨d,e,q1⟩:=WR.ofO q1
 have hc:=uT hb
 obtain ⟨a,ha,hfa,ps,hP,rfl,htr,hcont⟩:=r1.cell t _ hc
 obtain ⟨xs,ex,e⟩:=Option.bind_eq_some_iff.mp e
 unfold I.jD at e
 by_cases h64:I.kL xs
 ·rw [if_pos h64] at e
  obtain ⟨kz,ek,rfl⟩:=Option.map_eq_some_iff.mp e
  refine ⟨v1,rfl,ps,hP,htr,fun pos cv e=>let ⟨c',e1,e2⟩:=hcont pos cv e; ⟨c',e1,r1.sub _ _ e2⟩,fun H2 L => ?_⟩
  obtain ⟨Hf2,x2,r2⟩:=r1.lam hc ha hP hcont L
  obtain ⟨l,vs,rfl,hl,hz,hr⟩:=r2.BM (hv1.ext x2) ex
  have hlen:=i6 ek
  have hrl:=hr.len
  refine ⟨l,vs,kz,rfl,hl,(hrl ▸ yU h64 ek (by omega)),by omega,fun i v k hv hk => ?_,fun D hD => ?_⟩
  ·obtain ⟨d,hd,rp⟩:=hr.BL hv
   exact uj r2 rp (kK ek hd hk)
  ·obtain ⟨xs',e1,q2⟩:=q1 ι1 Hf2 H2 x2 r2
   cases e1
   exact q2 _ D (p7 hr) (by rw [jn (by omega)]; exact hz) hD
 ·rw [if_neg h64] at e; cases e
end
end IS
namespace L2
open PySem PySem.Spec PyProof.Rows
section
variable {X:Cx}
theorem oN (hc:X.calm=true):bR X (.builtin "sum") (fun xs H Q=>∃ (a:Addr) (ns:List Int),xs=[.ref a]/\SqL X.K H a (ns.map V.int)/\Q (.int ns.sum) H):=by
 intro pins s σ H xs us Q I r h
 obtain ⟨a,ns,rfl,hq,q⟩:=h
 obtain ⟨u,rfl,ru⟩:=vals1 r
 cases ru
 obtain ⟨its,rv,pl,hz⟩:=I.list hq
 have hl:=rv.length
 have hlt:a<s.heap.objs.size:=by
  obtain ⟨o,e,_⟩:=pl.isList
  exact Heap.lt_size e
 refine call_sum_walkAnyS (wpAny_pyIter_list pl.isList ?_)
 have en:its.toArray.size=ns.length:=by rw [List.size_toArray,<-hl,List.length_map]
 refine ⟨s.heap.objs.size,_,_,_,_,_,_,fun i=>ns.getD i 0,rfl,(Walks.list (A:=X.A.in1) (I.ok.hd hc) s.heap.objs.size a (Nat.ne_of_lt hlt) its.toArray).toS,⟨⟨_,Heap.get?_push_size _ rfl,rfl,rfl⟩,pl.isList.push _⟩,fun b hb => ?_,fun i v hv => ?_,fun s' t' hm => ?_⟩
 ·show b<(s.heap.push _).objs.size
  rw [Heap.size_push]
  rcases List.mem_cons.mp hb with z | z
  ·rw [z]; exact Nat.lt_succ_self _
  ·rw [List.mem_singleton.mp z]; exact Nat.lt_succ_of_lt hlt
 ·have hv':its[i]?=some v:=by simpa using hv
  have hi:i<its.length:=(List.getElem?_eq_some_iff.mp hv').1
  have hin:i<ns.length:=by rw [List.length_map] at hl; omega
  obtain ⟨u,hu,ru⟩:=rv.get (i:=i) (x:=.int ns[i]) (by rw [List.getElem?_map,List.getElem?_eq_getElem hin]; rfl)
  rw [hv'] at hu
  cases hu
  obtain ⟨t,rfl⟩:=ru
  refine ⟨t,?_⟩
  show Value.int ns[i] t=Value.int (ns.getD i 0) t
  rw [List.getD_eq_getElem?_getD,List.getElem?_eq_getElem hin]
  rfl
 ·rw [en,PyProof.Rows.preSum_getD,List.take_length]
  obtain ⟨m1,m2,m3,m4,_⟩:=hm
  obtain ⟨h',g',d',k',o'⟩:=s'
  cases m2; cases m3; cases m4
  refine ⟨.int ns.sum,H,I.kept fun b o e=>m1 b o (fun z => ?_) (Heap.get?_push_of_some _ e),⟨_,rfl⟩,q⟩
  have z':b=s.heap.objs.size:=by simpa using z
  have:=Heap.lt_size e
  rw [z'] at this
  exact Nat.lt_irrefl _ this
end
end L2
namespace L2
open PySem PySem.Spec PyProof.Rows
section
variable {X:Cx}
theorem ints_list {pins:List (Addr × Obj)} {s:Shared} {σ:St} {H:Hp} {a:Addr} {ns:List Int} (I:Inv X pins σ H s) (hq:SqL X.K H a (ns.map V.int)):∃ xs:Array (Int × Tok),s.heap.IsList a (intItems xs)/\ns=xs.toList.map (·.1)/\ns.length=xs.size:=by
 obtain ⟨its,rv,pl,hz⟩:=I.list hq
 have hi:=eU rv
 obtain ⟨xs,e⟩:=hi.allInts.items
 have hns:ns=xs.toList.map (·.1):=by rw [<-hi.numsOf,<-nums_intItems,<-e]
 have hl:=pl.isList
 rw [e] at hl
 exact ⟨xs,hl,hns,by rw [hns,List.length_map,Array.length_toList]⟩
theorem pJ (hc:X.calm=true):bR X (.builtin "min") (fun xs H Q=>∃ (a:Addr) (ns:List Int) (m:Int),xs=[.ref a]/\SqL X.K H a (ns.map V.int)/\m∈ns/\(∀ b∈ns,m<=b)/\Q (.int m) H):=by
 intro pins s σ H xs us Q I r h
 obtain ⟨a,ns,m,rfl,hq,hm,hb,q⟩:=h
 obtain ⟨u,rfl,ru⟩:=vals1 r
 cases ru
 obtain ⟨xs,hl,hns,hlen⟩:=ints_list I hq
 have hne:0<xs.size:=by rw [<-hlen]; exact List.length_pos_of_mem hm
 refine min_intList (I.ok.hd hc) hl hne fun z g tk hv hk => ?_
 obtain ⟨t,rfl⟩:=intItems_at hv
 obtain ⟨h1,h2⟩:=argBest_lt (numAt xs) (xs.size - 1)
 have em:m=numAt xs (argBest (fun i j=>decide (numAt xs i<numAt xs j)) (xs.size - 1)):=by
  refine Int.le_antisymm (hb _ ?_) ?_
  ·rw [hns,numAt_eq]; exact getD_mem (by rw [List.length_map,Array.length_toList]; omega)
  ·rw [hns] at hm
   obtain ⟨j,hj,rfl⟩:=mem_getD hm
   rw [List.length_map,Array.length_toList] at hj
   rw [<-numAt_eq]
   exact h2 j (by omega)
 exact ⟨.int _,H,I.kept hk,⟨t,rfl⟩,em ▸ q⟩
end
end L2
namespace IS
open PySem PySem.Spec L2
open PyProof.Rows hiding St
open I (D Cell OS Fr R SZ Kt Ko)
section
variable {G:GI} {E:XK} {P:I.Pg} {KO:I.Orc} {W:Nat} {X:Cx} {a:Expr} {ea:I.E} {tg:Expr} {p pos:Pos}
theorem nt:∀ (r:List Int) (x:Int),r.foldl (fun a b=>if b<a then b else a) x<=x/\(∀ a∈r,r.foldl (fun a b=>if b<a then b else a) x<=a)/\(r.foldl (fun a b=>if b<a then b else a) x=x\/r.foldl (fun a b=>if b<a then b else a) x∈r)
 | [],x=>⟨Int.le_refl _,fun a h=>(List.not_mem_nil h).elim,.inl rfl⟩
 | y::r,x=>by
  obtain ⟨h1,h2,h3⟩:=nt r (if y<x then y else x)
  show r.foldl _ (if y<x then y else x)<=x/\(∀ a∈y::r,r.foldl _ (if y<x then y else x)<=a)/\(r.foldl _ (if y<x then y else x)=x\/r.foldl _ (if y<x then y else x)∈y::r)
  have hx:(if y<x then y else x)<=x:=by split <;> omega
  have hy:(if y<x then y else x)<=y:=by split <;> omega
  refine ⟨Int.le_trans h1 hx,fun a ha => ?_,?_⟩
  ·rcases List.mem_cons.mp ha with rfl | ha
   ·exact Int.le_trans h1 hy
   ·exact h2 a ha
  ·rcases h3 with h3 | h3
   ·by_cases e:y<x
    ·rw [if_pos e] at h3 ⊢; exact .inr (by rw [h3]; exact .head _)
    ·rw [if_neg e] at h3 ⊢; exact .inl h3
   ·exact .inr (.tail _ h3)
theorem nr {ns:List Int} {m:Int} (h:I.mL ns=some m):m∈ns/\∀ b∈ns,m<=b:=by
 cases ns with
 | nil=>cases h
 | cons x r =>
  obtain ⟨g1,g2,g3⟩:=nt r x
  cases (show some (r.foldl (fun a b=>if b<a then b else a) x)=some m from h)
  refine ⟨?_,fun b hb => ?_⟩
  ·rcases g3 with g | g
   ·rw [g]; exact .head _
   ·exact .tail _ g
  ·rcases List.mem_cons.mp hb with rfl | hb
   ·exact g1
   ·exact g2 b hb
theorem yG:VRs G E .min1 (fun xs H Q=>∃ (a:Addr) (ns:List Int) (m:Int),xs=[.ref a]/\SqL G.K H a (ns.map V.int)/\m∈ns/\(∀ b∈ns,m<=b)/\Q (.int m) H):=by
 intro ι Hf H os xs ds Q rel hx w
 cases hx with
 | nil=>exact False.elim w
 | cons hx r =>
  cases r with
  | cons _ _=>exact False.elim w
  | nil =>
   obtain ⟨d,e,w⟩:=WR.ofO w
   obtain ⟨ns,e2,e3⟩:=Option.bind_eq_some_iff.mp e
   obtain ⟨m,e4,rfl⟩:=Option.map_eq_some_iff.mp e3
   obtain ⟨a,rfl,hq⟩:=rel.lr hx e2
   exact ⟨a,ns,m,rfl,hq,(nr e4).1,(nr e4).2,w.now rel _ (.int _)⟩
theorem ku {ι:List Addr} {Hf:Hp}:∀ (ns:List Int),Rps G ι Hf (ns.map V.int) (ns.map D.int)
 | []=>.nil
 | _::r=>.cons (.int _) (ku r)
end
end IS
namespace IS
open PySem PySem.Spec L2
open PyProof.Rows hiding St
open I (D Cell OS Fr R SZ Kt Ko)
section
variable {G:GI} {E:XK} {P:I.Pg} {KO:I.Orc} {W:Nat} {X:Cx}
end
end IS
namespace IS
open PySem PySem.Spec L2
open PyProof.Rows hiding St
open I (D Cell OS Fr R SZ Kt Ko)
section
variable {α β:Type}
end
section
variable {X:Cx}
end
section
variable {G:GI} {E:XK} {P:I.Pg} {KO:I.Orc} {W:Nat}
theorem sL {n m:Nat}:¬ D.pl n (.cel m)=true:=by cases n <;> exact fun h=>nomatch h
mutual
theorem Rp.deep {ι:List Addr} {Hf H:Hp} {os:OS} (rel:Rel G ι Hf H os):∀ (k:Nat) {v:V} {d:D} {n:Nat},Rp G ι Hf v d->D.pl n (I.deep os k d)=true->eG G.K H v (toPy (I.deep os k d))
 | 0,_,d,_,h,p=>Rp.dat rel.sub h p
 | k+1,_,_,_,.non,p=>.non
 | k+1,_,_,_,.bl b,p=>.bl b
 | k+1,_,_,_,.int b,p=>.int b
 | k+1,_,_,_,.str b,p=>.str b
 | k+1,_,_,n,.lst (xs:=xs) h z r,p=>by
  obtain ⟨m,_,q⟩:=eN (show D.pl n (.lst (xs.map (I.deep os k)))=true from p)
  exact .lst (SqL.of (rel.sub _ _ h)) (Rps.deep rel k r q)
 | k+1,_,_,n,.tup (xs:=xs) h z r,p=>by
  obtain ⟨m,_,q⟩:=hI (show D.pl n (.tup (xs.map (I.deep os k)))=true from p)
  exact .tup (SqT.of (rel.sub _ _ h)) (Rps.deep rel k r q)
 | k+1,_,_,n,.scr h z r,p=>by cases n <;> cases p
 | k+1,_,_,n,.ktu h z r,p=>by cases n <;> cases p
 | k+1,_,_,n,.cel (a:=a) (n:=m) h,p=>by
  have e0:I.deep os (k+1) (.cel m)=(match I.aa os m with | some (.lst xs)=>.lst (xs.map (I.deep os k)) | _=>.cel m):=rfl
  rw [e0] at p ⊢
  cases e:I.aa os m with
  | none=>rw [e] at p; exact absurd p sL
  | some c =>
   rw [e] at p
   cases c with
   | lst xs =>
    obtain ⟨a',vs,h1,h2,h3,h4,z,h5⟩:=rel.asC (.cel h) e
    cases h1
    obtain ⟨m',_,q⟩:=eN (show D.pl n (.lst (xs.map (I.deep os k)))=true from p)
    exact .lst (SqL.of h4) (Rps.deep rel k h5 q)
   | _=>exact absurd p sL
theorem Rps.deep {ι:List Addr} {Hf H:Hp} {os:OS} (rel:Rel G ι Hf H os):∀ (k:Nat) {vs:List V} {ds:List D} {n:Nat},Rps G ι Hf vs ds->(∀ d∈ds.map (I.deep os k),D.pl n d=true)->dw G.K H vs (br (ds.map (I.deep os k)))
 | _,_,_,_,.nil,_=>.nil
 | k,_,_,_,.cons h r,q=>.cons (Rp.deep rel k h (q _ (.head _))) (Rps.deep rel k r fun d hd=>q d (.tail _ hd))
end
theorem B0:VR2 G E (.cmp .eqd) (qJ G.K false):=by
 intro ι Hf H os x y dx dy Q rel hx hy w
 obtain ⟨d,e,w⟩:=WR.ofO (show WR G E ι Hf (R.ofO ((D.eq (I.deep os 4 dx) (I.deep os 4 dy)).map D.bl) os) _ from w)
 cases e':D.eq (I.deep os 4 dx) (I.deep os 4 dy) with
 | none=>rw [e'] at e; cases e
 | some k =>
  rw [e'] at e
  cases e
  obtain ⟨p1,p2,nm,rfl⟩:=jI e'
  refine ⟨_,_,Rp.deep rel 4 hx p1,Rp.deep rel 4 hy p2,bZ p1,bZ p2,oA _ _ nm,?_⟩
  rw [gG _ _ p1 p2]
  exact w.now rel _ (.bl _)
end
end IS
namespace L2
open PySem PySem.Spec PyProof.Rows
section
variable {X:Cx}
noncomputable def nU:V->List V->Hp->VK->Prop:=fun x vs H Q=>∃ l xs i y,x=.ref l/\vs=[.int i,y]/\H l=some (.lst xs)/\xs.length<sizeLine/\0<=i/\i<=xs.length/\Q .non (upd H l (.lst (xs.take i.toNat++y::xs.drop i.toNat)))
theorem jr:MtM X "list.insert" nU:=by
 intro pins s σ H x vs v us Q I rx rv h
 obtain ⟨l,xs,i,y,rfl,rfl,hH,hz,h0,h1,q⟩:=h
 cases rx
 obtain ⟨u0,u,rfl,ru0,ru⟩:=rv.two
 obtain ⟨t,rfl⟩:=ru0
 obtain ⟨z,its,n,r,hl,e⟩:=I.oX hH
 have hl':=r.length
 have hs:=hz
 rw [sizeLine_eq] at hs
 refine call_meets F.slot_list_insert ⟨_,e,rfl⟩ F.entry_list_insert (F.args_list_insert_3 _ _ _) (AutoListH.list_insert_list_int_val_1 l its.toArray n i t u (by unfold Builtin.List.listFitsIndex; simp; omega) (by rw [List.size_toArray]; omega)) ⟨e,?_⟩
 refine ⟨.non,_,I.Bo (its':=its.take i.toNat++u::its.drop i.toNat) hH e ?_ ((r.take i.toNat).append (.cons ru (r.drop i.toNat))) ?_,rfl,q⟩
 ·have e1:¬ i<0:=by omega
  have e2:min i.toNat its.toArray.size=i.toNat:=by rw [List.size_toArray]; omega
  simp only [if_neg e1,e2]
  apply Array.toList_inj.mp
  simp [List.take_of_length_le]
 ·rw [List.length_append,List.length_cons,List.length_take,List.length_drop]
  omega
end
end L2
namespace IS
open PySem PySem.Spec L2
open PyProof.Rows hiding St
open I (D Cell OS Fr R SZ Kt Ko)
section
variable {G:GI} {E:XK}
theorem lF:VRm G E .insert nU:=by
 intro ι Hf H os x xs d ds Q rel hx hxs w
 cases hxs with
 | nil=>exact False.elim (by cases hx <;> exact w)
 | cons hi r =>
  cases r with
  | nil=>exact False.elim (by cases hx <;> first | exact w | (cases hi <;> exact w))
  | cons hy r =>
   cases r with
   | cons _ _=>exact False.elim (by cases hx <;> first | exact w | (cases hi <;> exact w))
   | nil =>
    cases hx with
    | @cel a n h =>
     cases hi with
     | int i =>
      rename_i y dy
      have w':WR G E ι Hf (match I.aa os n with | some (.lst xs)=>R.gd (0<=i/\i<=xs.length/\xs.length<SZ) (R.ok D.non (os.set n (some (.lst (xs.take i.toNat++dy::xs.drop i.toNat))))) | _=>R.stk) (fun ι' Hf' H' _ d=>∀ v,Rp G ι' Hf' v d->Q v H'):=w
      cases e:I.aa os n with
      | none=>rw [e] at w'; exact False.elim w'
      | some c =>
       rw [e] at w'
       cases c with
       | lst xs =>
        obtain ⟨⟨g0,g1,hz⟩,w'⟩:=WR.gd w'
        obtain ⟨a',vs,h1,h2,h3,h4,z,h5⟩:=rel.asC (.cel h) e
        cases h1
        have hl:=h5.len
        have hz':vs.length<sizeLine:=by rw [h5.len,<-cF]; exact hz
        refine ⟨_,vs,i,_,rfl,rfl,h4,hz',g0,by omega,?_⟩
        have rr:=rel.kW e h (o:=.lst (vs.take i.toNat++y::vs.drop i.toNat)) (c':=.lst (xs.take i.toNat++dy::xs.drop i.toNat)) ⟨_,ak,by rw [List.length_append,List.length_cons,List.length_take,List.length_drop]; omega,(h5.take _).app (.cons hy (h5.drop _))⟩
        exact w' ι Hf _ .refl rr _ .non
       | _=>exact False.elim w'
     | _=>exact False.elim w
    | _=>exact False.elim w
end
end IS
namespace L2
open PySem PySem.Spec PyProof.Rows
theorem xJ {X:Cx}:OpR X (compareOp .Is) (fun x y H Q=>∃ b c,x=.bl b/\y=.bl c/\Q (.bl (b == c)) H):=by
 intro pins s σ H x y v u Q I rx ry h
 obtain ⟨b,c,rfl,rfl,q⟩:=h
 cases rx
 cases ry
 refine wpAny_is_plain (by cases b <;> cases c <;> rfl) ?_
 exact ⟨.bl (b == c),H,I,by cases b <;> cases c <;> rfl,q⟩
end L2
namespace IS
open PySem PySem.Spec L2
open PyProof.Rows hiding St
open I (D Cell OS Fr R SZ Kt Ko)
theorem Bb {G:GI} {E:XK}:VR2 G E (.cmp .isB) (fun x y H Q=>∃ b c,x=.bl b/\y=.bl c/\Q (.bl (b == c)) H):=by
 intro ι Hf H os x y dx dy Q rel hx hy w
 cases hx with
 | bl b =>
  cases hy with
  | bl c=>exact ⟨b,c,rfl,rfl,WR.now (show WR G E ι Hf (R.ok (D.bl (b == c)) os) _ from w) rel _ (.bl _)⟩
  | _=>exact False.elim w
 | _=>exact False.elim (by cases hy <;> exact w)
end IS
namespace L2
open PySem PySem.Spec PyProof.Rows
section
variable {X:Cx} {CX:CXT} {k:Nat} {f C:Addr} {fd:FuncData} {ps:List Str} {sp:Sp} {dvs:List V} {ds:List Value} {Ex:XK} {x m:Str} {p pos apos:Pos} {e o:Expr} {es:List Expr} {ta:TE} {t:TA}
theorem oI {pins:List (Addr × Obj)} {σ:St} {H:Hp} {s:Shared} {Q:VK} {us:List Value} {vs:List V} (F:cV X.prog X.w X.K X.mg X.base CX k f fd ps sp) (hr:bS k X.A) (hb:Binds X.K fd ps ds) (hd:Vals dvs ds) (hx:∀ e s',CX X.stack H s Ex e s'->X.xe e s')
  (I:Inv X pins σ H s) (r:Vals vs us) (h:sp (vs++dvs) H Q Ex):wpAny (model X.prog X.w) X.A (call (.ref f) us) (EP X pins σ Q) X.xe s:=by
 have r2:Vals (vs++dvs) (us++ds):=r.append hd
 have hl:(us++ds).length=ps.length:=by rw [<-r2.length]; exact F.len _ _ _ _ h
 refine wpAny_call (codeAny_mono (F.run X.A X.stack s H ⟨us,[]⟩ (us++ds) (vs++dvs) Q Ex hr I.C2 (hb s us I.kIn hl) r2 h) fun r s' hq => ?_)
 cases r with
 | error e=>exact hx e s' hq
 | ok fl =>
  cases fl with
  | ret u=>exact I.after hq
  | next=>exact False.elim hq
  | brk=>exact False.elim hq
  | cont=>exact False.elim hq
theorem vy {pins:List (Addr × Obj)} {σ:St} {H:Hp} {s:Shared} {Q:VK} (h:pH X.prog X.w X.K X.mg X.base x k ps sp) (hr:bS k X.A) (ha:PA X (e::es) t) (I:Inv X pins σ H s) (ht:t σ H fun vs H1=>sp (vs++[]) H1 Q Ex)
  (hx:∀ H1 s1 e s',Inv X pins σ H1 s1->CXE X.prog X.w X.stack H1 s1 Ex e s'->X.xe e s') (hg:Gl X x) (hs:starEach (e::es) X.env=(false,eval e X.env)::starEach es X.env)
  (hplain:(backTo pos (starEach es X.env)).any (·.1)=false) (hd:(x == ("__debug__" : Str))=false):wpAny (model X.prog X.w) X.A (eval (.Call (.Name x p) (e::es) [] pos) X.env) (EP X pins σ Q) X.xe s:=by
 obtain ⟨f,fd,hm,hk,hb,F⟩:=h
 refine wpAny_Call_Name_kw (fw I hg hm ?_ hd)
 refine PySem.W.callWith_K (h₀:=X.base) I.ok.mod.kin hk (thn (ha pos pins s σ H _ I ht) fun us s1 ⟨vs,H1,I1,r,q⟩=>⟨I1.kIn,?_⟩) hs hplain
 exact oI F hr hb .nil (hx H1 s1 · · I1) I1 r q
end
section
variable {X:Cx} {suite:List Stmt} {b₀ b₁:Stmt} {x n:Str} {c:Value} {i:Nat} {np hpos pos:Pos} {Ex:XK} {D:Ends}
theorem yW {pins:List (Addr × Obj)} {s:Shared} {σ:St} {H:Hp} (I:Inv X pins σ H s) (hs:X.stack=X.env::X.outer) (hf:X.env.frame=some X.env.locals) (hN:X.N.Nodup) (hi:X.N[i]?=some n) (hl:X.env.scope.names.lookup n=some .local) (hm:X.mg x=some c)
  (hb:∀ (xe:Value->Shared->Prop),(∀ H1 s1 e s',Inv (X.bT xe (X.pn++pins)) [] σ H1 s1->CXE X.prog X.w X.stack H1 s1 Ex e s'->xe e s')->Inv (X.bT xe (X.pn++pins)) [] σ H s ->
   wpAny (model X.prog X.w) X.A (exec b₁ X.env) (SP (X.bT xe (X.pn++pins)) [] D) xe s)
  (hh:∀ (cls:Value) (H':Hp),Ex cls none H'->PySem.W.exmOne X.K cls c=some true/\∀ (a:Addr) (oe:Obj) (pn:List (Addr × Obj)) (s7:Shared),H' a=none->(a,oe)∈pn->oe.cls=cls ->
   Inv (X.fQ a pn) [] (σ.set i (some (.ref a))) H' s7->wpAny (model X.prog X.w) (X.fQ a pn).A (execs (b₀::suite) X.env) (SP (X.fQ a pn) [] (BE i D)) (fun _ _=>False) s7)
  (hg:Gl X x) (hd:(x == ("__debug__" : Str))=false) :
  wpAny (model X.prog X.w) X.A (exec (.Try [b₁] [.ExceptHandler (some (.Name x np)) (some n) (b₀::suite) hpos] [] [] pos) X.env) (SP X pins D) X.xe s:=by
 have kf:=I.ok.kind
 refine wpAny_Try_except ?_
 have back:∀ {E:Value->Shared->Prop} {f:Flow} {s':Shared},SP (X.bT E (X.pn++pins)) [] D f s'->SP X pins D f s':=fun {E f s'} z =>
  z.ctx fun σ' H' J=>J.ctx I.ok rfl rfl rfl rfl rfl rfl rfl rfl fun p hp=>J.pin p (List.mem_append_left _ hp)
 have one:∀ {E:Value->Shared->Prop},wpAny (model X.prog X.w) X.A (exec b₁ X.env) (SP (X.bT E (X.pn++pins)) [] D) E s->wpAny (model X.prog X.w) X.A (execs [b₁] X.env) (SP (X.bT E (X.pn++pins)) [] D) E s:=fun {E} h=>by
  refine wpAny_execs_cons (thn h fun f s1 q => ?_)
  cases f with
  | next=>exact wpAny_execs_nil q
  | ret v=>exact q
  | brk=>exact q
  | cont=>exact q
 refine wpAny_mono (one (hb _ ?_ (I.ctx I.ok.bT rfl rfl rfl rfl rfl rfl rfl rfl fun p hp=>I.pin p (by simpa using hp)))) (fun f s₁ z => ?_) (fun _ _ z=>z)
 ·rintro H1 s1 e s' I1 ⟨a,cls,a0,B,H',rfl,F,hE⟩
  obtain ⟨hE,hT⟩:=hh cls H' hE
  have hfr:X.A.frames=some (X.env::X.outer):=by rw [<-hs]; exact I.ok.frames
  have fl0:Heap.FlyingW B (X.env::X.outer) a cls a0 s'.heap:=by rw [<-hs]; exact F.fly
  refine wpAny_looks_onW hfr hf fl0 fun h₄ held sm₄ => ?_
  refine wpAny_landsW held fun h₅ fly₅ sm₅ => ?_
  have Fl:∀ {h':Heap},Heap.FlyingW B (X.env::X.outer) a cls a0 h'->s'.heap.UpToSlots h'->Inv (X.bT (fun _ _=>True) (X.pn++pins)) [] σ H' { s' with heap:=h' }:=fun {h'} fly sm=>by
   have Fm:=F.move F.fly.2.2.1 fly sm
   have J:=I1.xa (s':={ s' with heap:=h' }) Fm.os Fm.un Fm.hok Fm.bare (fun b z=>nomatch z)
   exact J.ctx I.ok.bT rfl rfl rfl rfl rfl rfl rfl rfl J.pin
  have I5:=Fl fly₅ (sm₄.trans sm₅)
  have IM:Inv (X.fQ a (X.pn++pins)) [] σ H' { s' with heap:=h₅ }:=I5.ctx I.ok.fQ rfl rfl rfl rfl rfl rfl rfl rfl I5.pin
  refine wpAny_handleBy_cons (codeAny_handlers_test (fw (X:=X.fQ a (X.pn++pins)) IM hg hm ?_ hd)) (by intro q; cases q)
  have LT:PySem.W.Looks (model X.prog X.w) h₅ (typeOf (.ref a)) cls:=by
   obtain ⟨ob,hob,hobc⟩:=fly₅.there
   exact hobc ▸ (PySem.W.Looks.ld hob).andThen .now
  refine (PySem.W.exm_one I5.kIn LT hE).here ?_
  refine codeAny_handlers_suite_as ?_
  refine lands_againW fly₅ fun h₆ fly₆ sm₆ => ?_
  have I6:=Fl fly₆ ((sm₄.trans sm₅).trans sm₆)
  obtain ⟨oe,ws,T,oT,ts,q1,⟨q2,q3⟩,q4,_⟩:=fly₆.2.2.2
  have na:H' a=none:=by
   cases q:H' a with
   | none=>rfl
   | some u =>
    obtain ⟨o,ho⟩:=F.trk a u q
    rw [F.fly.2.1] at ho
    cases ho
  have naf:a ∉ frs (X.env::X.outer):=fun z=>by
   obtain ⟨_,o',e2,nf⟩:=fly₆.2.2.1.mem z
   rw [q1] at e2
   cases e2
   exact nf _ q4
  have nL:a≠X.env.locals:=fun z=>naf (List.mem_filterMap.mpr ⟨X.env,List.mem_cons_self,by rw [hf,z]⟩)
  have nF:a ∉ X.fs:=fun z=>naf (by
   obtain ⟨e',h1,h2⟩:=List.mem_filterMap.mp z
   exact List.mem_filterMap.mpr ⟨e',List.mem_cons_of_mem _ h1,h2⟩)
  have I7:Inv (X.fQ a ((X.pn++pins)++[(a,oe)])) [] σ H' { s' with heap:=h₆ }:=by
   refine I6.ctx I.ok.fQ rfl rfl rfl rfl rfl rfl rfl rfl fun p hp => ?_
   rw [List.append_nil] at hp
   rcases List.mem_append.mp hp with hp | hp
   ·exact I6.pin p (List.mem_append_left _ hp)
   ·obtain rfl:p=(a,oe):=by simpa using hp
    exact ⟨q1,na,nL,nF,fun v z=>by rw [q4] at z; cases z⟩
  refine iy (X:=X.fQ a ((X.pn++pins)++[(a,oe)])) (v:=.ref a) I7 hN hi (.inl hl) rfl (fun s7 I8 => ?_) (.inr hl)
  refine wpAny_mono (hT a oe _ s7 na (List.mem_append_right _ (List.mem_singleton.mpr rfl)) q2 I8) (fun f s₃ z => ?_) (fun _ _ z=>z.elim)
  have fin:∀ {σ3:St} {H3:Hp},Inv (X.fQ a ((X.pn++pins)++[(a,oe)])) [] σ3 H3 s₃->Inv X pins σ3 H3 s₃:=fun {σ3 H3} J =>
   J.ctx I.ok rfl rfl rfl rfl rfl rfl rfl rfl fun p hp=>J.pin p (List.mem_append_left _ (List.mem_append_left _ hp))
  have goes:∀ {σ3:St} {H3:Hp},Inv X pins σ3 H3 s₃->(∀ s4,Inv X pins (σ3.set i none) H3 s4->SP X pins D f s4)->wpAny (model X.prog X.w) X.A (do bindName X.env n .none; unbindBehindTheSuite X.env n hpos) (fun _ s₅=>SP X pins D f s₅) X.xe s₃:=fun {σ3 H3} J k=>by
   obtain ⟨m,hn,hv⟩:=J.loc
   exact wpAny_nameGoes_keeps hl hn (by rw [kf]; rfl) fun h' v hn' sb=>k _ (J.AM hN hi hv hn' sb)
  cases f with
  | next=>obtain ⟨σ3,H3,J,q⟩:=z; exact goes (fin J) fun s4 J4=>⟨_,H3,J4,q⟩
  | brk=>obtain ⟨σ3,H3,J,q⟩:=z; exact goes (fin J) fun s4 J4=>⟨_,H3,J4,q⟩
  | cont=>obtain ⟨σ3,H3,J,q⟩:=z; exact goes (fin J) fun s4 J4=>⟨_,H3,J4,q⟩
  | ret u=>obtain ⟨v,σ3,H3,J,r,q⟩:=z; exact goes (fin J) fun s4 J4=>⟨v,_,H3,J4,r,q⟩
 ·have z':=back z
  cases f with
  | next=>exact wpAny_execs_nil z'
  | brk=>exact z'
  | cont=>exact z'
  | ret u=>exact z'
end
end L2
namespace L2
open PySem PySem.Spec PyProof.Rows
noncomputable def HT (Y:Cx) (σ:St) (e:Expr) (b:Bool):Prop:=∃ t,PE Y e t/\∀ (H:Hp) (Q:VK),(∀ H',aK H H'->Q (.bl b) H')->t σ H Q
section
variable {Y:Cx} {σ:St} {a b:Expr} {rest:List Expr} {p q:Bool} {pos:Pos}
theorem HT.one {op:BoolOp} (h:HT Y σ a p):HT Y σ (.BoolOp op [a] pos) p:=let ⟨t,h1,h2⟩:=h; ⟨t,zb h1,h2⟩
theorem HT.not (h:HT Y σ a p):HT Y σ (.UnaryOp .Not a pos) (!p):=let ⟨_,h1,h2⟩:=h; ⟨_,rj h1,fun H _ hq=>h2 H _ fun H' s=>⟨_,rfl,hq H' s⟩⟩
theorem HT.and (h:HT Y σ a p) (g:HT Y σ (.BoolOp .And (b::rest) pos) q):HT Y σ (.BoolOp .And (a::b::rest) pos) (p&&q):=by
 obtain ⟨t,h1,h2⟩:=h
 obtain ⟨u,g1,g2⟩:=g
 refine ⟨_,tu h1 g1,fun H Q hq=>h2 H _ fun H' s=>⟨p,rfl,?_⟩⟩
 cases p with
 | true=>rw [if_pos rfl]; exact g2 H' Q fun H'' s2=>hq H'' (s.trans s2)
 | false=>rw [if_neg (by simp)]; exact hq H' s
theorem HT.or (h:HT Y σ a p) (g:HT Y σ (.BoolOp .Or (b::rest) pos) q):HT Y σ (.BoolOp .Or (a::b::rest) pos) (p||q):=by
 obtain ⟨t,h1,h2⟩:=h
 obtain ⟨u,g1,g2⟩:=g
 refine ⟨_,v9 h1 g1,fun H Q hq=>h2 H _ fun H' s=>⟨p,rfl,?_⟩⟩
 cases p with
 | true=>rw [if_pos rfl]; exact hq H' s
 | false=>rw [if_neg (by simp)]; exact g2 H' Q fun H'' s2=>hq H'' (s.trans s2)
theorem HT.var {i:Nat} {x:Str} (hN:Y.N[i]?=some x) (hv:Vis Y.env.scope x) (h:σ[i]?=some (some (.bl p))) (hd:(x == ("__debug__" : Str))=false) (hcd:(x == ("__classdict__" : Str))=false):HT Y σ (.Name x pos) p :=
 ⟨_,jK hN hv hd hcd,fun H _ hq=>⟨_,h,hq H (aK.refl H)⟩⟩
theorem HT.k {j:Nat}:HT Y σ (.Constant (.bool p) j pos) p:=⟨_,wI,fun H _ hq=>hq H (aK.refl H)⟩
end
section
variable {Y:Cx} {σ:St} {ea C:Addr} {oe:Obj} {i:Nat} {n:Str} {np xp cpos:Pos}
theorem HT.inst {x:Str} {A:Value} {w:V} {p:Bool} (hp:(ea,oe)∈Y.pn) (hc:oe.cls=.ref C) (Z:PySem.W.ExC Y.K C) (hx:PE Y (.Name x xp) (tC w)) (hA:vG w=some A) (hk:PySem.W.kitOne Y.K (.ref C) A=some p)
  (hN:Y.N[i]?=some n) (hv:Vis Y.env.scope n) (h:σ[i]?=some (some (.ref ea))) (hd:(n == ("__debug__" : Str))=false) (hcd:(n == ("__classdict__" : Str))=false) (hg:Gl Y "isinstance") (hm:Y.mg "isinstance" = none) {ip:Pos} :
  HT Y σ (.Call (.Name "isinstance" ip) [.Name n np,.Name x xp] [] cpos) p :=
 ⟨_,cS (ju hp hc Z) hg hm boot_isinstance (bV (jK hN hv hd hcd) (bV hx fH)),fun H _ hq=>⟨_,h,_,A,p,rfl,hA,hk,hq H (aK.refl H)⟩⟩
theorem sJ {kt:Str->Option Bool} (K:PySem.W.Frag) (hK:Y.K=K) (hkt:∀ x b,kt x=some b->∃ A,Y.mg x=some (.ref A)/\PySem.W.kitOne K (.ref C) (.ref A)=some b):∀ (ts:List (Str × Pos)) (bs:List Bool),ts.map (fun t=>kt t.1)=bs.map some->(∀ t∈ts,Gl Y t.1/\(t.1 == ("__debug__" : Str))=false) ->
  ∃ (t:TA) (cs:List Addr),PA Y (ts.map fun t=>.Name t.1 t.2) t/\(∀ σ H Q,Q (cs.map V.ref) H->t σ H Q)/\PySem.W.kitAny K (.ref C) (cs.map Value.ref)=some (bs.any id)/\cs.length=ts.length
 | [],[],_,_=>⟨_,[],fH,fun _ _ _ h=>h,rfl,rfl⟩
 | [],_::_,h,_=>by cases h
 | _::_,[],h,_=>by cases h
 | (x,xp)::ts,b::bs,h,hg=>by
  rw [List.map_cons,List.map_cons] at h
  obtain ⟨h1,h2⟩:=List.cons.inj h
  obtain ⟨A,m1,m2⟩:=hkt x b h1
  obtain ⟨t,cs,r1,r2,r3,r4⟩:=sJ K hK hkt ts bs h2 fun t ht=>hg t (.tail _ ht)
  obtain ⟨g1,g2⟩:=hg (x,xp) (.head _)
  refine ⟨_,A::cs,bV (jw (v:=.ref A) g1 m1 rfl g2) r1,fun σ H Q hq=>r2 σ H _ hq,?_,by simp [r4]⟩
  show (match PySem.W.kitOne K (.ref C) (.ref A) with | some true=>some true | some false=>PySem.W.kitAny K (.ref C) (cs.map Value.ref) | none=>none)=_
  rw [m2]
  cases b with
  | true=>rfl
  | false=>exact r3
theorem HT.A8 {kt:Str->Option Bool} {ts:List (Str × Pos)} {bs:List Bool} {x1} (hp:(ea,oe)∈Y.pn) (hc:oe.cls=.ref C) (Z:PySem.W.ExC Y.K C) (hkt:∀ x b,kt x=some b->∃ A,Y.mg x=some (.ref A)/\PySem.W.kitOne Y.K (.ref C) (.ref A)=some b)
  (hb:ts.map (fun t=>kt t.1)=bs.map some) (hgs:∀ t∈ts,Gl Y t.1/\(t.1 == ("__debug__" : Str))=false) (hz:ts.length<=sizeLine)
  (hN:Y.N[i]?=some n) (hv:Vis Y.env.scope n) (h:σ[i]?=some (some (.ref ea))) (hd:(n == ("__debug__" : Str))=false) (hcd:(n == ("__classdict__" : Str))=false) (hg:Gl Y "isinstance") (hm:Y.mg "isinstance" = none) {ip tp:Pos} :
  HT Y σ (.Call (.Name "isinstance" ip) [.Name n np,.Tuple (ts.map fun t=>.Name t.1 t.2) x1 tp] [] cpos) (bs.any id):=by
 obtain ⟨t,cs,r1,r2,r3,r4⟩:=sJ (C:=C) Y.K rfl hkt ts bs hb hgs
 refine ⟨_,cS (jX hp hc Z) hg hm boot_isinstance (bV (jK hN hv hd hcd) (bV (tK r1) fH)),fun H Q hq=>⟨_,h,r2 σ H _ ⟨by rw [List.length_map,r4]; exact hz,fun p hp=>⟨p,cs,_,rfl,ak,r3,hq _ (aK.new hp _)⟩⟩⟩⟩
end
noncomputable def vW (ws:List (Nat × Bool)) (σ:St):St:=ws.foldl (fun σ w=>σ.set w.1 (some (.bl w.2))) σ
noncomputable def HQ (Y:Cx) (σ:St) (suite:List Stmt) (ws:List (Nat × Bool)) (rt:Option Bool):Prop :=
 ∀ (pins:List (Addr × Obj)) (s:Shared) (H:Hp) (D:Ends),Inv Y pins σ H s->(∀ H',aK H H'->match rt with | none=>D.nx (vW ws σ) H' | some b=>D.rt (.bl b) H')->wpAny (model Y.prog Y.w) Y.A (execs suite Y.env) (SP Y pins D) Y.xe s
section
variable {Y:Cx} {σ:St} {e:Expr} {r:List Stmt} {p:Bool} {ws:List (Nat × Bool)} {rt:Option Bool} {pos xp:Pos}
theorem HQ.nil:HQ Y σ [] [] none:=fun pins s H D I h=>wpAny_execs_nil ⟨σ,H,I,h H (aK.refl H)⟩
theorem HQ.set {j:Nat} {x:Str} (hN:Y.N.Nodup) (hi:Y.N[j]?=some x) (hx:Loc Y.env.scope x) (hf:Y.fn x=true\/Y.env.scope.names.lookup x=some .local) (hs:swapsWith e (some (.Name x xp)) pos.line Y.env=pure false) (he:HT Y σ e p) (hr:HQ Y (σ.set j (some (.bl p))) r ws rt) :
  HQ Y σ (.Assign [.Name x xp] e pos::r) ((j,p)::ws) rt:=by
 obtain ⟨t,h1,h2⟩:=he
 intro pins s H D I h
 refine wpAny_execs_cons (thn (rY hN hi hx h1 hs hf pins s σ H { D with nx:=fun σ' H'=>σ'=σ.set j (some (.bl p))/\aK H H' } I (h2 H _ fun H' q=>⟨rfl,q⟩)) fun f s1 z => ?_)
 cases f with
 | next =>
  obtain ⟨σ',H',J,rfl,sm⟩:=z
  exact hr pins s1 H' D J fun H'' q=>h H'' (sm.trans q)
 | ret v=>exact z
 | brk=>exact z
 | cont=>exact z
theorem HQ.skip {body:List Stmt} (he:HT Y σ e false) (ht:∀ whole,isTrue e Y.env whole=(do let v <-whole; standAt e.pos; holding [v] (truthy v))) (hr:HQ Y σ r ws rt):HQ Y σ (.If e body [] pos::r) ws rt:=by
 obtain ⟨t,h1,h2⟩:=he
 intro pins s H D I h
 have nobody:PSs Y body (fun _ _ _=>False):=fun _ _ _ _ _ _ z=>z.elim
 have nothing:PSs Y [] (fun D σ H=>D.nx σ H):=fun _ _ σ H _ I z=>wpAny_execs_nil ⟨σ,H,I,z⟩
 refine wpAny_execs_cons (thn (vZ (zI h1 ht) nobody nothing pins s σ H { D with nx:=fun σ' H'=>σ'=σ/\aK H H' } I (h2 H _ fun H' q=>⟨false,rfl,⟨rfl,q⟩⟩)) fun f s1 z => ?_)
 cases f with
 | next =>
  obtain ⟨σ',H',J,rfl,sm⟩:=z
  exact hr pins s1 H' D J fun H'' q=>h H'' (sm.trans q)
 | ret v=>exact z
 | brk=>exact z
 | cont=>exact z
theorem HQ.ret (he:HT Y σ e p):HQ Y σ (.Return (some e) pos::r) [] (some p):=by
 obtain ⟨t,h1,h2⟩:=he
 intro pins s H D I h
 refine wpAny_execs_cons (thn (rH h1 pins s σ H { nx:=fun _ _=>False,rt:=D.rt,bk:=fun _ _=>False,ct:=fun _ _=>False } I (h2 H _ fun H' q=>h H' q)) fun f s1 z => ?_)
 cases f with
 | next=>obtain ⟨_,_,_,z⟩:=z; exact z.elim
 | ret v=>exact z
 | brk=>obtain ⟨_,_,_,z⟩:=z; exact z.elim
 | cont=>obtain ⟨_,_,_,z⟩:=z; exact z.elim
end
end L2
namespace IS
open PySem PySem.Spec L2
open PyProof.Rows hiding St
open I (D Cell OS Fr R SZ Kt Ko)
structure CI where
 fn:Nat->Option (Str × Nat)
 gl:Nat->Option Str
 fl:Nat->Option Str
 ec:Nat->Option Str
 cl:Nat->Option (Str × Nat)
 mt:Nat->Option (Str × Nat)
 kt:Nat->Str->Option Bool:=fun _ _=>none
 xm:Nat->Str->Bool:=fun _ _=>false
noncomputable def pL (sc:Scope) (x:Str):Bool:=match sc.names.lookup x with
 | some .local=>true | some .cell=>true | some .free=>true | _=>false
noncomputable def cB (sc:Scope) (x:Str):Bool:=match sc.names.lookup x with
 | some .globalImplicit=>true | _=>false
structure LC where
 c:Bool
 t:Option Nat
noncomputable abbrev lc0:LC:=⟨false,none⟩
noncomputable def iM (lc:Bool) (sc:Scope) (x:Str):Bool:=match sc.names.lookup x with
 | some .local=>true | some .cell=>lc | _=>false
noncomputable def okN (x:Str):Bool:=!(x == ("__debug__" : Str)) && !(x == ("__classdict__" : Str))
noncomputable def noStar:Expr->Bool
 | .Starred _ _=>false
 | _=>true
noncomputable def baseOk:Expr->Bool
 | .Call _ [] _ _=>false
 | _=>true
noncomputable def gS:Expr->Bool
 | .Slice _ _ _ _=>false
 | _=>true
noncomputable def jT:Expr->Bool
 | .Set _ _ _=>false
 | _=>true
noncomputable def cH:Expr->Bool
 | .ListComp _ _ _ _=>false
 | .SetComp _ _ _ _=>false
 | .DictComp _ _ _ _ _=>false
 | _=>true
noncomputable def tw:Expr->Bool
 | .Tuple _ _ _=>false
 | _=>true
noncomputable def plainT:Expr->Bool
 | .UnaryOp .Not _ _=>false
 | .BoolOp _ _ _=>false
 | .IfExp _ _ _ _=>false
 | .Compare _ _ _ _=>false
 | _=>true
noncomputable def qv:Expr->Bool
 | .Compare _ _ _ _=>true
 | _=>false
noncomputable def okT (e:Expr):Bool:=plainT e||qv e
noncomputable def cK:D->Const->Bool
 | .int i,.int j=>decide (i=j)
 | .bl i,.bool j=>i == j
 | .non,.none=>true
 | .str s,.str x=>decide (x.cps.toList=s)
 | _,_=>false
noncomputable def z0:I.Pr->Option Operator
 | .add=>some .Add | .sub=>some .Sub | .mul=>some .Mult | .fdiv=>some .FloorDiv | .mod=>some .Mod | .pow=>some .Pow
 | .shl=>some .LShift | .shr=>some .RShift | .band=>some .BitAnd | .bor=>some .BitOr | .bxor=>some .BitXor
 | _=>none
noncomputable def Br:I.Cop->Option CmpOp
 | .eq=>some .Eq | .ne=>some .NotEq | .lt=>some .Lt | .le=>some .LtE | .gt=>some .Gt | .ge=>some .GtE | .eqd=>some .Eq | .isB=>some .Is | _=>none
noncomputable def inO:I.Cop->Option CmpOp
 | .isIn=>some .In | .notIn=>some .NotIn | _=>none
noncomputable def xO (o:I.Cop) (op:CmpOp) (y:Expr):Bool:=decide (Br o=some op)||(jT y&&decide (inO o=some op))
noncomputable def zm:I.Pr->Option Str
 | .len=>some "len" | .list=>some "list" | .sum=>some "sum" | .min1=>some "min"
 | _=>none
noncomputable def Du:I.Pr->Option Str
 | .append=>some "append"
 | .index=>some "index" | .insert=>some "insert"
 | _=>none
noncomputable def frO:I.E->Bool
 | .lst _=>true
 | .comp _ _ _ _ _ _=>true
 | .pr .add _=>true
 | .pr (.sl _ _) _=>true
 | .pr .list _=>true
 | _=>false
noncomputable def rZ:I.E->Bool
 | .asI _=>true
 | _=>false
noncomputable def tgN:Expr->List Str
 | .Name x _=>[x]
 | .Tuple es _ _=>es.filterMap fun e=>match e with | .Name x _=>some x | _=>none
 | _=>[]
noncomputable def kY (lc:Bool) (sc:Scope) (N:List Str):List Nat->List Expr->Bool
 | [],[]=>true
 | i::is,.Name x _::es=>decide (N[i]?=some x)&&iM lc sc x&&kY lc sc N is es
 | _,_=>false
noncomputable def zh (lc:Bool) (sc:Scope) (N:List Str):I.Tg->Expr->Bool
 | .v i,.Name x _=>decide (N[i]?=some x)&&iM lc sc x
 | .tup is,.Tuple es _ _=>kY lc sc N is es
 | _,_=>false
noncomputable def wQ (sc:Scope) (N:List Str) (scope:Scope) (N':List Str) (nl:Nat) (fr:List Nat):Bool :=
 decide (scope.kind=.function)&&scope.names.all (fun y=>decide (y.2≠.cell)) &&
 scope.names.all (fun y => !decide (y.2=.local)||decide (scope.names.lookup y.1=some .local)) &&
 scope.names.all (fun y => !decide (y.2=.free)||(decide (sc.names.lookup y.1=some .cell)||decide (sc.names.lookup y.1=some .free))) &&
 decide (N'.length=nl+fr.length)&&decide ((N'.drop nl).map some=fr.map fun j=>N[j]?) &&
 (N'.drop nl).all (fun x=>decide (scope.names.lookup x=some .free))&&decide N'.Nodup
theorem no {p:Prop} (h:false=true):p:=nomatch h
theorem ae {a b:Bool} (h:(a&&b)=true):a=true/\b=true:=Bool.and_eq_true_iff.mp h
theorem or2 {a b:Bool} (h:(a||b)=true):a=true\/b=true:=Bool.or_eq_true_iff.mp h
noncomputable def bz (e:Expr) (p:Str->Bool):Bool:=match e with | .Name x _=>p x | _=>false
theorem aG {e:Expr} {p:Str->Bool} (h:bz e p=true):∃ x np,e=.Name x np/\p x=true:=by
 cases e <;> first | exact no h | exact ⟨_,_,rfl,h⟩
noncomputable def onK (e:Expr) (p:Const->Bool):Bool:=match e with | .Constant c _ _=>p c | _=>false
theorem m5 {e:Expr} {p:Const->Bool} (h:onK e p=true):∃ c j pos,e=.Constant c j pos/\p c=true:=by
 cases e <;> first | exact no h | exact ⟨_,_,_,rfl,h⟩
noncomputable def xf (e:Expr) (p:Expr->Operator->Expr->Bool):Bool:=match e with | .BinOp x op y _=>p x op y | _=>false
theorem qz {e:Expr} {p:Expr->Operator->Expr->Bool} (h:xf e p=true):∃ x op y pos,e=.BinOp x op y pos/\p x op y=true:=by
 cases e <;> first | exact no h | exact ⟨_,_,_,_,rfl,h⟩
noncomputable def vv (e:Expr) (p:UnaryOp->Expr->Bool):Bool:=match e with | .UnaryOp op x _=>p op x | _=>false
theorem gI {e:Expr} {p:UnaryOp->Expr->Bool} (h:vv e p=true):∃ op x pos,e=.UnaryOp op x pos/\p op x=true:=by
 cases e <;> first | exact no h | exact ⟨_,_,_,rfl,h⟩
noncomputable def rE (op:UnaryOp) (b:Bool):Bool:=match op with | .Not=>b | _=>false
theorem hV {op:UnaryOp} {b:Bool} (h:rE op b=true):op=.Not/\b=true:=by
 cases op <;> first | exact no h | exact ⟨rfl,h⟩
noncomputable def tE (op:UnaryOp) (b:Bool):Bool:=match op with | .USub=>b | _=>false
theorem oS {op:UnaryOp} {b:Bool} (h:tE op b=true):op=.USub/\b=true:=by
 cases op <;> first | exact no h | exact ⟨rfl,h⟩
noncomputable def wu (op:BoolOp) (b:Bool):Bool:=match op with | .And=>b | _=>false
theorem kT {op:BoolOp} {b:Bool} (h:wu op b=true):op=.And/\b=true:=by
 cases op <;> first | exact no h | exact ⟨rfl,h⟩
noncomputable def AZ (op:BoolOp) (b:Bool):Bool:=match op with | .Or=>b | _=>false
theorem nR {op:BoolOp} {b:Bool} (h:AZ op b=true):op=.Or/\b=true:=by
 cases op <;> first | exact no h | exact ⟨rfl,h⟩
noncomputable def mM (e:Expr) (p:BoolOp->Expr->Expr->List Expr->Pos->Bool):Bool:=match e with | .BoolOp op (x::y::r) pos=>p op x y r pos | _=>false
theorem dU {e:Expr} {p:BoolOp->Expr->Expr->List Expr->Pos->Bool} (h:mM e p=true):∃ op x y r pos,e=.BoolOp op (x::y::r) pos/\p op x y r pos=true:=by
 cases e with
 | BoolOp op xs pos=>match xs,h with
  | [],h=>exact no h
  | [_],h=>exact no h
  | x::y::r,h=>exact ⟨_,_,_,_,_,rfl,h⟩
 | _=>exact no h
noncomputable def behind (op:BoolOp) (y:Expr) (r:List Expr) (pos:Pos):Expr:=match r with | []=>y | _::_=>.BoolOp op (y::r) pos
noncomputable def Bt (e:Expr) (p:Expr->Expr->Expr->Bool):Bool:=match e with | .IfExp c a b _=>p c a b | _=>false
theorem vJ {e:Expr} {p:Expr->Expr->Expr->Bool} (h:Bt e p=true):∃ c a b pos,e=.IfExp c a b pos/\p c a b=true:=by
 cases e <;> first | exact no h | exact ⟨_,_,_,_,rfl,h⟩
noncomputable def wj (e:Expr) (p:Expr->List CmpOp->List Expr->Bool):Bool:=match e with | .Compare x ops ys _=>p x ops ys | _=>false
theorem tJ {e:Expr} {p:Expr->List CmpOp->List Expr->Bool} (h:wj e p=true):∃ x ops ys pos,e=.Compare x ops ys pos/\p x ops ys=true:=by
 cases e <;> first | exact no h | exact ⟨_,_,_,_,rfl,h⟩
noncomputable def g8 (e:Expr) (p:Expr->List Expr->List Keyword->Pos->Bool):Bool:=match e with | .Call f as ks pos=>p f as ks pos | _=>false
theorem eg {e:Expr} {p:Expr->List Expr->List Keyword->Pos->Bool} (h:g8 e p=true):∃ f as ks pos,e=.Call f as ks pos/\p f as ks pos=true:=by
 cases e <;> first | exact no h | exact ⟨_,_,_,_,rfl,h⟩
noncomputable def pW (e:Expr) (p:Expr->Str->Pos->Bool):Bool:=match e with | .Attribute o m pos=>p o m pos | _=>false
theorem ph {e:Expr} {p:Expr->Str->Pos->Bool} (h:pW e p=true):∃ o m pos,e=.Attribute o m pos/\p o m pos=true:=by
 cases e <;> first | exact no h | exact ⟨_,_,_,rfl,h⟩
noncomputable def oo (e:Expr) (p:List Expr->Bool):Bool:=match e with | .Tuple es _ _=>p es | _=>false
theorem gW {e:Expr} {p:List Expr->Bool} (h:oo e p=true):∃ es j pos,e=.Tuple es j pos/\p es=true:=by
 cases e <;> first | exact no h | exact ⟨_,_,_,rfl,h⟩
noncomputable def wZ (e:Expr) (p:List Expr->Bool):Bool:=match e with | .List es _=>p es | _=>false
theorem qN {e:Expr} {p:List Expr->Bool} (h:wZ e p=true):∃ es pos,e=.List es pos/\p es=true:=by
 cases e <;> first | exact no h | exact ⟨_,_,rfl,h⟩
noncomputable def jU (e:Expr):Bool:=match e with | .Dict [] [] _=>true | _=>false
theorem mv {e:Expr} (h:jU e=true):∃ pos,e=.Dict [] [] pos:=by
 cases e with
 | Dict ks vs pos=>match ks,vs,h with
  | [],[],_=>exact ⟨_,rfl⟩
  | [],_::_,h=>exact no h
  | _::_,_,h=>exact no h
 | _=>exact no h
noncomputable def sd (e:Expr) (p:Expr->List Comprehension->Scope->Bool):Bool:=match e with | .ListComp el gs sc _=>p el gs sc | _=>false
theorem oQ {e:Expr} {p:Expr->List Comprehension->Scope->Bool} (h:sd e p=true):∃ el gs sc pos,e=.ListComp el gs sc pos/\p el gs sc=true:=by
 cases e <;> first | exact no h | exact ⟨_,_,_,_,rfl,h⟩
noncomputable def gk (e:Expr) (p:Expr->Expr->Bool):Bool:=match e with | .Subscript x i _=>p x i | _=>false
theorem ck {e:Expr} {p:Expr->Expr->Bool} (h:gk e p=true):∃ x i pos,e=.Subscript x i pos/\p x i=true:=by
 cases e <;> first | exact no h | exact ⟨_,_,_,rfl,h⟩
noncomputable def kO (e:Expr) (p:Option Expr->Option Expr->Bool):Bool:=match e with | .Slice l u none _=>p l u | _=>false
theorem ff {e:Expr} {p:Option Expr->Option Expr->Bool} (h:kO e p=true):∃ l u pos,e=.Slice l u none pos/\p l u=true:=by
 cases e with
 | Slice l u s pos=>cases s with
  | none=>exact ⟨_,_,_,rfl,h⟩
  | some _=>exact no h
 | _=>exact no h
noncomputable def on0 {α:Type} (l:List α) (b:Bool):Bool:=match l with | []=>b | _=>false
theorem aV {α:Type} {l:List α} {b:Bool} (h:on0 l b=true):l=[]/\b=true:=by
 cases l <;> first | exact no h | exact ⟨rfl,h⟩
noncomputable def on1 {α:Type} (l:List α) (p:α->Bool):Bool:=match l with | [a]=>p a | _=>false
theorem bN {α:Type} {l:List α} {p:α->Bool} (h:on1 l p=true):∃ a,l=[a]/\p a=true:=by
 match l,h with
 | [],h=>exact no h
 | [a],h=>exact ⟨a,rfl,h⟩
 | _::_::_,h=>exact no h
noncomputable def on2 {α:Type} (l:List α) (p:α->α->Bool):Bool:=match l with | [a,b]=>p a b | _=>false
theorem mS {α:Type} {l:List α} {p:α->α->Bool} (h:on2 l p=true):∃ a b,l=[a,b]/\p a b=true:=by
 match l,h with
 | [],h=>exact no h
 | [_],h=>exact no h
 | [a,b],h=>exact ⟨a,b,rfl,h⟩
 | _::_::_::_,h=>exact no h
noncomputable def onS {α:Type} (o:Option α) (p:α->Bool):Bool:=match o with | some a=>p a | none=>false
theorem dm {α:Type} {o:Option α} {p:α->Bool} (h:onS o p=true):∃ a,o=some a/\p a=true:=by
 cases o <;> first | exact no h | exact ⟨_,rfl,h⟩
noncomputable def onN {α:Type} (o:Option α) (b:Bool):Bool:=match o with | none=>b | some _=>false
theorem fF {α:Type} {o:Option α} {b:Bool} (h:onN o b=true):o=none/\b=true:=by
 cases o <;> first | exact no h | exact ⟨rfl,h⟩
noncomputable def kP (e:Expr) (p:Str->List Expr->Bool):Bool:=g8 e fun f as ks _=>bz f fun x=>on0 ks (p x as)
theorem du {e:Expr} {p:Str->List Expr->Bool} (h:kP e p=true):∃ x np as pos,e=.Call (.Name x np) as [] pos/\p x as=true:=by
 obtain ⟨f,as,ks,pos,rfl,h⟩:=eg h
 obtain ⟨x,np,rfl,h⟩:=aG h
 obtain ⟨rfl,h⟩:=aV h
 exact ⟨_,_,_,_,rfl,h⟩
noncomputable def CT (e:Expr) (p:Expr->Str->List Expr->Pos->Pos->Bool):Bool:=g8 e fun f as ks cp=>pW f fun o m ap=>on0 ks (p o m as ap cp)
theorem uQ {e:Expr} {p:Expr->Str->List Expr->Pos->Pos->Bool} (h:CT e p=true):∃ o m as ap cp,e=.Call (.Attribute o m ap) as [] cp/\p o m as ap cp=true:=by
 obtain ⟨f,as,ks,pos,rfl,h⟩:=eg h
 obtain ⟨o,m,np,rfl,h⟩:=ph h
 obtain ⟨rfl,h⟩:=aV h
 exact ⟨_,_,_,_,_,rfl,h⟩
noncomputable def xc (p:I.Pr) (b:Bool):Bool:=match p with | .neg=>b | _=>false
theorem rd {p:I.Pr} {b:Bool} (h:xc p b=true):p=.neg/\b=true:=by
 cases p <;> first | exact no h | exact ⟨rfl,h⟩
noncomputable def Ct (p:I.Pr) (b:Bool):Bool:=match p with | .ix=>b | _=>false
theorem t6 {p:I.Pr} {b:Bool} (h:Ct p b=true):p=.ix/\b=true:=by
 cases p <;> first | exact no h | exact ⟨rfl,h⟩
noncomputable def qo (p:I.Pr) (q:Bool->Bool->Bool):Bool:=match p with | .sl a b=>q a b | _=>false
theorem gC {p:I.Pr} {q:Bool->Bool->Bool} (h:qo p q=true):∃ a b,p=.sl a b/\q a b=true:=by
 cases p <;> first | exact no h | exact ⟨_,_,rfl,h⟩
noncomputable def BI (p:I.Pr) (q:I.Cop->Bool):Bool:=match p with | .cmp o=>q o | _=>false
theorem vd {p:I.Pr} {q:I.Cop->Bool} (h:BI p q=true):∃ o,p=.cmp o/\q o=true:=by
 cases p <;> first | exact no h | exact ⟨_,rfl,h⟩
noncomputable def rN (p:I.Pr) (q:I.Ty->Bool):Bool:=match p with | .isInst t=>q t | _=>false
theorem px {p:I.Pr} {q:I.Ty->Bool} (h:rN p q=true):∃ t,p=.isInst t/\q t=true:=by
 cases p <;> first | exact no h | exact ⟨_,rfl,h⟩
noncomputable def bO {α:Type} (l:List α) (p:α->List α->Bool):Bool:=match l with | a::r=>p a r | []=>false
theorem aP {α:Type} {l:List α} {p:α->List α->Bool} (h:bO l p=true):∃ a r,l=a::r/\p a r=true:=by
 cases l <;> first | exact no h | exact ⟨_,_,rfl,h⟩
noncomputable def nI (e:Expr) (p:Str->Pos->Bool):Bool:=match e with | .Name x np=>p x np | _=>false
theorem mh {e:Expr} {p:Str->Pos->Bool} (h:nI e p=true):∃ x np,e=.Name x np/\p x np=true:=by
 cases e <;> first | exact no h | exact ⟨_,_,rfl,h⟩
noncomputable def sv (p:I.Pr) (b:Nat->Bool):Bool:=match p with | .srt2 t=>b t | _=>false
theorem pC {p:I.Pr} {b:Nat->Bool} (h:sv p b=true):∃ t,p=.srt2 t/\b t=true:=by
 cases p <;> first | exact no h | exact ⟨_,rfl,h⟩
noncomputable def wC (e:Expr) (b:Arguments->Expr->Scope->Bool):Bool:=match e with | .Lambda a x s _=>b a x s | _=>false
theorem tR {e:Expr} {b:Arguments->Expr->Scope->Bool} (h:wC e b=true):∃ a x s pos,e=.Lambda a x s pos/\b a x s=true:=by
 cases e <;> first | exact no h | exact ⟨_,_,_,_,rfl,h⟩
noncomputable def B5 (c:Const) (b:Bool):Bool:=match c with | .int n=>decide (n=1)&&b | _=>false
theorem uq {c:Const} {b:Bool} (h:B5 c b=true):c=.int 1/\b=true:=by
 cases c <;> first | exact no h | exact ⟨congrArg _ (of_decide_eq_true (Bool.and_eq_true_iff.mp h).1),(Bool.and_eq_true_iff.mp h).2⟩
noncomputable def wG (e:Expr) (b:Str->Bool):Bool:=gk e fun y i=>bz y fun x=>onK i fun c=>B5 c (b x)
theorem rL {e:Expr} {b:Str->Bool} (h:wG e b=true):∃ x p1 j p2 p3,e=.Subscript (.Name x p1) (.Constant (.int 1) j p2) p3/\b x=true:=by
 obtain ⟨y,i,p3,rfl,h⟩:=ck h
 obtain ⟨x,p1,rfl,h⟩:=aG h
 obtain ⟨c,j,p2,rfl,h⟩:=m5 h
 obtain ⟨rfl,h⟩:=uq h
 exact ⟨_,_,_,_,_,rfl,h⟩
noncomputable def oneArg (a:Arguments) (x:Str):Bool:=match a with
 | ⟨p,q,v,k,d,w,f⟩=>on0 p (on1 q fun g=>onN v (on0 k (on0 d (onN w (on0 f (decide (g.arg=x)))))))
section
variable (cx:CI) (lc:LC) (sc:Scope) (N:List Str)
noncomputable abbrev CE:=Expr->Bool
noncomputable abbrev CA:=List Expr->Bool
noncomputable def kV (i:Nat) (e:Expr):Bool:=bz e fun x=>decide (N[i]?=some x)&&pL sc x&&okN x
noncomputable def kG (i:Nat) (e:Expr):Bool:=bz e fun x=>decide (cx.gl i=some x)&&cB sc x&&okN x
noncomputable def kBm (p:I.Pr) (co:CE) (ca:CA) (e:Expr):Bool:=CT e fun o m as ap cp=>decide (Du p=some m)&&co o&&ca as&&baseOk o&&(ap.endLine == cp.line)&&decide (as.length<20)
noncomputable def kCl (f n:Nat) (ca:CA) (e:Expr):Bool:=kP e fun x as=>decide (cx.fn f=some (x,n))&&cB sc x&&okN x && !as.isEmpty&&ca as
noncomputable def qB (a b:CE) (e:Expr):Bool:=mM e fun op x y r pos=>wu op (a x&&b (behind .And y r pos))
noncomputable def kOr (a b:CE) (e:Expr):Bool:=mM e fun op x y r pos=>AZ op (a x&&b (behind .Or y r pos))
noncomputable def qc (a:CE) (e:Expr):Bool:=vv e fun op x=>rE op (a x)
noncomputable def kIf (c a b:CE) (e:Expr):Bool:=Bt e fun x y z=>c x&&a y&&b z
noncomputable def kTu (n:Nat) (ca:CA) (e:Expr):Bool:=oo e fun xs=>ca xs&&decide (n<=1000)
noncomputable def kLs (n:Nat) (ca:CA) (e:Expr):Bool:=wZ e fun xs=>ca xs&&decide (n<=1000)
noncomputable def cN (tg:Expr) (fr:List Nat):List Str:=tgN tg++fr.filterMap (N[·]?)
noncomputable def kCm (nl:Nat) (fr:List Nat) (t:I.Tg) (ci:Expr->CE) (cc:Scope->List Str->CA) (ce:Scope->List Str->CE) (e:Expr):Bool:=sd e fun elt gs scope=>on1 gs fun g =>
 decide (g.is_async=0)&&wQ sc N scope (cN N g.target fr) nl fr&&gb nl t&&jT g.iter&&ci g.target g.iter&&zh false scope (cN N g.target fr) t g.target&&cc scope (cN N g.target fr) g.ifs&&ce scope (cN N g.target fr) elt
noncomputable def kNg (p:I.Pr) (a:CE) (e:Expr):Bool:=vv e fun op x=>tE op (xc p (a x))
noncomputable def kS0 (p:I.Pr) (a:CE) (e:Expr):Bool:=gk e fun x i=>kO i fun l u=>onN l (onN u (qo p fun b1 b2 => !b1 && !b2&&a x))
noncomputable def kB1 (p:I.Pr) (a:CE) (e:Expr):Bool:=kP e fun x as=>on1 as fun y=>decide (zm p=some x)&&cB sc x&&okN x&&noStar y&&a y
noncomputable def kIn (p:I.Pr) (a:CE) (e:Expr):Bool:=kP e fun x as=>on2 as fun y t=>bz t fun t=>rN p fun ty=>decide (x = "isinstance")&&cB sc x&&decide (t=Str.ofString (tyN ty))&&cB sc t&&noStar y&&a y
noncomputable def kBi (p:I.Pr) (a b:CE) (e:Expr):Bool:=xf e fun x op y=>decide (z0 p=some op)&&a x&&b y
noncomputable def kC1 (p:I.Pr) (a b:CE) (e:Expr):Bool:=wj e fun x ops ys=>on1 ops fun op=>on1 ys fun y=>BI p fun o=>xO o op y&&a x&&b y
noncomputable def kSl (p:I.Pr) (a b:CE) (e:Expr):Bool:=gk e fun x i=>kO i fun l u=>onS l fun l=>onN u (qo p fun b1 b2=>b1 && !b2&&a x&&b l)
noncomputable def kSu (p:I.Pr) (a b:CE) (e:Expr):Bool:=gk e fun x i=>kO i fun l u=>onN l (onS u fun u=>qo p fun b1 b2 => !b1&&b2&&a x&&b u)
noncomputable def kIx (p:I.Pr) (a b:CE) (e:Expr):Bool:=gk e fun x i=>Ct p (gS i&&a x&&b i)
noncomputable def kB2 (p:I.Pr) (a b:CE) (e:Expr):Bool:=kP e fun x as=>on2 as fun y z=>decide (zm p=some x)&&cB sc x&&okN x&&noStar y&&noStar z&&a y&&b z
noncomputable def kSr (p:I.Pr) (a:CE) (e:Expr):Bool:=g8 e fun f as kws _=>bz f fun x=>on1 as fun y=>on1 kws fun kw=>sv p fun t=>decide (x = "sorted")&&cB sc x&&decide (kw.arg=some "key")&&noStar y&&a y&&decide (lc.t=some t) &&
 wC kw.value fun ar bd ls=>wG bd fun z=>oneArg ar z&&decide (ls.names=[(z,.local)])&&decide (ls.isCoroutine=false)&&decide (ls.isGenerator=false)&&decide (ls.kind=.function)&&okN z
noncomputable def kSb (p:I.Pr) (i:Bool) (a b c:CE) (e:Expr):Bool:=gk e fun x j=>kO j fun l u=>onS l fun l=>onS u fun u=>qo p fun b1 b2=>b1&&b2&&i&&a x&&b l&&c u
noncomputable def kEs (a:CE) (as:CA) (es:List Expr):Bool:=bO es fun e r=>noStar e&&a e&&as r
noncomputable def kRn (n:Nat) (ca:CA) (e:Expr):Bool:=kP e fun x as=>decide (x = "range")&&cB sc x&&decide (0<n)&&decide (n<=3)&&ca as
end
noncomputable def wrap:I.E->Bool
 | .cell _=>true
 | .fz _=>true
 | .asI _=>true
 | _=>false
mutual
noncomputable def aC (cx:CI) (lc:LC) (sc:Scope) (N:List Str):I.E->Expr->Bool
 | .v i,e=>kV sc N i e
 | .c d,e=>onK e fun c=>cK d c
 | .g i,e=>kG cx sc i e
 | .pr p es,e=>Dg cx lc sc N p es e
 | .bm p o es,e=>kBm p (aC cx lc sc N o) (eD cx lc sc N es) e
 | .call f es,e=>kCl cx sc f (ay es) (eD cx lc sc N es) e
 | .callP f es,e=>kCl cx sc f (ay es) (eD cx lc sc N es) e
 | .and a b,e=>qB (aC cx lc sc N a) (aC cx lc sc N b) e
 | .or a b,e=>kOr (aC cx lc sc N a) (aC cx lc sc N b) e
 | .not a,e=>qc (aC cx lc sc N a) e
 | .ite c a b,e=>kIf (eV cx lc sc N c) (aC cx lc sc N a) (aC cx lc sc N b) e
 | .chain o1 o2 a b c,e=>false
 | .chain3 o1 o2 o3 a b c d,e=>false
 | .mk c es,e=>false
 | .meth m o es,e=>false
 | .methP m o es,e=>false
 | .fld o f,e=>false
 | .tup es,e=>kTu (ay es) (eD cx lc sc N es) e
 | .lst es,e=>kLs (ay es) (eD cx lc sc N es) e
 | .cell a,e=>frO a&&aC cx lc sc N a e
 | .dict _,e=>jU e
 | .fz a,e=>aC cx lc sc N a e
 | .asI a,e=>false
 | .comp nl fr t it cd el,e=>kCm sc N nl fr t (fun tg i=>y1 cx lc sc N tg it i) (fun s n es=>wX cx s n cd es) (fun s n x=>aC cx lc0 s n el x) e
 | .sortK _ _,_=>false
noncomputable def Dg (cx:CI) (lc:LC) (sc:Scope) (N:List Str) (p:I.Pr):I.Es->Expr->Bool
 | .cons a .nil,e=>kNg p (aC cx lc sc N a) e||(kS0 p (aC cx lc sc N a) e||(kB1 sc p (aC cx lc sc N a) e||(kIn sc p (aC cx lc sc N a) e||kSr lc sc p (aC cx lc sc N a) e)))
 | .cons a (.cons b .nil),e=>kBi p (aC cx lc sc N a) (aC cx lc sc N b) e||(kC1 p (aC cx lc sc N a) (aC cx lc sc N b) e||(kSl p (aC cx lc sc N a) (aC cx lc sc N b) e||(kSu p (aC cx lc sc N a) (aC cx lc sc N b) e ||
   (kIx p (aC cx lc sc N a) (aC cx lc sc N b) e||kB2 sc p (aC cx lc sc N a) (aC cx lc sc N b) e))))
 | .cons a (.cons b (.cons c .nil)),e=>kSb p (rZ b) (aC cx lc sc N a) (aC cx lc sc N b) (aC cx lc sc N c) e
 | _,_=>false
noncomputable def eD (cx:CI) (lc:LC) (sc:Scope) (N:List Str):I.Es->List Expr->Bool
 | .nil,es=>on0 es true
 | .cons a as,es=>kEs (aC cx lc sc N a) (eD cx lc sc N as) es
noncomputable def eV (cx:CI) (lc:LC) (sc:Scope) (N:List Str):I.C->Expr->Bool
 | .e a,e=>okT e && !wrap a&&aC cx lc sc N a e
 | .and a b,e=>qB (eV cx lc sc N a) (eV cx lc sc N b) e
 | .or a b,e=>kOr (eV cx lc sc N a) (eV cx lc sc N b) e
 | .not a,e=>qc (eV cx lc sc N a) e
 | .tt,_=>false
noncomputable def wX (cx:CI) (sc:Scope) (N:List Str):I.C->List Expr->Bool
 | .tt,es=>on0 es true
 | .e a,es=>on1 es fun e=>okT e && !wrap a&&aC cx lc0 sc N a e
 | .and a b,es=>on1 es fun e=>qB (eV cx lc0 sc N a) (eV cx lc0 sc N b) e
 | .or a b,es=>on1 es fun e=>kOr (eV cx lc0 sc N a) (eV cx lc0 sc N b) e
 | .not a,es=>on1 es fun e=>qc (eV cx lc0 sc N a) e
noncomputable def y1 (cx:CI) (lc:LC) (sc:Scope) (N:List Str) (tg:Expr):I.It->Expr->Bool
 | .seq a,e=>aC cx lc sc N a e
 | .rng es,e=>kRn sc (ay es) (eD cx lc sc N es) e
 | .enum s a,e=>false
 | .zrev a b,e=>false
 | .zip _ _,_=>false
 | .rev a,e=>false
end
noncomputable def kq (sc:Scope) (x:Str) (xl:Nat) (scope:Scope) (vl:Nat):Bool :=
 decide (sc.names.lookup x=some .local)&&decide (xl=vl) && !(scope.names.any fun p=>p.1 == x&&(p.2 == .local||p.2 == .cell))
noncomputable def Ab:I.E->Bool
 | .comp _ _ _ _ _ _=>true
 | _=>false
noncomputable def gK:I.E->Bool
 | .comp _ _ _ _ _ _=>true
 | .cell e=>Ab e
 | _=>false
noncomputable def setOk (sc:Scope) (x:Str) (xl:Nat) (a:I.E):Expr->Bool
 | .ListComp _ _ scope vp=>gK a || !kq sc x xl scope vp.line
 | .SetComp _ _ _ _=>false
 | .DictComp _ _ _ _ _=>false
 | _=>true
noncomputable def qX (s:Stmt) (p:Expr->Expr->Bool):Bool:=match s with | .Assign [t] e _=>p t e | _=>false
theorem gA {s:Stmt} {p:Expr->Expr->Bool} (h:qX s p=true):∃ t e pos,s=.Assign [t] e pos/\p t e=true:=by
 cases s with
 | Assign ts e pos=>match ts,h with
  | [],h=>exact no h
  | [t],h=>exact ⟨_,_,_,rfl,h⟩
  | _::_::_,h=>exact no h
 | _=>exact no h
noncomputable def ux (s:Stmt) (p:Expr->Bool):Bool:=match s with | .Expr e _=>p e | _=>false
theorem oh {s:Stmt} {p:Expr->Bool} (h:ux s p=true):∃ e pos,s=.Expr e pos/\p e=true:=by
 cases s <;> first | exact no h | exact ⟨_,_,rfl,h⟩
noncomputable def ou (s:Stmt) (p:Option Expr->Bool):Bool:=match s with | .Return e _=>p e | _=>false
theorem lB {s:Stmt} {p:Option Expr->Bool} (h:ou s p=true):∃ e pos,s=.Return e pos/\p e=true:=by
 cases s <;> first | exact no h | exact ⟨_,_,rfl,h⟩
noncomputable def nS (s:Stmt) (p:Expr->List Stmt->List Stmt->Bool):Bool:=match s with | .If t x y _=>p t x y | _=>false
theorem lJ {s:Stmt} {p:Expr->List Stmt->List Stmt->Bool} (h:nS s p=true):∃ t x y pos,s=.If t x y pos/\p t x y=true:=by
 cases s <;> first | exact no h | exact ⟨_,_,_,_,rfl,h⟩
noncomputable def xP (s:Stmt) (p:Expr->List Stmt->List Stmt->Bool):Bool:=match s with | .While t x y _=>p t x y | _=>false
theorem vF {s:Stmt} {p:Expr->List Stmt->List Stmt->Bool} (h:xP s p=true):∃ t x y pos,s=.While t x y pos/\p t x y=true:=by
 cases s <;> first | exact no h | exact ⟨_,_,_,_,rfl,h⟩
noncomputable def wy (s:Stmt) (p:Expr->Expr->List Stmt->List Stmt->Bool):Bool:=match s with | .For t i x y _=>p t i x y | _=>false
theorem pZ {s:Stmt} {p:Expr->Expr->List Stmt->List Stmt->Bool} (h:wy s p=true):∃ t i x y pos,s=.For t i x y pos/\p t i x y=true:=by
 cases s <;> first | exact no h | exact ⟨_,_,_,_,_,rfl,h⟩
noncomputable def onRaise (s:Stmt) (p:Expr->Bool):Bool:=match s with | .Raise (some e) none _=>p e | _=>false
theorem lZ {s:Stmt} {p:Expr->Bool} (h:onRaise s p=true):∃ e pos,s=.Raise (some e) none pos/\p e=true:=by
 cases s with
 | Raise e f pos=>match e,f,h with
  | none,_,h=>exact no h
  | some _,none,h=>exact ⟨_,_,rfl,h⟩
  | some _,some _,h=>exact no h
 | _=>exact no h
section
variable (cx:CI) (sc:Scope) (N:List Str)
noncomputable def AX (i:Nat) (a:I.E) (ca:CE) (s:Stmt):Bool:=qX s fun t e=>nI t fun x xp=>decide (N[i]?=some x)&&iM true sc x&&setOk sc x xp.line a e&&ca e
noncomputable def kTs (is:List Nat) (ca:CE) (s:Stmt):Bool:=qX s fun t e=>oo t fun es=>kY true sc N is es&&cH e&&tw e&&ca e
noncomputable def Ak (co ci ca:CE) (s:Stmt):Bool:=qX s fun t e=>gk t fun x y=>gS y&&cH e&&co x&&ci y&&ca e
noncomputable def kRa (c n:Nat) (ca:CA) (s:Stmt):Bool:=onRaise s fun e=>kP e fun x as=>decide (cx.ec c=some x)&&cB sc x&&okN x && !as.isEmpty&&decide (n<=1000)&&ca as
noncomputable def kFr (t:I.Tg) (ci:Expr->CE) (cb:List Stmt->Bool) (s:Stmt):Bool:=wy s fun tg iter body els=>on0 els (jT iter&&zh true sc N t tg&&ci tg iter&&cb body)
end
noncomputable def EF (s:Stmt) (p:List Stmt->List ExceptHandler->List Stmt->List Stmt->Bool):Bool:=match s with | .Try b h o f _=>p b h o f | _=>false
noncomputable def D1 (h:ExceptHandler) (p:Option Expr->Option Str->List Stmt->Bool):Bool:=match h with | .ExceptHandler t n b _=>p t n b
noncomputable def wD (s:Stmt) (p:Stmt->Str->Str->List Stmt->Bool):Bool:=EF s fun b h o f=>on0 o (on0 f (on1 b fun b=>on1 h fun h=>D1 h fun t n su=>onS t fun t=>bz t fun x=>onS n fun n=>bO su fun b0 su=>p b x n (b0::su)))
noncomputable def vC (e:Expr) (p:BoolOp->List Expr->Pos->Bool):Bool:=match e with | .BoolOp op es pos=>p op es pos | _=>false
noncomputable def wM:BoolOp->Bool | .And=>true | _=>false
noncomputable def tnm:List Expr->Option (List (Str × Pos))
 | []=>some []
 | .Name x p::r=>(tnm r).map ((x,p) :: ·)
 | _::_=>none
section
variable (kt:Str->Option Bool) (sc:Scope) (N:List Str) (n:Str)
noncomputable def kIs (b:Bool) (t:Expr):Bool:=(bz t fun x=>(decide (x = "ValueError")&&b&&cB sc x)||(decide (kt x=some b)&&cB sc x&&okN x)) ||
 oo t fun ts=>onS (tnm ts) fun l=>decide (l.length<=1000)&&(l.all fun t=>(kt t.1).isSome&&cB sc t.1&&okN t.1)&&decide ((l.any fun t=>(kt t.1).getD false)=b)
noncomputable def eB (κ:List (Nat × Bool)):I.HE->Expr->Bool
 | .inst b,e=>g8 e fun f as kws _=>bz f fun g=>on0 kws (decide (g = "isinstance")&&cB sc g&&on2 as fun a t=>bz a fun m=>decide (m=n)&&kIs kt sc b t)
 | .v j b,e=>bz e fun x=>decide (N[j]?=some x)&&pL sc x&&okN x&&decide (κ.lookup j=some b)
 | .k b,e=>onK e fun c=>decide (c=.bool b)
 | .not a,e=>vv e fun op x=>rE op (eB κ a x)
 | .one a,e=>vC e fun _ es _=>on1 es fun x=>eB κ a x
 | .and a b,e=>vC e fun op es pos=>wM op&&bO es fun x r=>bO r fun y z=>eB κ a x&&eB κ b (.BoolOp .And (y::z) pos)
 | .or a b,e=>vC e fun op es pos => !wM op&&bO es fun x r=>bO r fun y z=>eB κ a x&&eB κ b (.BoolOp .Or (y::z) pos)
noncomputable def lb (i:Nat):List (Nat × Bool)->List I.HS->List Stmt->Bool
 | _,[],ss=>on0 ss true
 | κ,.set j e::hr,ss=>bO ss fun s r=>(qX s fun t x=>bz t fun y=>decide (N[j]?=some y)&&iM true sc y&&cH x&&decide (j≠i)&&eB kt sc N n κ e x)&&lb i ((j,e.val)::κ) hr r
 | κ,.skip t::hr,ss=>bO ss fun s r=>(nS s fun e _ els=>on0 els (!t.val&&plainT e&&eB kt sc N n κ t e))&&lb i κ hr r
 | κ,.ret e::_,ss=>bO ss fun s _=>ou s fun x=>onS x fun x=>eB kt sc N n κ e x
end
noncomputable def AS (cx:CI) (sc:Scope) (N:List Str) (f m i:Nat) (hs:List (Nat × List I.HS)) (ca:CA) (s:Stmt):Bool:=wD s fun b x n su=>ux b fun e=>kP e fun g as =>
 decide (cx.fn f=some (g,m))&&cB sc g&&okN g && !as.isEmpty&&as.all noStar&&ca as&&cB sc x&&okN x&&decide (N[i]?=some n)&&decide (sc.names.lookup n=some .local)&&okN n&&cB sc "isinstance" &&
 (hs.all fun h=>cx.xm h.1 x&&lb (cx.kt h.1) sc N n i [] h.2 su) && !hs.isEmpty
mutual
noncomputable def Bf (cx:CI) (tb:Option Nat) (sc:Scope) (N:List Str):I.S->Stmt->Bool
 | .set i a,s=>AX sc N i a (aC cx ⟨true,tb⟩ sc N a) s
 | .tset is a,s=>kTs sc N is (aC cx ⟨true,tb⟩ sc N a) s
 | .setix o i a,s=>Ak (aC cx ⟨true,tb⟩ sc N o) (aC cx ⟨true,tb⟩ sc N i) (aC cx ⟨true,tb⟩ sc N a) s
 | .setfld o f a,s=>false
 | .augfld o f p a,s=>false
 | .aug i p a,s=>false
 | .ex a,s=>ux s fun e=>cH e&&aC cx ⟨true,tb⟩ sc N a e
 | .ret a,s=>ou s fun e=>onS e fun e=>aC cx ⟨true,tb⟩ sc N a e
 | .retN,s=>false
 | .ite c a b,s=>nS s fun t x y=>eV cx ⟨true,tb⟩ sc N c t&&gZ cx tb sc N a x&&gZ cx tb sc N b y
 | .wh c b,s=>xP s fun t x y=>on0 y (eV cx ⟨true,tb⟩ sc N c t&&gZ cx tb sc N b x)
 | .fr t it b,s=>kFr sc N t (fun tg i=>y1 cx ⟨true,tb⟩ sc N tg it i) (gZ cx tb sc N b) s
 | .brk,s=>false
 | .cont,s=>false
 | .pass,s=>false
 | .stop,_=>false
 | .raise c es,s=>kRa cx sc c (ay es) (eD cx ⟨true,tb⟩ sc N es) s
 | .tryM f es i hs,s=>false
 | .tryC f es i hs,s=>AS cx sc N f (ay es) i hs (eD cx ⟨true,tb⟩ sc N es) s
 | .augix _ _ _ _,_=>false
noncomputable def gZ (cx:CI) (tb:Option Nat) (sc:Scope) (N:List Str):I.Ss->List Stmt->Bool
 | .nil,ss=>on0 ss true
 | .cons a r,ss=>bO ss fun s rest=>Bf cx tb sc N a s&&gZ cx tb sc N r rest
end
end IS
namespace IS
open PySem PySem.Spec L2
open PyProof.Rows hiding St
open I (D Cell OS Fr R SZ Kt Ko)
structure SC (X:Cx) (lc:Bool) (sc:Scope):Prop where
 vis:∀ x,pL sc x=true->Vis X.env.scope x
 glo:∀ x,cB sc x=true->Gl X x
 asg:∀ x,iM lc sc x=true->Loc X.env.scope x/\(X.fn x=true\/X.env.scope.names.lookup x=some .local)
 cel:∀ x,(sc.names.lookup x=some .cell\/sc.names.lookup x=some .free)->(X.env.scope.names.lookup x=some .cell\/X.env.scope.names.lookup x=some .free)
noncomputable def En (G:GI) (X:Cx) (t:Nat):Prop:=∃ c,X.env.code=.ref c/\PySem.W.CodeHd X.base c (G.tA t)/\X.env.qual ++ "<lambda>" = G.tq t/\BMd X.mg X.base
structure XI (G:GI) (E:XK) (k:Nat) (X:Cx) (lc:LC) (sc:Scope) (N:List Str):Prop where
 prog:X.prog=G.prog
 w:X.w=G.w
 K:X.K=G.K
 mg:X.mg=G.mg
 base:X.base=G.base
 nms:X.N=N
 nd:N.Nodup
 sc:SC X lc.c sc
 calm:X.calm=true
 room:bS (2 * k+1) X.A
 pass:Passes (CXE X.prog X.w) X E
 tab:∀ t,lc.t=some t->En G X t
noncomputable def jv:List Str:=["len", "list", "tuple", "min", "max", "range", "enumerate", "isinstance", "int", "bool", "str", "sum", "all", "any", "sorted", "zip", "reversed", "dict", "set", "ValueError"]
structure FX (G:GI) (cx:CI):Prop where
 inj:∀ f g,G.fl f=G.fl g->f=g
 cl:∀ c,G.ok c->Cls G.K (G.CA c)
 nf:∀ f x,cx.fl f=some x->G.fl f=x/\∀ c,G.ok c->zQ G.K (G.CA c) x
 nm:∀ m x n,cx.mt m=some (x,n)->∀ f,G.fl f≠x
structure HND (G:GI) (cx:CI):Prop where
 ex:∀ c x,cx.xm c x=true->(∃ v,G.mg x=some v/\PySem.W.exmOne G.K (.ref (G.CA c)) v=some true)/\PySem.W.ExC G.K (G.CA c)/\PySem.W.kitOne G.K (.ref (G.CA c)) (.type "ValueError")=some true
 kt:∀ c x b,cx.kt c x=some b->∃ A,G.mg x=some (.ref A)/\PySem.W.kitOne G.K (.ref (G.CA c)) (.ref A)=some b
structure TB (G:GI) (P:I.Pg) (W k:Nat) (cx:CI):Prop where
 fns:∀ f x n,cx.fn f=some (x,n)->∃ ps:List Str,pH G.prog G.w G.K G.mg G.base x (2 * k) ps (spF G P W k f n)
 gls:∀ i x,cx.gl i=some x->∃ u v,G.mg x=some u/\RelV v u/\∀ ι Hf,Rp G ι Hf v (P.g i)
 nbs:∀ x,x∈jv->G.mg x=none
 exs:∀ c x,cx.ec c=some x->G.mg x=some (.ref (G.CA c))/\PySem.W.excIn G.K (G.CA c) [.type "ValueError",.type "Exception",.type "BaseException",.type "object"] "ValueError.__new__" = true
 cls:∀ c x n,cx.cl c=some (x,n)->G.ok c/\∃ (fi:Nat) (ps:List Str),P.ini c=some fi/\A3 G.prog G.w G.K G.mg G.base (G.CA c) x (2 * k) ps (spF G P W k fi n)
 mts:∀ c m f,P.meth c m=some f->∀ x n,cx.mt m=some (x,n)->∃ ps:List Str,Ax G.prog G.w G.K G.mg G.base (G.CA c) x (2 * k) ps (spF G P W k f n)
 fx:FX G cx
 hn:HND G cx
theorem bp {x:Str} (h:okN x=true):(x == ("__debug__" : Str))=false/\(x == ("__classdict__" : Str))=false:=by
 obtain ⟨h1,h2⟩:=ae h
 exact ⟨by simpa using h1,by simpa using h2⟩
theorem aJ {e:Expr} {es:List Expr} {env:Env} (h:noStar e=true):starEach (e::es) env=(false,eval e env)::starEach es env:=by
 cases e <;> first | rfl | cases h
theorem aU {e:Expr} {m:Str} {env:Env} (h:baseOk e=true):attributeBase e m env (eval e env)=eval e env:=by
 cases e with
 | Call f args kws pos =>
  cases args with
  | nil=>cases h
  | cons a r=>cases f <;> rfl
 | _=>rfl
theorem mj {e:Expr} (h:gS e=true):jR e:=by
 intro o i
 cases e <;> first | rfl | cases h
theorem me {e:Expr} {env:Env} (h:jT e=true):∀ x,foldedSetIterable e env x=pure x:=by
 intro x
 cases e <;> first | rfl | cases h
theorem fB {e:Expr} {t:Option Expr} {n:Nat} {env:Env} (h:cH e=true):swapsWith e t n env=pure false:=by
 cases e <;> first | rfl | cases h
theorem js {e:Expr} {env:Env} (h:plainT e=true):∀ whole,isTrue e env whole=(do let v <-whole; standAt e.pos; holding [v] (truthy v)):=by
 intro whole
 cases e with
 | UnaryOp op x pos=>cases op <;> first | rfl | cases h
 | BoolOp _ _ _=>cases h
 | IfExp _ _ _ _=>cases h
 | Compare _ _ _ _=>cases h
 | _=>rfl
section
variable {G:GI} {P:I.Pg} {W:Nat} {cx:CI} {E:XK} {k:Nat} {X:Cx} {lc:LC} {sc:Scope} {N:List Str}
theorem XI.nb (hX:XI G E k X lc sc N) {x:Str} (T:TB G P W k cx) (h:x∈jv):X.mg x=none:=by rw [hX.mg]; exact T.nbs x h
theorem XI.units (hX:XI G E k X lc sc N):X.A.units+64<cLine:=hX.room.units
theorem XI.qH (hX:XI G E k X lc sc N):X.A.units+1<cLine:=by have:=hX.room.units; omega
theorem BX (hX:XI G E k X lc sc N) {p:I.Pr} {op:Operator} (h:z0 p=some op):∃ r,OpR X (binaryOp op) r/\VR2 G E p r:=by
 cases p <;> cases h
 ·exact ⟨_,nW hX.K,v_add⟩
 ·exact ⟨_,Af,v_sub⟩
 ·exact ⟨_,OpR.or vS xC,xD⟩
 ·exact ⟨_,tP,yK⟩
 ·exact ⟨_,xK,v_mod⟩
 ·exact ⟨_,zv,v_pow⟩
 ·exact ⟨_,u6,v_shl⟩
 ·exact ⟨_,zk,v_shr⟩
 ·exact ⟨_,xM,v_band⟩
 ·exact ⟨_,Bi,v_bor⟩
 ·exact ⟨_,xj,v_bxor⟩
theorem zB (hX:XI G E k X lc sc N) {o:I.Cop} {op:CmpOp} (h:Br o=some op):(∃ r,OpR X (compareOp op) r/\VR2 G E (.cmp o) r)/\∀ b,behindInMarks op b=false:=by
 cases o <;> cases h
 ·exact ⟨⟨_,hX.K ▸ qU hX.units,v_eq⟩,fun b=>dR b⟩
 ·exact ⟨⟨_,hX.K ▸ x8 hX.units,DN⟩,fun b=>dR b⟩
 ·exact ⟨⟨_,BF,v_lt⟩,fun b=>dR b⟩
 ·exact ⟨⟨_,BP,E1⟩,fun b=>dR b⟩
 ·exact ⟨⟨_,An,Eh⟩,fun b=>dR b⟩
 ·exact ⟨⟨_,BB,ES⟩,fun b=>dR b⟩
 ·exact ⟨⟨_,hX.K ▸ qU hX.units,B0⟩,fun b=>dR b⟩
 ·exact ⟨⟨_,xJ,Bb⟩,fun b=>dR b⟩
theorem uP (hX:XI G E k X lc sc N) {o:I.Cop} {op:CmpOp} {y:Expr} (h:xO o op y=true):(∃ r,OpR X (compareOp op) r/\VR2 G E (.cmp o) r)/\behindInMarks op y=false:=by
 unfold xO at h
 rw [Bool.or_eq_true] at h
 rcases h with h | h
 ·obtain ⟨h1,h2⟩:=zB hX (of_decide_eq_true h)
  exact ⟨h1,h2 y⟩
 ·obtain ⟨h1,h2⟩:=ae h
  have nm:behindInMarks op y=false:=by cases y <;> first | rfl | cases h1
  have e:=of_decide_eq_true h2
  cases o <;> cases e
  ·exact ⟨⟨_,hX.K ▸ pO,EN⟩,nm⟩
  ·exact ⟨⟨_,hX.K ▸ jS,uI⟩,nm⟩
theorem vT {KO:I.Orc} {as:I.Es} (ρ:Fr) (os:OS) (d:D) (os':OS) (h:I.ev P KO (.pr .list as) ρ os=.ok d os'):∃ xs,d=.lst xs:=by
 obtain ⟨ds,os1,_,h2⟩:=bind_some (f:=fun ds os1=>I.pr .list ds os1) h
 cases ds with
 | nil=>cases (show (R.stk:R D)=.ok d os' from h2)
 | cons x r=>cases r with
  | cons _ _=>cases (show (R.stk:R D)=.ok d os' from h2)
  | nil =>
   have h3:R.ofO ((I.items os1 x).map D.lst) os1=.ok d os':=h2
   cases e:I.items os1 x with
   | none=>rw [e] at h3; cases h3
   | some xs=>rw [e] at h3; cases h3; exact ⟨_,rfl⟩
theorem w5 (T0:TB G P W k cx) (hX:XI G E k X lc sc N) {p:I.Pr} {x:Str} {as:I.Es} {e:Expr} {es:List Expr} {np pos:Pos} (h:zm p=some x) (hg:cB sc x=true) (hk:okN x=true) (ha:PA X (e::es) (Ts G E P (I.call P W k) as))
  (he:starEach (e::es) X.env=(false,eval e X.env)::starEach es X.env) (hpl:(backTo pos (starEach es X.env)).any (·.1)=false) :
  PE X (.Call (.Name x np) (e::es) [] pos) (T G E P (I.call P W k) (.pr p as))/\(frO (.pr p as)=true->PE X (.Call (.Name x np) (e::es) [] pos) (TF G E P (I.call P W k) (.pr p as))):=by
 have hG:=hX.sc.glo x hg
 have hd:=(bp hk).1
 cases p <;> cases h
 ·exact ⟨PE.weak (cS (oK hX.K) hG (hX.nb T0 (by decide)) PySem.boot_len ha (by decide) hd he hpl) (yY BK),fun z=>by cases z⟩
 ·have F:PE X (.Call (.Name "list" np) (e::es) [] pos) (TF G E P (I.call P W k) (.pr .list as)):=PE.weak (o9 (hX.K ▸ j4) hG (hX.nb T0 (by decide)) PyProof.Rows.boot_list ha (by decide) hd he hpl) (Dp vz)
  exact ⟨gz F vT,fun _=>F⟩
 ·exact ⟨PE.weak (cS (hX.K ▸ oN hX.calm) hG (hX.nb T0 (by decide)) PyProof.Rows.boot_sum ha (by decide) hd he hpl) (yY v_sum),fun z=>by cases z⟩
 ·exact ⟨PE.weak (cS (hX.K ▸ pJ hX.calm) hG (hX.nb T0 (by decide)) PyProof.Rows.boot_min ha (by decide) hd he hpl) (yY yG),fun z=>by cases z⟩
theorem Ay (hX:XI G E k X lc sc N) {p:I.Pr} {m:Str} {o:Expr} {ea:I.E} {as:I.Es} {args:List Expr} {apos cpos:Pos} (h:Du p=some m) (ho:PE X o (T G E P (I.call P W k) ea)) (ha:PA X args (Ts G E P (I.call P W k) as)) (hb:baseOk o=true)
  (hst:∀ e∈args,noStar e=true) (hl:(apos.endLine == cpos.line)=true) (hf:args.length<20) (hn:args=[]->as=.nil):PE X (.Call (.Attribute o m apos) args [] cpos) (T G E P (I.call P W k) (.bm p ea as)):=by
 have stars:∀ es:List Expr,(∀ e∈es,noStar e=true)->(backTo cpos (starEach es X.env)).any (·.1)=false/\(backTo cpos (starEach es X.env)).all (fun x => !x.1)=true:=fun es=>by
  induction es with
  | nil=>exact fun _=>⟨rfl,rfl⟩
  | cons e es ih =>
   intro h
   obtain ⟨i1,i2⟩:=ih fun z hz=>h z (.tail _ hz)
   rw [aJ (h e (.head _))]
   exact ⟨by show (false||(backTo cpos (starEach es X.env)).any (·.1))=false; rw [i1]; rfl,by show (!false&&(backTo cpos (starEach es X.env)).all (fun x => !x.1))=true; rw [i2]; rfl⟩
 cases args with
 | nil =>
  cases hn rfl
  cases p with
  | append=>cases h; exact PE.weak (mB PySem.F.plainAttrs_list PySem.F.slot_list_append PySem.F.type_list_append jc ho (aU hb) hl) (hX.K ▸ qW ka)
  | insert=>cases h; exact PE.weak (mB PySem.F.plainAttrs_list PySem.F.slot_list_insert PySem.F.type_list_insert jr ho (aU hb) hl) (hX.K ▸ qW lF)
  | index=>cases h; exact PE.weak (mB PySem.F.plainAttrs_list PySem.F.slot_list_index PySem.F.type_list_index kD ho (aU hb) hl) (hX.K ▸ qW nK)
  | _=>cases h
 | cons e es =>
  have s1:=aJ (es:=es) (env:=X.env) (hst e (.head _))
  obtain ⟨s2,s3⟩:=stars es fun z hz=>hst z (.tail _ hz)
  obtain ⟨_,s4⟩:=stars (e::es) hst
  have hfew:((backTo cpos (starEach (e::es) X.env)).all (fun x => !x.1)&&(backToKw cpos (keywordEach [] X.env)).all (fun x=>x.1.isSome)&&decide ((e::es).length+([]:List Keyword).length+(if ([]:List Keyword).isEmpty then 0 else 1)<30))=true:=by
   rw [s4,decide_eq_true (by simp only [List.length_nil,List.isEmpty_nil,if_true]; omega)]
   rfl
  cases p with
  | append=>cases h; exact PE.weak (rq PySem.F.plainAttrs_list PySem.F.slot_list_append PySem.F.type_list_append jc ho ha (aU hb) hfew hl s1 s2) (hX.K ▸ zd ka)
  | insert=>cases h; exact PE.weak (rq PySem.F.plainAttrs_list PySem.F.slot_list_insert PySem.F.type_list_insert jr ho ha (aU hb) hfew hl s1 s2) (hX.K ▸ zd lF)
  | index=>cases h; exact PE.weak (rq PySem.F.plainAttrs_list PySem.F.slot_list_index PySem.F.type_list_index kD ho ha (aU hb) hfew hl s1 s2) (hX.K ▸ zd nK)
  | _=>cases h
end
end IS
namespace IS
open PySem PySem.Spec L2
open PyProof.Rows hiding St
open I (D Cell OS Fr R SZ Kt Ko)
section
variable {G:GI} {P:I.Pg} {W:Nat} {cx:CI} {E:XK} {k:Nat} {X:Cx} {lc:LC} {sc:Scope} {N:List Str} {KO:I.Orc} {a b c:I.E} {x l u:Expr} {p2 pos:Pos}
theorem cW {os:OS} {d:D}:I.slK os d none=.stk:=by cases d <;> rfl
theorem fO {ι:List Addr} {Hf:Hp} {v:V} {d:D} (h:Rp G ι Hf v d):(∃ i,v=.int i/\d=.int i)\/∀ i,d≠.int i:=by
 cases h <;> first | exact .inl ⟨_,rfl,rfl⟩ | exact .inr fun _ z=>nomatch z
theorem gF {d:D} (h:∀ i,d≠.int i):I.slB true false [d]=none/\I.slB false true [d]=none:=by
 cases d <;> first | exact ⟨rfl,rfl⟩ | exact absurd rfl (h _)
theorem oy {d e:D} (h:(∀ i,d≠.int i)\/∀ i,e≠.int i):I.slB true true [d,e]=none:=by
 rcases h with h | h
 ·cases d <;> first | rfl | exact absurd rfl (h _)
 ·cases d <;> cases e <;> first | rfl | exact absurd rfl (h _)
theorem A6 (hK:X.K=G.K) (ha:PE X x (T G E P KO a)):PE X (.Subscript x (.Slice none none none p2) pos) (T G E P KO (.pr (.sl false false) (.cons a .nil)))/\PE X (.Subscript x (.Slice none none none p2) pos) (TF G E P KO (.pr (.sl false false) (.cons a .nil))) :=
 ⟨PE.weak (bJ (dC hK) ha cI cI) fun σ H Q ⟨ι,Hf,ρ,os,rel,rf,w⟩=>T.use rel rf (one (WR.bind (k:=⟨_⟩) w)) fun ι1 Hf1 H1 os1 d1 v1 x1 r1 f1 hv1 q1=>uK (o:=(none,none)) r1 hv1 q1,
  PE.weak (bJ (dC hK) ha cI cI) fun σ H Q ⟨ι,Hf,ρ,os,rel,rf,w⟩=>T.use rel rf (one (WR.bind (k:=⟨_⟩) w)) fun ι1 Hf1 H1 os1 d1 v1 x1 r1 f1 hv1 q1=>nO (o:=(none,none)) r1 hv1 q1⟩
theorem Ao (hK:X.K=G.K) (ha:PE X x (T G E P KO a)) (hb:PE X l (T G E P KO b)):PE X (.Subscript x (.Slice (some l) none none p2) pos) (T G E P KO (.pr (.sl true false) (.cons a (.cons b .nil))))/\PE X (.Subscript x (.Slice (some l) none none p2) pos) (TF G E P KO (.pr (.sl true false) (.cons a (.cons b .nil)))):=by
 constructor
 ·refine PE.weak (bJ (dC hK) ha (cL hb) cI) fun σ H Q ⟨ι,Hf,ρ,os,rel,rf,w⟩=>T.use rel rf (two (WR.bind (k:=⟨_⟩) w)) fun ι1 Hf1 H1 os1 d1 v1 x1 r1 f1 hv1 q1=>T.use r1 f1 q1 fun ι2 Hf2 H2 os2 d2 v2 x2 r2 f2 hv2 q2 => ?_
  have q3:WR G E ι2 Hf2 (I.slK os2 (I.aj os2 d1) (I.slB true false [d2])) _:=q2
  rcases fO hv2 with ⟨i,rfl,rfl⟩ | h
  ·exact ⟨i,rfl,uK (o:=(some i,none)) r2 (hv1.ext x2) q3⟩
  ·rw [(gF h).1,cW] at q3
   exact False.elim q3
 ·refine PE.weak (bJ (dC hK) ha (cL hb) cI) fun σ H Q ⟨ι,Hf,ρ,os,rel,rf,w⟩=>T.use rel rf (two (WR.bind (k:=⟨_⟩) w)) fun ι1 Hf1 H1 os1 d1 v1 x1 r1 f1 hv1 q1=>T.use r1 f1 q1 fun ι2 Hf2 H2 os2 d2 v2 x2 r2 f2 hv2 q2 => ?_
  have q3:WR G E ι2 Hf2 (I.slK os2 (I.aj os2 d1) (I.slB true false [d2])) _:=q2
  rcases fO hv2 with ⟨i,rfl,rfl⟩ | h
  ·exact ⟨i,rfl,nO (o:=(some i,none)) r2 (hv1.ext x2) q3⟩
  ·rw [(gF h).1,cW] at q3
   exact False.elim q3
theorem AQ (hK:X.K=G.K) (ha:PE X x (T G E P KO a)) (hb:PE X u (T G E P KO b)):PE X (.Subscript x (.Slice none (some u) none p2) pos) (T G E P KO (.pr (.sl false true) (.cons a (.cons b .nil))))/\PE X (.Subscript x (.Slice none (some u) none p2) pos) (TF G E P KO (.pr (.sl false true) (.cons a (.cons b .nil)))):=by
 constructor
 ·refine PE.weak (bJ (dC hK) ha cI (cL hb)) fun σ H Q ⟨ι,Hf,ρ,os,rel,rf,w⟩=>T.use rel rf (two (WR.bind (k:=⟨_⟩) w)) fun ι1 Hf1 H1 os1 d1 v1 x1 r1 f1 hv1 q1=>T.use r1 f1 q1 fun ι2 Hf2 H2 os2 d2 v2 x2 r2 f2 hv2 q2 => ?_
  have q3:WR G E ι2 Hf2 (I.slK os2 (I.aj os2 d1) (I.slB false true [d2])) _:=q2
  rcases fO hv2 with ⟨i,rfl,rfl⟩ | h
  ·exact ⟨i,rfl,uK (o:=(none,some i)) r2 (hv1.ext x2) q3⟩
  ·rw [(gF h).2,cW] at q3
   exact False.elim q3
 ·refine PE.weak (bJ (dC hK) ha cI (cL hb)) fun σ H Q ⟨ι,Hf,ρ,os,rel,rf,w⟩=>T.use rel rf (two (WR.bind (k:=⟨_⟩) w)) fun ι1 Hf1 H1 os1 d1 v1 x1 r1 f1 hv1 q1=>T.use r1 f1 q1 fun ι2 Hf2 H2 os2 d2 v2 x2 r2 f2 hv2 q2 => ?_
  have q3:WR G E ι2 Hf2 (I.slK os2 (I.aj os2 d1) (I.slB false true [d2])) _:=q2
  rcases fO hv2 with ⟨i,rfl,rfl⟩ | h
  ·exact ⟨i,rfl,nO (o:=(none,some i)) r2 (hv1.ext x2) q3⟩
  ·rw [(gF h).2,cW] at q3
   exact False.elim q3
theorem WR.lr {b:I.E} {ρ:Fr} {ι:List Addr} {Hf:Hp} {os:OS} {Q:List Addr->Hp->Hp->OS->D->Prop} (w:WR G E ι Hf (I.ev P KO (.asI b) ρ os) Q):WR G E ι Hf (I.ev P KO (.asI b) ρ os) (fun ι' Hf' H' os' d=>(∃ i,d=.int i)/\Q ι' Hf' H' os' d):=by
 cases e:I.ev P KO (.asI b) ρ os with
 | stk=>rw [e] at w; exact w
 | exc c p os'=>rw [e] at w; exact w
 | ok d os' =>
  rw [e] at w
  obtain ⟨d1,os1,_,h2⟩:=bind_some (f:=fun d os1=>I.Dv d os1) e
  have:∃ i,d=.int i:=by cases d1 <;> cases h2; exact ⟨_,rfl⟩
  exact fun ι' Hf' H' x r=>⟨this,w ι' Hf' H' x r⟩
theorem Cp (hK:X.K=G.K) (ha:PE X x (T G E P KO a)) (hb:PE X l (T G E P KO (.asI b))) (hc:PE X u (T G E P KO c)):PE X (.Subscript x (.Slice (some l) (some u) none p2) pos) (T G E P KO (.pr (.sl true true) (.cons a (.cons (.asI b) (.cons c .nil)))))/\PE X (.Subscript x (.Slice (some l) (some u) none p2) pos) (TF G E P KO (.pr (.sl true true) (.cons a (.cons (.asI b) (.cons c .nil))))):=by
 constructor
 ·refine PE.weak (bJ (dC hK) ha (cL hb) (cL hc)) fun σ H Q ⟨ι,Hf,ρ,os,rel,rf,w⟩ => ?_
  have w':=three (WR.bind (k:=⟨_⟩) w)
  refine T.use rel rf w' fun ι1 Hf1 H1 os1 d1 v1 x1 r1 f1 hv1 q1=>T.use r1 f1 (WR.lr q1) fun ι2 Hf2 H2 os2 d2 v2 x2 r2 f2 hv2 ⟨⟨i,ei⟩,q2⟩ => ?_
  subst ei
  obtain rfl:v2=.int i:=by cases hv2; rfl
  ·refine ⟨i,rfl,T.use r2 f2 q2 fun ι3 Hf3 H3 os3 d3 v3 x3 r3 f3 hv3 q3 => ?_⟩
   have q4:WR G E ι3 Hf3 (I.slK os3 (I.aj os3 d1) (I.slB true true [.int i,d3])) _:=q3
   rcases fO hv3 with ⟨j,rfl,rfl⟩ | h
   ·exact ⟨j,rfl,uK (o:=(some i,some j)) r3 (hv1.ext (x2.trans x3)) q4⟩
   ·rw [oy (.inr h),cW] at q4
    exact False.elim q4
 ·refine PE.weak (bJ (dC hK) ha (cL hb) (cL hc)) fun σ H Q ⟨ι,Hf,ρ,os,rel,rf,w⟩ => ?_
  have w':=three (WR.bind (k:=⟨_⟩) w)
  refine T.use rel rf w' fun ι1 Hf1 H1 os1 d1 v1 x1 r1 f1 hv1 q1=>T.use r1 f1 (WR.lr q1) fun ι2 Hf2 H2 os2 d2 v2 x2 r2 f2 hv2 ⟨⟨i,ei⟩,q2⟩ => ?_
  subst ei
  obtain rfl:v2=.int i:=by cases hv2; rfl
  ·refine ⟨i,rfl,T.use r2 f2 q2 fun ι3 Hf3 H3 os3 d3 v3 x3 r3 f3 hv3 q3 => ?_⟩
   have q4:WR G E ι3 Hf3 (I.slK os3 (I.aj os3 d1) (I.slB true true [.int i,d3])) _:=q3
   rcases fO hv3 with ⟨j,rfl,rfl⟩ | h
   ·exact ⟨j,rfl,nO (o:=(some i,some j)) r3 (hv1.ext (x2.trans x3)) q4⟩
   ·rw [oy (.inr h),cW] at q4
    exact False.elim q4
theorem yT (T0:TB G P W k cx) (hX:XI G E k X lc sc N) {t:I.Ty} {tn:Str} {n1 n2:Pos} (hg:Gl X "isinstance") (hg2:Gl X tn) (ht:tn=Str.ofString (tyN t)) (ha:PE X x (T G E P KO a)) (hs:noStar x=true):PE X (.Call (.Name "isinstance" n1) [x,.Name tn n2] [] pos) (T G E P KO (.pr (.isInst t) (.cons a .nil))):=by
 have hb:PE X (.Name tn n2) (tC (.ty (tyN t))):=by
  subst ht
  cases t
  ·exact dY hg2 (hX.nb T0 (by decide)) PyProof.Rows.boot_int rfl
  ·exact dY hg2 (hX.nb T0 (by decide)) PyProof.Rows.boot_bool rfl
  ·exact dY hg2 (hX.nb T0 (by decide)) PyProof.Rows.boot_list rfl
  ·exact dY hg2 (hX.nb T0 (by decide)) PyProof.Rows.boot_tuple rfl
  ·exact dY hg2 (hX.nb T0 (by decide)) PyProof.Rows.boot_str rfl
 refine PE.weak (cS (hX.K ▸ kX) hg (hX.nb T0 (by decide)) boot_isinstance (bV ha (bV hb fH) (aJ hs)) (by decide) (by decide) (aJ hs) rfl) fun σ H Q ⟨ι,Hf,ρ,os,rel,rf,w⟩ => ?_
 exact T.use rel rf (one (WR.bind (k:=⟨_⟩) w)) fun ι1 Hf1 H1 os1 d1 v1 x1 r1 f1 hv1 q1=>ye t r1 hv1 q1
end
end IS
namespace IS
open PySem PySem.Spec L2
open PyProof.Rows hiding St
open I (D Cell OS Fr R SZ Kt Ko)
section
variable {G:GI} {P:I.Pg} {W:Nat} {cx:CI} {E:XK} {k:Nat} {X:Cx} {lc:LC} {sc:Scope} {N:List Str}
theorem lP (env:Env) (x:Str) (kd:NameKind) (h:kd≠.free):(bG env (x,kd)).2=kd:=by
 unfold bG
 rw [if_neg]
 intro z
 have:=ae (ae z).1
 exact h (eq_of_beq this.1)
theorem wA (env:Env) (x:Str):(bG env (x,.free)).2=.cell\/(bG env (x,.free)).2=.free:=by
 unfold bG
 split
 ·exact .inl rfl
 ·exact .inr rfl
theorem wB {sc:Scope} {x:Str} (h:pL sc x=true):sc.names.lookup x=some .local\/sc.names.lookup x=some .cell\/sc.names.lookup x=some .free:=by
 unfold pL at h
 split at h
 ·exact .inl ‹_›
 ·exact .inr (.inl ‹_›)
 ·exact .inr (.inr ‹_›)
 ·cases h
theorem wb {sc:Scope} {x:Str} (h:cB sc x=true):sc.names.lookup x=some .globalImplicit:=by
 unfold cB at h
 split at h
 ·assumption
 ·cases h
theorem we {lc:Bool} {sc:Scope} {x:Str} (h:iM lc sc x=true):sc.names.lookup x=some .local\/(lc=true/\sc.names.lookup x=some .cell):=by
 unfold iM at h
 split at h
 ·exact .inl ‹_›
 ·exact .inr ⟨h,‹_›⟩
 ·cases h
theorem SC.comp {scope:Scope} {N':List Str} {fp:List Addr} {s2:Shared} {H2:Hp} {C:Addr}:SC (X.comp scope N' fp s2 H2 C) false scope:=by
 have lk:∀ {x:Str} {kd:NameKind},scope.names.lookup x=some kd->(X.comp scope N' fp s2 H2 C).env.scope.names.lookup x=some (bG X.env (x,kd)).2:=fun {x kd} h=>by
  show (relabel scope X.env).names.lookup x=_
  rw [cO]
  exact dh h
 refine ⟨fun x h => ?_,fun x h => ?_,fun x h => ?_,fun x h => ?_⟩
 ·rcases wB h with h | h | h
  ·have:=lk h
   rw [lP _ _ _ (by decide)] at this
   exact .inl this
  ·have:=lk h
   rw [lP _ _ _ (by decide)] at this
   exact .inr (.inl this)
  ·have:=lk h
   rcases wA X.env x with z | z
   ·rw [z] at this; exact .inr (.inl this)
   ·rw [z] at this; exact .inr (.inr this)
 ·have:=lk (wb h)
  rw [lP _ _ _ (by decide)] at this
  exact this
 ·rcases we h with h | ⟨h,_⟩
  ·have:=lk h
   rw [lP _ _ _ (by decide)] at this
   exact ⟨.inl this,.inr this⟩
  ·cases h
 ·rcases h with h | h
  ·have:=lk h
   rw [lP _ _ _ (by decide)] at this
   exact .inl this
  ·have:=lk h
   rcases wA X.env x with z | z
   ·rw [z] at this; exact .inl this
   ·rw [z] at this; exact .inr this
theorem qE {scope:Scope} {N':List Str} {nl:Nat} {fr:List Nat} (h:wQ sc N scope N' nl fr=true) (hX:XI G E k X lc sc N):di X.env.scope X.N scope N' nl fr/\N'.Nodup:=by
 obtain ⟨h,h8⟩:=ae h
 obtain ⟨h,h7⟩:=ae h
 obtain ⟨h,h6⟩:=ae h
 obtain ⟨h,h5⟩:=ae h
 obtain ⟨h,h4⟩:=ae h
 obtain ⟨h,h3⟩:=ae h
 obtain ⟨h1,h2⟩:=ae h
 refine ⟨⟨of_decide_eq_true h1,fun y hy=>of_decide_eq_true (List.all_eq_true.mp h2 y hy),fun y hy e => ?_,fun y hy e => ?_,of_decide_eq_true h5,by rw [hX.nms]; exact of_decide_eq_true h6,fun x hx=>of_decide_eq_true (List.all_eq_true.mp h7 x hx)⟩,of_decide_eq_true h8⟩
 ·have:=List.all_eq_true.mp h3 y hy
  rw [decide_eq_true e,Bool.not_true,Bool.false_or] at this
  exact of_decide_eq_true this
 ·have:=List.all_eq_true.mp h4 y hy
  rw [decide_eq_true e,Bool.not_true,Bool.false_or,Bool.or_eq_true] at this
  refine hX.sc.cel y.1 ?_
  rcases this with z | z
  ·exact .inl (of_decide_eq_true z)
  ·exact .inr (of_decide_eq_true z)
theorem XI.comp (hX:XI G E k X lc sc N) {scope:Scope} {N':List Str} {fp:List Addr} {s2:Shared} {H2:Hp} {C:Addr} (nd:N'.Nodup):XI G E0 k (X.comp scope N' fp s2 H2 C) lc0 scope N' :=
 ⟨hX.prog,hX.w,hX.K,hX.mg,hX.base,rfl,nd,SC.comp,hX.calm,hX.room,r9,fun _ z=>by cases z⟩
theorem cTs (hX:XI G E k X lc sc N):∀ (is:List Nat) (es:List Expr),kY lc.c sc N is es=true->PGs X es (rM G is)/\is.length=es.length/\(assignEach es X.env).length=es.length/\(assignEach es X.env).findIdx? (·.1)=none
 | [],[],_=>⟨Aa,rfl,rfl,rfl⟩
 | [],_::_,h=>by cases h
 | i::is,[],h=>by cases h
 | i::is,e::es,h=>by
  cases e with
  | Name x pos =>
   obtain ⟨h,h3⟩:=ae (show (decide (N[i]?=some x)&&iM lc.c sc x&&kY lc.c sc N is es)=true from h)
   obtain ⟨h1,h2⟩:=ae h
   obtain ⟨i1,i2,i3,i4⟩:=cTs hX is es h3
   obtain ⟨l1,l2⟩:=hX.sc.asg x h2
   refine ⟨uu (rV (by rw [hX.nms]; exact hX.nd) (by rw [hX.nms]; exact of_decide_eq_true h1) l1 l2) i1 rfl,congrArg (· + 1) i2,congrArg (· + 1) i3,?_⟩
   show ((false,assign (.Name x pos) X.env)::assignEach es X.env).findIdx? (·.1)=none
   rw [List.findIdx?_cons]
   simp [i4]
  | _=>cases h
theorem cT (hX:XI G E k X lc sc N) (t:I.Tg) (e:Expr) (h:zh lc.c sc N t e=true):PG X e (TTg G t):=by
 cases t with
 | v i =>
  cases e with
  | Name x pos =>
   obtain ⟨h1,h2⟩:=ae (show (decide (N[i]?=some x)&&iM lc.c sc x)=true from h)
   obtain ⟨l1,l2⟩:=hX.sc.asg x h2
   exact rV (by rw [hX.nms]; exact hX.nd) (by rw [hX.nms]; exact of_decide_eq_true h1) l1 l2
  | _=>cases h
 | tup is =>
  cases e with
  | Tuple es kk pos =>
   obtain ⟨i1,i2,i3,i4⟩:=cTs hX is es h
   exact CJ hX.K hX.calm i1 i2 i3 i4
  | _=>cases h
end
end IS
namespace IS
open PySem PySem.Spec L2
open PyProof.Rows hiding St
open I (D Cell OS Fr R SZ Kt Ko)
section
variable {G:GI} {P:I.Pg} {W:Nat} {cx:CI} {k:Nat}
theorem fh {es:List Expr} {env:Env} {pos:Pos} (h:∀ e∈es,noStar e=true):(backTo pos (starEach es env)).any (·.1)=false:=by
 induction es with
 | nil=>rfl
 | cons e es ih =>
  rw [aJ (h e (.head _))]
  show (false||(backTo pos (starEach es env)).any (·.1))=false
  rw [ih fun z hz=>h z (.tail _ hz)]
  rfl
theorem qy {X:Cx} {op:BoolOp} {a:Expr} {pos:Pos} {t:TE} (h:PE X a t):PE X (.BoolOp op [a] pos) t:=by
 intro pins s σ H Q I hw
 have:=h pins s σ H Q I hw
 cases op <;> exact this
theorem vU {E:XK} {X:Cx} {lc:LC} {sc:Scope} {N:List Str} (T0:TB G P W k cx) (hX:XI G E k X lc sc N) {f:Nat} {x:Str} {as:I.Es} {args:List Expr} {np pos:Pos} (hf:cx.fn f=some (x,ay as)) (hg:cB sc x=true) (hk:okN x=true) (hne:args.isEmpty=false)
  (ha:PA X args (Ts G E P (I.call P W k) as)) (hst:∀ e∈args,noStar e=true):PE X (.Call (.Name x np) args [] pos) (jt (spF G P W k f (ay as)) [] E (Ts G E P (I.call P W k) as)):=by
 obtain ⟨ps,C⟩:=T0.fns f x _ hf
 cases args with
 | nil=>cases hne
 | cons e es =>
  have C':pH X.prog X.w X.K X.mg X.base x (2 * k) ps (spF G P W k f (ay as)):=by rw [hX.prog,hX.w,hX.K,hX.mg,hX.base]; exact C
  exact uE C' (hX.room.mono (by omega)) hX.pass ha (hX.sc.glo x hg) (aJ (hst e (.head _))) (fh fun z hz=>hst z (.tail _ hz)) (bp hk).1
noncomputable def SE (G:GI) (P:I.Pg) (W k:Nat) (E:XK) (X:Cx) (a:I.E) (e:Expr):Prop:=PE X e (T G E P (I.call P W k) a)/\(frO a=true->PE X e (TF G E P (I.call P W k) a))/\(okT e=true->wrap a=false->PT X e (TCo G E P (I.call P W k) (.e a)))
theorem DL {α:Type} {l:List α} (h:(!l.isEmpty)=true):l.isEmpty=false:=by cases l <;> first | exact no h | rfl
theorem SE.of {E:XK} {X:Cx} {lc:LC} {sc:Scope} {N:List Str} {a:I.E} {e:Expr} (hX:XI G E k X lc sc N) (h1:PE X e (T G E P (I.call P W k) a)) (h2:frO a=true->PE X e (TF G E P (I.call P W k) a)) (hc:qv e=false):SE G P W k E X a e :=
 ⟨h1,h2,fun z _=>c_e hX.K h1 (js (by unfold okT at z; rw [hc,Bool.or_false] at z; exact z))⟩
theorem SE.of1 {E:XK} {X:Cx} {lc:LC} {sc:Scope} {N:List Str} {a:I.E} {e:Expr} (hX:XI G E k X lc sc N) (h1:PE X e (T G E P (I.call P W k) a)) (hf:frO a=false) (hc:qv e=false):SE G P W k E X a e :=
 .of hX h1 (fun z=>by rw [hf] at z; exact no z) hc
theorem i9 {X:Cx} {op:BoolOp} {y:Expr} {r:List Expr} {pos:Pos} {t:TE} (h:PE X (behind op y r pos) t):PE X (.BoolOp op (y::r) pos) t:=by
 cases r with
 | nil=>exact qy h
 | cons _ _=>exact h
noncomputable def HE (G:GI) (P:I.Pg) (W k:Nat) (E:XK) (X:Cx) (ca:CE) (a:I.E):Prop:=∀ x,ca x=true->PE X x (T G E P (I.call P W k) a)
noncomputable def HA (G:GI) (P:I.Pg) (W k:Nat) (E:XK) (X:Cx) (ca:CA) (as:I.Es):Prop:=∀ xs,ca xs=true->PA X xs (Ts G E P (I.call P W k) as)/\(∀ e∈xs,noStar e=true)/\ay as=xs.length
noncomputable def SQ (G:GI) (P:I.Pg) (W k:Nat) (E:XK) (X:Cx) (c:I.C) (e:Expr):Prop:=PT X e (TCo G E P (I.call P W k) c)/\(∀ op xs pos,e=.BoolOp op xs pos->PW X e (TCo G E P (I.call P W k) c))
theorem SQ.and {E:XK} {X:Cx} {c:I.C} {y:Expr} {r:List Expr} {pos:Pos} (h:SQ G P W k E X c (behind .And y r pos)):PW X (.BoolOp .And (y::r) pos) (TCo G E P (I.call P W k) c):=by
 cases r with
 | nil=>exact vf h.1
 | cons _ _=>exact h.2 _ _ _ rfl
theorem SQ.or {E:XK} {X:Cx} {c:I.C} {y:Expr} {r:List Expr} {pos:Pos} (h:SQ G P W k E X c (behind .Or y r pos)):PW X (.BoolOp .Or (y::r) pos) (TCo G E P (I.call P W k) c):=by
 cases r with
 | nil=>exact zD h.1
 | cons _ _=>exact h.2 _ _ _ rfl
theorem EV {E:XK} {X:Cx} {as:I.Es} {args:List Expr} (h:ay as=args.length) (z:args=[]):as=.nil:=by
 subst z
 cases as with
 | nil=>rfl
 | cons _ _=>cases h
theorem B6 {a b:Bool} (h:(!a && !b)=true):a=false/\b=false:=by cases a <;> cases b <;> first | exact no h | exact ⟨rfl,rfl⟩
theorem BC {a b:Bool} (h:(a && !b)=true):a=true/\b=false:=by cases a <;> cases b <;> first | exact no h | exact ⟨rfl,rfl⟩
theorem CN {a b:Bool} (h:(!a&&b)=true):a=false/\b=true:=by cases a <;> cases b <;> first | exact no h | exact ⟨rfl,rfl⟩
theorem rA {a:I.E} (h:rZ a=true):∃ b,a=.asI b:=by cases a <;> first | exact no h | exact ⟨_,rfl⟩
theorem yf {E:XK} {X:Cx} {es:I.Es} {args:List Expr} {np pos:Pos} {tg:Expr} (hg:Gl X "range") (hm:X.mg "range" = none) (a1:PA X args (Ts G E P (I.call P W k) es)) (a2:∀ e∈args,noStar e=true) (a3:ay es=args.length) (h4:0<ay es) (h5:ay es<=3) :
  PI X tg (.Call (.Name "range" np) args [] pos) (TIr G E P (I.call P W k) (.rng es)):=by
 match es,args,a3,a1 with
 | .nil,_,_,_=>exact absurd h4 (Nat.lt_irrefl _)
 | .cons a .nil,[x],_,a1=>exact yd hg hm a1 (aJ (a2 x (.head _)))
 | .cons a (.cons b .nil),[x,y],_,a1 =>
  have s1:=aJ (es:=[]) (env:=X.env) (a2 y (.tail _ (.head _)))
  exact xB hg hm a1 (by rw [aJ (a2 x (.head _)),s1]; rfl) s1
 | .cons a (.cons b (.cons c .nil)),[x,y,z],_,a1=>exact zO hg hm a1 (aJ (a2 x (.head _))) (fh fun e he=>a2 e (.tail _ he))
 | .cons a (.cons b (.cons c (.cons d es))),_,_,_=>exact absurd h5 (by show ¬ (ay es+1+1+1+1<=3); omega)
theorem yJ {p:I.Pr} {op:Operator} {as:I.Es} (h:z0 p=some op) (z:frO (.pr p as)=true):p=.add/\op=.Add:=by
 cases p <;> first | exact no z | (cases h; done) | (cases h; exact ⟨rfl,rfl⟩)
section
variable {E:XK} {X:Cx} {lc:LC} {sc:Scope} {N:List Str} {e:Expr} {p:I.Pr} {a b c d o:I.E} {as:I.Es} {ca cb cc cd co:CE} {cA:CA}
theorem q_v {i:Nat} (hX:XI G E k X lc sc N) (h:kV sc N i e=true):SE G P W k E X (.v i) e:=by
 obtain ⟨x,np,rfl,h⟩:=aG h
 obtain ⟨h,h3⟩:=ae h
 obtain ⟨h1,h2⟩:=ae h
 exact .of1 hX (Bx (by rw [hX.nms]; exact of_decide_eq_true h1) (hX.sc.vis x h2) (bp h3).1 (bp h3).2) rfl rfl
theorem q_c {d:D} (hX:XI G E k X lc sc N) (h:(onK e fun c=>cK d c)=true):SE G P W k E X (.c d) e:=by
 obtain ⟨c,j,pos,rfl,h⟩:=m5 h
 refine .of1 hX ?_ rfl rfl
 cases d <;> cases c <;> first | exact no h | skip
 ·exact Dc
 ·obtain rfl:=eq_of_beq h; exact Ep
 ·obtain rfl:=of_decide_eq_true h; exact BD
 ·obtain rfl:=of_decide_eq_true h; exact DA
theorem q_g {i:Nat} (T0:TB G P W k cx) (hX:XI G E k X lc sc N) (h:kG cx sc i e=true):SE G P W k E X (.g i) e:=by
 obtain ⟨x,np,rfl,h⟩:=aG h
 obtain ⟨h,h3⟩:=ae h
 obtain ⟨h1,h2⟩:=ae h
 obtain ⟨u,v,m1,m2,m3⟩:=T0.gls i x (of_decide_eq_true h1)
 exact .of1 hX (zC (hX.sc.glo x h2) (by rw [hX.mg]; exact m1) m2 (bp h3).1 m3) rfl rfl
theorem Fc (hX:XI G E k X lc sc N) (ho:HE G P W k E X co o) (ha:HA G P W k E X cA as) (h:kBm p co cA e=true):SE G P W k E X (.bm p o as) e:=by
 obtain ⟨o',m,args,ap,cp,rfl,h⟩:=uQ h
 obtain ⟨h,h6⟩:=ae h
 obtain ⟨h,h5⟩:=ae h
 obtain ⟨h,h4⟩:=ae h
 obtain ⟨h,h3⟩:=ae h
 obtain ⟨h1,h2⟩:=ae h
 obtain ⟨a1,a2,a3⟩:=ha _ h3
 exact .of1 hX (Ay hX (of_decide_eq_true h1) (ho _ h2) a1 h4 a2 h5 (of_decide_eq_true h6) (EV (E:=E) (X:=X) a3)) rfl rfl
theorem Dt {f:Nat} {a:I.E} (T0:TB G P W k cx) (hX:XI G E k X lc sc N) (ha:HA G P W k E X cA as) (h:kCl cx sc f (ay as) cA e=true) (hf:frO a=false) (ht:∀ {x np args pos},PE X (.Call (.Name x np) args [] pos) (jt (spF G P W k f (ay as)) [] E (Ts G E P (I.call P W k) as))->PE X (.Call (.Name x np) args [] pos) (T G E P (I.call P W k) a)):SE G P W k E X a e:=by
 obtain ⟨x,np,args,pos,rfl,h⟩:=du h
 obtain ⟨h,h5⟩:=ae h
 obtain ⟨h,h4⟩:=ae h
 obtain ⟨h,h3⟩:=ae h
 obtain ⟨h1,h2⟩:=ae h
 obtain ⟨a1,a2,a3⟩:=ha _ h5
 exact .of1 hX (ht (vU T0 hX (of_decide_eq_true h1) h2 h3 (DL h4) a1 a2)) hf rfl
theorem B9 (hX:XI G E k X lc sc N) (ha:HE G P W k E X ca a) (hb:HE G P W k E X cb b) (h:qB ca cb e=true):SE G P W k E X (.and a b) e:=by
 obtain ⟨op,x,y,r,pos,rfl,h⟩:=dU h
 obtain ⟨rfl,h⟩:=kT h
 obtain ⟨h1,h2⟩:=ae h
 exact .of1 hX (DE (ha _ h1) (i9 (hb _ h2))) rfl rfl
theorem DR (hX:XI G E k X lc sc N) (ha:HE G P W k E X ca a) (hb:HE G P W k E X cb b) (h:kOr ca cb e=true):SE G P W k E X (.or a b) e:=by
 obtain ⟨op,x,y,r,pos,rfl,h⟩:=dU h
 obtain ⟨rfl,h⟩:=nR h
 obtain ⟨h1,h2⟩:=ae h
 exact .of1 hX (E5 (ha _ h1) (i9 (hb _ h2))) rfl rfl
theorem C1 (hX:XI G E k X lc sc N) (ha:HE G P W k E X ca a) (h:qc ca e=true):SE G P W k E X (.not a) e:=by
 obtain ⟨op,x,pos,rfl,h⟩:=gI h
 obtain ⟨rfl,h⟩:=hV h
 exact .of1 hX (Dy (ha _ h)) rfl rfl
theorem EE {c:I.C} (hX:XI G E k X lc sc N) (hc:∀ x,cc x=true->PT X x (TCo G E P (I.call P W k) c)) (ha:HE G P W k E X ca a) (hb:HE G P W k E X cb b) (h:kIf cc ca cb e=true):SE G P W k E X (.ite c a b) e:=by
 obtain ⟨c',a',b',pos,rfl,h⟩:=vJ h
 obtain ⟨h,h3⟩:=ae h
 obtain ⟨h1,h2⟩:=ae h
 exact .of1 hX (CU (hc _ h1) (ha _ h2) (hb _ h3)) rfl rfl
theorem DB (hX:XI G E k X lc sc N) (ha:HA G P W k E X cA as) (h:kTu (ay as) cA e=true):SE G P W k E X (.tup as) e:=by
 obtain ⟨xs,kk,pos,rfl,h⟩:=gW h
 obtain ⟨h1,h2⟩:=ae h
 exact .of1 hX (AB (ha _ h1).1 (of_decide_eq_true h2)) rfl rfl
theorem Bg (hX:XI G E k X lc sc N) (ha:HA G P W k E X cA as) (h:kLs (ay as) cA e=true):SE G P W k E X (.lst as) e:=by
 obtain ⟨xs,pos,rfl,h⟩:=qN h
 obtain ⟨h1,h2⟩:=ae h
 have F:=xN (G:=G) (E:=E) (P:=P) (KO:=I.call P W k) (pos:=pos) (ha _ h1).1 (of_decide_eq_true h2)
 exact .of hX (gz F lst_is) (fun _=>F) rfl
theorem yB {t:Bool} (hX:XI G E k X lc sc N) (h:jU e=true):SE G P W k E X (.dict t) e:=by
 obtain ⟨pos,rfl⟩:=mv h
 refine .of1 hX ?_ rfl rfl
 cases t
 ·exact t9
 ·exact uk
theorem Fd {nl:Nat} {fr:List Nat} {t:I.Tg} {it:I.It} {cd:I.C} {el:I.E} {ci:Expr->CE} {cc:Scope->List Str->CA} {ce:Scope->List Str->CE} (hX:XI G E k X lc sc N) (hi:∀ tg x,ci tg x=true->PI X tg x (TIr G E P (I.call P W k) it))
  (hc:∀ {X' s n},XI G E0 k X' lc0 s n->∀ es,cc s n es=true->PTs X' es (TCo G E0 P (I.call P W k) cd)) (he:∀ {X' s n},XI G E0 k X' lc0 s n->∀ x,ce s n x=true->PE X' x (T G E0 P (I.call P W k) el)) (h:kCm sc N nl fr t ci cc ce e=true):SE G P W k E X (.comp nl fr t it cd el) e:=by
 obtain ⟨elt,gs,scope,pos,rfl,h⟩:=oQ h
 obtain ⟨g,rfl,h⟩:=bN h
 obtain ⟨tg,iter,ifs,n⟩:=g
 obtain ⟨h,h7⟩:=ae h
 obtain ⟨h,h6⟩:=ae h
 obtain ⟨h,h5⟩:=ae h
 obtain ⟨h,h4⟩:=ae h
 obtain ⟨h,h3⟩:=ae h
 obtain ⟨h,h2⟩:=ae h
 obtain ⟨h0,h1⟩:=ae h
 obtain rfl:=of_decide_eq_true h0
 obtain ⟨cs,nd⟩:=qE h1 hX
 have F:=uJ (pos:=pos) cs hX.calm (hi _ _ h4) (fun fp s2 H2 C=>cT (hX.comp nd) t tg h5) (fun fp s2 H2 C=>hc (hX.comp nd) _ h6) (fun fp s2 H2 C=>he (hX.comp nd) _ h7) (me h3) h2
 exact .of hX (gz F nY) (fun _=>F) rfl
theorem Ek (hX:XI G E k X lc sc N) (ha:HE G P W k E X ca a) (h:kNg p ca e=true):SE G P W k E X (.pr p (.cons a .nil)) e:=by
 obtain ⟨op,x,pos,rfl,h⟩:=gI h
 obtain ⟨rfl,h⟩:=oS h
 obtain ⟨rfl,h⟩:=rd h
 exact .of1 hX (Ei xV C4 (ha _ h)) rfl rfl
theorem D3 (hX:XI G E k X lc sc N) (ha:HE G P W k E X ca a) (h:kS0 p ca e=true):SE G P W k E X (.pr p (.cons a .nil)) e:=by
 obtain ⟨x,i,pos,rfl,h⟩:=ck h
 obtain ⟨l,u,p2,rfl,h⟩:=ff h
 obtain ⟨rfl,h⟩:=fF h
 obtain ⟨rfl,h⟩:=fF h
 obtain ⟨b1,b2,rfl,h⟩:=gC h
 obtain ⟨h,h1⟩:=ae h
 obtain ⟨rfl,rfl⟩:=B6 h
 obtain ⟨r1,r2⟩:=A6 (p2:=p2) (pos:=pos) hX.K (ha _ h1)
 exact .of hX r1 (fun _=>r2) rfl
theorem Er (T0:TB G P W k cx) (hX:XI G E k X lc sc N) (ha:HE G P W k E X ca a) (h:kB1 sc p ca e=true):SE G P W k E X (.pr p (.cons a .nil)) e:=by
 obtain ⟨x,np,args,pos,rfl,h⟩:=du h
 obtain ⟨y,rfl,h⟩:=bN h
 obtain ⟨h,h5⟩:=ae h
 obtain ⟨h,h4⟩:=ae h
 obtain ⟨h,h3⟩:=ae h
 obtain ⟨h1,h2⟩:=ae h
 have hs:=aJ (es:=[]) (env:=X.env) h4
 obtain ⟨r1,r2⟩:=w5 (np:=np) (pos:=pos) T0 hX (of_decide_eq_true h1) h2 h3 (jY (ha _ h5) sA hs) hs rfl
 exact .of hX r1 r2 rfl
theorem Em (T0:TB G P W k cx) (hX:XI G E k X lc sc N) (ha:HE G P W k E X ca a) (h:kIn sc p ca e=true):SE G P W k E X (.pr p (.cons a .nil)) e:=by
 obtain ⟨x,np,args,pos,rfl,h⟩:=du h
 obtain ⟨y,t,rfl,h⟩:=mS h
 obtain ⟨t,tp,rfl,h⟩:=aG h
 obtain ⟨ty,rfl,h⟩:=px h
 obtain ⟨h,h6⟩:=ae h
 obtain ⟨h,h5⟩:=ae h
 obtain ⟨h,h4⟩:=ae h
 obtain ⟨h,h3⟩:=ae h
 obtain ⟨h1,h2⟩:=ae h
 obtain rfl:=of_decide_eq_true h1
 exact .of1 hX (yT T0 hX (hX.sc.glo _ h2) (hX.sc.glo _ h4) (of_decide_eq_true h3) (ha _ h6) h5) rfl rfl
theorem D7 (hX:XI G E k X lc sc N) (ha:HE G P W k E X ca a) (hb:HE G P W k E X cb b) (h:kBi p ca cb e=true):SE G P W k E X (.pr p (.cons a (.cons b .nil))) e:=by
 obtain ⟨x,op,y,pos,rfl,h⟩:=qz h
 obtain ⟨h,h3⟩:=ae h
 obtain ⟨h1,h2⟩:=ae h
 have ha:=ha _ h2
 have hb:=hb _ h3
 have h1:=of_decide_eq_true h1
 obtain ⟨r,o1,o2⟩:=BX hX h1
 refine .of hX (DK o1 o2 ha hb) (fun z => ?_) rfl
 obtain ⟨rfl,rfl⟩:=yJ h1 z
 exact PE.weak (wU (nW hX.K) ha hb) (Am zZ)
theorem DZ (hX:XI G E k X lc sc N) (ha:HE G P W k E X ca a) (hb:HE G P W k E X cb b) (h:kC1 p ca cb e=true):SE G P W k E X (.pr p (.cons a (.cons b .nil))) e:=by
 obtain ⟨x,ops,ys,pos,rfl,h⟩:=tJ h
 obtain ⟨op,rfl,h⟩:=bN h
 obtain ⟨y,rfl,h⟩:=bN h
 obtain ⟨o,rfl,h⟩:=vd h
 obtain ⟨h,h3⟩:=ae h
 obtain ⟨h1,h2⟩:=ae h
 obtain ⟨⟨r,o1,o2⟩,o3⟩:=uP hX h1
 exact ⟨Bm o1 o2 (ha _ h2) (hb _ h3) o3,fun z=>no z,fun _ _=>Be o1 o2 (ha _ h2) (hb _ h3) o3⟩
theorem EM (hX:XI G E k X lc sc N) (ha:HE G P W k E X ca a) (hb:HE G P W k E X cb b) (h:kSl p ca cb e=true):SE G P W k E X (.pr p (.cons a (.cons b .nil))) e:=by
 obtain ⟨x,i,pos,rfl,h⟩:=ck h
 obtain ⟨l,u,p2,rfl,h⟩:=ff h
 obtain ⟨l,rfl,h⟩:=dm h
 obtain ⟨rfl,h⟩:=fF h
 obtain ⟨b1,b2,rfl,h⟩:=gC h
 obtain ⟨h,h2⟩:=ae h
 obtain ⟨h,h1⟩:=ae h
 obtain ⟨rfl,rfl⟩:=BC h
 obtain ⟨r1,r2⟩:=Ao (p2:=p2) (pos:=pos) hX.K (ha _ h1) (hb _ h2)
 exact .of hX r1 (fun _=>r2) rfl
theorem DQ (hX:XI G E k X lc sc N) (ha:HE G P W k E X ca a) (hb:HE G P W k E X cb b) (h:kSu p ca cb e=true):SE G P W k E X (.pr p (.cons a (.cons b .nil))) e:=by
 obtain ⟨x,i,pos,rfl,h⟩:=ck h
 obtain ⟨l,u,p2,rfl,h⟩:=ff h
 obtain ⟨rfl,h⟩:=fF h
 obtain ⟨u,rfl,h⟩:=dm h
 obtain ⟨b1,b2,rfl,h⟩:=gC h
 obtain ⟨h,h2⟩:=ae h
 obtain ⟨h,h1⟩:=ae h
 obtain ⟨rfl,rfl⟩:=CN h
 obtain ⟨r1,r2⟩:=AQ (p2:=p2) (pos:=pos) hX.K (ha _ h1) (hb _ h2)
 exact .of hX r1 (fun _=>r2) rfl
theorem Ej (hX:XI G E k X lc sc N) (ha:HE G P W k E X ca a) (hb:HE G P W k E X cb b) (h:kIx p ca cb e=true):SE G P W k E X (.pr p (.cons a (.cons b .nil))) e:=by
 obtain ⟨x,i,pos,rfl,h⟩:=ck h
 obtain ⟨rfl,h⟩:=t6 h
 obtain ⟨h,h3⟩:=ae h
 obtain ⟨h1,h2⟩:=ae h
 exact .of1 hX (Ec (zH hX.K hX.qH) Ff (ha _ h2) (hb _ h3) (mj h1)) rfl rfl
theorem DX (T0:TB G P W k cx) (hX:XI G E k X lc sc N) (ha:HE G P W k E X ca a) (hb:HE G P W k E X cb b) (h:kB2 sc p ca cb e=true):SE G P W k E X (.pr p (.cons a (.cons b .nil))) e:=by
 obtain ⟨x,np,args,pos,rfl,h⟩:=du h
 obtain ⟨y,z,rfl,h⟩:=mS h
 obtain ⟨h,h7⟩:=ae h
 obtain ⟨h,h6⟩:=ae h
 obtain ⟨h,h5⟩:=ae h
 obtain ⟨h,h4⟩:=ae h
 obtain ⟨h,h3⟩:=ae h
 obtain ⟨h1,h2⟩:=ae h
 have s2:=aJ (es:=[]) (env:=X.env) h5
 have s1:=aJ (es:=[z]) (env:=X.env) h4
 obtain ⟨r1,r2⟩:=w5 (np:=np) (pos:=pos) T0 hX (of_decide_eq_true h1) h2 h3 (jY (ha _ h6) (jY (hb _ h7) sA s2) s1) s1 (fh fun e he=>by cases he with | head=>exact h5 | tail _ he=>cases he)
 exact .of hX r1 r2 rfl
theorem pF {a:Arguments} {x:Str} (h:oneArg a x=true):∃ g,a=⟨[],[g],none,[],[],none,[]⟩/\g.arg=x:=by
 obtain ⟨p,q,v,k,d,w,f⟩:=a
 obtain ⟨rfl,h⟩:=aV h
 obtain ⟨g,rfl,h⟩:=bN h
 obtain ⟨rfl,h⟩:=fF h
 obtain ⟨rfl,h⟩:=aV h
 obtain ⟨rfl,h⟩:=aV h
 obtain ⟨rfl,h⟩:=fF h
 obtain ⟨rfl,h⟩:=aV h
 exact ⟨_,rfl,of_decide_eq_true h⟩
theorem zr {KO:I.Orc} {t:Nat} {as:I.Es} (ρ:Fr) (os:OS) (d:D) (os':OS) (h:I.ev P KO (.pr (.srt2 t) as) ρ os=.ok d os'):∃ xs,d=.lst xs:=by
 obtain ⟨ds,os1,_,h2⟩:=bind_some (f:=fun ds os1=>I.pr (.srt2 t) ds os1) h
 cases ds with
 | nil=>cases (show (R.stk:R D)=.ok d os' from h2)
 | cons x r=>cases r with
  | cons _ _=>cases (show (R.stk:R D)=.ok d os' from h2)
  | nil =>
   have h3:R.gd (I.oP t (I.aa os1 t)=true) (R.ofO ((I.aA os1 x).bind I.jD) os1)=.ok d os':=h2
   unfold I.R.gd at h3
   split at h3
   ·cases e:(I.aA os1 x).bind I.jD with
    | none=>rw [e] at h3; cases h3
    | some y =>
     rw [e] at h3
     cases h3
     obtain ⟨xs,_,e⟩:=Option.bind_eq_some_iff.mp e
     unfold I.jD at e
     split at e
     ·obtain ⟨ks,_,rfl⟩:=Option.map_eq_some_iff.mp e
      exact ⟨_,rfl⟩
     ·cases e
   ·cases h3
theorem E9 (T0:TB G P W k cx) (hX:XI G E k X lc sc N) (ha:HE G P W k E X ca a) (h:kSr lc sc p ca e=true):SE G P W k E X (.pr p (.cons a .nil)) e:=by
 obtain ⟨f,args,kws,pos,rfl,h⟩:=eg h
 obtain ⟨x,np,rfl,h⟩:=aG h
 obtain ⟨y,rfl,h⟩:=bN h
 obtain ⟨kw,rfl,h⟩:=bN h
 obtain ⟨t,rfl,h⟩:=pC h
 obtain ⟨kn,z,kp⟩:=kw
 obtain ⟨h,h7⟩:=ae h
 obtain ⟨h,h6⟩:=ae h
 obtain ⟨h,h5⟩:=ae h
 obtain ⟨h,h4⟩:=ae h
 obtain ⟨h,h3⟩:=ae h
 obtain ⟨h1,h2⟩:=ae h
 obtain rfl:=of_decide_eq_true h1
 obtain rfl:=of_decide_eq_true h3
 obtain ⟨ar,bd,ls,lp,e7,h7⟩:=tR h7
 obtain rfl:=(show z=_ from e7)
 obtain ⟨zx,p1,j,p2,p3,rfl,h7⟩:=rL h7
 obtain ⟨h7,g6⟩:=ae h7
 obtain ⟨h7,g5⟩:=ae h7
 obtain ⟨h7,g4⟩:=ae h7
 obtain ⟨h7,g3⟩:=ae h7
 obtain ⟨g1,g2⟩:=ae h7
 obtain ⟨g,rfl,rfl⟩:=pF g1
 have hnm:=of_decide_eq_true g2
 have hloc:ls.names.lookup g.arg=some .local:=by rw [hnm]; simp
 obtain ⟨c,hcode,C,hq,hB⟩:=hX.tab t (of_decide_eq_true h6)
 have F:PE X (.Call (.Name "sorted" np) [y] [⟨some "key",.Lambda ⟨[],[g],none,[],[],none,[]⟩ (.Subscript (.Name g.arg p1) (.Constant (.int 1) j p2) p3) ls lp,kp⟩] pos) (TF G E P (I.call P W k) (.pr (.srt2 t) (.cons a .nil))) :=
  PE.weak (p5 (clos:=[]) (Ks:=rS X.K) hB hcode C hq rfl (by unfold closureFor; rw [hnm]; rfl) (by have:=hX.room.dp; omega) (hX.sc.glo _ h2) (hX.nb T0 (by decide)) (ha _ h5) (aJ h4) (fun v f c' ctv=>sR) hloc (of_decide_eq_true g3) (of_decide_eq_true g4) (of_decide_eq_true g5) (fun y hy=>by rw [hnm] at hy; rw [List.mem_singleton.mp hy]; nofun)
   (kM (of_decide_eq_true g5) hloc (bp g6).1)) (hX.K ▸ yo)
 exact .of hX (gz F zr) (fun _=>F) rfl
theorem DT (hX:XI G E k X lc sc N) (ha:HE G P W k E X ca a) (hb:HE G P W k E X cb b) (hc:HE G P W k E X cc c) (h:kSb p (rZ b) ca cb cc e=true):SE G P W k E X (.pr p (.cons a (.cons b (.cons c .nil)))) e:=by
 obtain ⟨x,i,pos,rfl,h⟩:=ck h
 obtain ⟨l,u,p2,rfl,h⟩:=ff h
 obtain ⟨l,rfl,h⟩:=dm h
 obtain ⟨u,rfl,h⟩:=dm h
 obtain ⟨b1,b2,rfl,h⟩:=gC h
 obtain ⟨h,h4⟩:=ae h
 obtain ⟨h,h3⟩:=ae h
 obtain ⟨h,h2⟩:=ae h
 obtain ⟨h,h1⟩:=ae h
 obtain ⟨rfl,rfl⟩:=ae h
 obtain ⟨b',rfl⟩:=rA h1
 obtain ⟨r1,r2⟩:=Cp (p2:=p2) (pos:=pos) hX.K (ha _ h2) (hb _ h3) (hc _ h4)
 exact .of hX r1 (fun _=>r2) rfl
theorem E8 (ha:HE G P W k E X ca a) (hA:HA G P W k E X cA as) {es:List Expr} (h:kEs ca cA es=true):PA X es (Ts G E P (I.call P W k) (.cons a as))/\(∀ e∈es,noStar e=true)/\ay (.cons a as)=es.length:=by
 obtain ⟨e,es,rfl,h⟩:=aP h
 obtain ⟨h,h3⟩:=ae h
 obtain ⟨h1,h2⟩:=ae h
 obtain ⟨i1,i2,i3⟩:=hA es h3
 refine ⟨jY (ha _ h2) i1 (aJ h1),fun z hz => ?_,congrArg (· + 1) i3⟩
 cases hz with
 | head=>exact h1
 | tail _ hz=>exact i2 z hz
theorem w_and {a b:I.C} (ha:∀ x,ca x=true->SQ G P W k E X a x) (hb:∀ x,cb x=true->SQ G P W k E X b x) (h:qB ca cb e=true):SQ G P W k E X (.and a b) e:=by
 obtain ⟨op,x,y,r,pos,rfl,h⟩:=dU h
 obtain ⟨rfl,h⟩:=kT h
 obtain ⟨h1,h2⟩:=ae h
 have F:=BS (pos:=pos) (ha x h1).1 (SQ.and (hb _ h2))
 exact ⟨F.pt,fun _ _ _ _=>F⟩
theorem w_or {a b:I.C} (ha:∀ x,ca x=true->SQ G P W k E X a x) (hb:∀ x,cb x=true->SQ G P W k E X b x) (h:kOr ca cb e=true):SQ G P W k E X (.or a b) e:=by
 obtain ⟨op,x,y,r,pos,rfl,h⟩:=dU h
 obtain ⟨rfl,h⟩:=nR h
 obtain ⟨h1,h2⟩:=ae h
 have F:=Ee (pos:=pos) (ha x h1).1 (SQ.or (hb _ h2))
 exact ⟨F.pt,fun _ _ _ _=>F⟩
theorem w_not {a:I.C} (ha:∀ x,ca x=true->SQ G P W k E X a x) (h:qc ca e=true):SQ G P W k E X (.not a) e:=by
 obtain ⟨op,x,pos,rfl,h⟩:=gI h
 obtain ⟨rfl,h⟩:=hV h
 exact ⟨Ds (ha x h).1,fun op xs pos z=>nomatch z⟩
theorem w_e (ha:∀ x,ca x=true->SE G P W k E X a x) (h:(okT e && !wrap a&&ca e)=true):SQ G P W k E X (.e a) e:=by
 obtain ⟨h,h3⟩:=ae h
 obtain ⟨h1,h2⟩:=ae h
 exact ⟨(ha e h3).2.2 h1 (by cases hw:wrap a <;> first | rfl | (rw [hw] at h2; exact no h2)),fun op xs pos z=>by subst z; exact no h1⟩
theorem jx {c:I.C} {es:List Expr} {q:Expr->Bool} (hq:∀ x,q x=true->SQ G P W k E X c x) (h:on1 es q=true):PTs X es (TCo G E P (I.call P W k) c):=by
 obtain ⟨e,rfl,h⟩:=bN h
 exact xG (hq e h).1
theorem DU {tg:Expr} (T0:TB G P W k cx) (hX:XI G E k X lc sc N) (hA:HA G P W k E X cA as) (h:kRn sc (ay as) cA e=true):PI X tg e (TIr G E P (I.call P W k) (.rng as)):=by
 obtain ⟨x,np,args,pos,rfl,h⟩:=du h
 obtain ⟨h,h3⟩:=ae h
 obtain ⟨h,h5⟩:=ae h
 obtain ⟨h,h4⟩:=ae h
 obtain ⟨h1,h2⟩:=ae h
 obtain rfl:=of_decide_eq_true h1
 obtain ⟨a1,a2,a3⟩:=hA _ h3
 exact yf (hX.sc.glo _ h2) (hX.nb T0 (x := "range") (by decide)) a1 a2 a3 (of_decide_eq_true h4) (of_decide_eq_true h5)
end
mutual
theorem sE (T0:TB G P W k cx):∀ (a:I.E) {E:XK} {X:Cx} {lc:LC} {sc:Scope} {N:List Str} (e:Expr),XI G E k X lc sc N->aC cx lc sc N a e=true->SE G P W k E X a e
 | .v i,E,X,lc,sc,N,e,hX,h=>q_v hX h
 | .c d,E,X,lc,sc,N,e,hX,h=>q_c hX h
 | .g i,E,X,lc,sc,N,e,hX,h=>q_g T0 hX h
 | .pr p es,E,X,lc,sc,N,e,hX,h=>sP T0 p es e hX h
 | .bm p o es,E,X,lc,sc,N,e,hX,h=>Fc hX (fun x z=>(sE T0 o x hX z).1) (fun xs z=>sEs T0 es xs hX z) h
 | .call f es,E,X,lc,sc,N,e,hX,h=>Dt T0 hX (fun xs z=>sEs T0 es xs hX z) h rfl (fun z=>PE.weak z (zj rfl))
 | .callP f es,E,X,lc,sc,N,e,hX,h=>Dt T0 hX (fun xs z=>sEs T0 es xs hX z) h rfl (fun z=>PE.weak z (ve rfl))
 | .and a b,E,X,lc,sc,N,e,hX,h=>B9 hX (fun x z=>(sE T0 a x hX z).1) (fun x z=>(sE T0 b x hX z).1) h
 | .or a b,E,X,lc,sc,N,e,hX,h=>DR hX (fun x z=>(sE T0 a x hX z).1) (fun x z=>(sE T0 b x hX z).1) h
 | .not a,E,X,lc,sc,N,e,hX,h=>C1 hX (fun x z=>(sE T0 a x hX z).1) h
 | .ite c a b,E,X,lc,sc,N,e,hX,h=>EE hX (fun x z=>(sC T0 c x hX z).1) (fun x z=>(sE T0 a x hX z).1) (fun x z=>(sE T0 b x hX z).1) h
 | .tup es,E,X,lc,sc,N,e,hX,h=>DB hX (fun xs z=>sEs T0 es xs hX z) h
 | .lst es,E,X,lc,sc,N,e,hX,h=>Bg hX (fun xs z=>sEs T0 es xs hX z) h
 | .cell a,E,X,lc,sc,N,e,hX,h=>⟨Ae ((sE T0 a e hX (ae h).2).2.1 (ae h).1),fun z=>no z,fun _ z=>nomatch z⟩
 | .dict t,E,X,lc,sc,N,e,hX,h=>yB hX h
 | .fz a,E,X,lc,sc,N,e,hX,h=>⟨EB (sE T0 a e hX h).1,fun z=>no z,fun _ z=>nomatch z⟩
 | .asI a,E,X,lc,sc,N,e,hX,h=>no h
 | .comp nl fr t it cd el,E,X,lc,sc,N,e,hX,h=>Fd hX (fun tg x z=>sI T0 it tg x hX z) (fun hX' es z=>sCo T0 cd es hX' z) (fun hX' x z=>(sE T0 el x hX' z).1) h
 | .meth m o es,E,X,lc,sc,N,e,hX,h=>no h
 | .methP m o es,E,X,lc,sc,N,e,hX,h=>no h
 | .mk c es,E,X,lc,sc,N,e,hX,h=>no h
 | .fld o f,E,X,lc,sc,N,e,hX,h=>no h
 | .chain o1 o2 a b c,E,X,lc,sc,N,e,hX,h=>no h
 | .chain3 o1 o2 o3 a b c d,E,X,lc,sc,N,e,hX,h=>no h
 | .sortK _ _,E,X,lc,sc,N,e,hX,h=>no h
theorem sP (T0:TB G P W k cx) (p:I.Pr):∀ (as:I.Es) {E:XK} {X:Cx} {lc:LC} {sc:Scope} {N:List Str} (e:Expr),XI G E k X lc sc N->Dg cx lc sc N p as e=true->SE G P W k E X (.pr p as) e
 | .nil,E,X,lc,sc,N,e,hX,h=>no h
 | .cons a .nil,E,X,lc,sc,N,e,hX,h =>
  have ha:HE G P W k E X (aC cx lc sc N a) a:=fun x z=>(sE T0 a x hX z).1
  (or2 h).elim (Ek hX ha) fun h=>(or2 h).elim (D3 hX ha) fun h=>(or2 h).elim (Er T0 hX ha) fun h=>(or2 h).elim (Em T0 hX ha) (E9 T0 hX ha)
 | .cons a (.cons b .nil),E,X,lc,sc,N,e,hX,h =>
  have ha:HE G P W k E X (aC cx lc sc N a) a:=fun x z=>(sE T0 a x hX z).1
  have hb:HE G P W k E X (aC cx lc sc N b) b:=fun x z=>(sE T0 b x hX z).1
  (or2 h).elim (D7 hX ha hb) fun h=>(or2 h).elim (DZ hX ha hb) fun h=>(or2 h).elim (EM hX ha hb) fun h=>(or2 h).elim (DQ hX ha hb) fun h=>(or2 h).elim (Ej hX ha hb) (DX T0 hX ha hb)
 | .cons a (.cons b (.cons c .nil)),E,X,lc,sc,N,e,hX,h=>DT hX (fun x z=>(sE T0 a x hX z).1) (fun x z=>(sE T0 b x hX z).1) (fun x z=>(sE T0 c x hX z).1) h
 | .cons a (.cons b (.cons c (.cons d r))),E,X,lc,sc,N,e,hX,h=>no h
theorem sEs (T0:TB G P W k cx):∀ (as:I.Es) {E:XK} {X:Cx} {lc:LC} {sc:Scope} {N:List Str} (es:List Expr),XI G E k X lc sc N->eD cx lc sc N as es=true ->
  PA X es (Ts G E P (I.call P W k) as)/\(∀ e∈es,noStar e=true)/\ay as=es.length
 | .nil,E,X,lc,sc,N,es,hX,h=>by
  obtain ⟨rfl,_⟩:=aV h
  exact ⟨sA,fun _ z=>(by cases z),rfl⟩
 | .cons a as,E,X,lc,sc,N,es,hX,h=>E8 (fun x z=>(sE T0 a x hX z).1) (fun xs z=>sEs T0 as xs hX z) h
theorem sC (T0:TB G P W k cx):∀ (c:I.C) {E:XK} {X:Cx} {lc:LC} {sc:Scope} {N:List Str} (e:Expr),XI G E k X lc sc N->eV cx lc sc N c e=true->SQ G P W k E X c e
 | .tt,E,X,lc,sc,N,e,hX,h=>no h
 | .e a,E,X,lc,sc,N,e,hX,h=>w_e (fun x z=>sE T0 a x hX z) h
 | .and a b,E,X,lc,sc,N,e,hX,h=>w_and (fun x z=>sC T0 a x hX z) (fun x z=>sC T0 b x hX z) h
 | .or a b,E,X,lc,sc,N,e,hX,h=>w_or (fun x z=>sC T0 a x hX z) (fun x z=>sC T0 b x hX z) h
 | .not a,E,X,lc,sc,N,e,hX,h=>w_not (fun x z=>sC T0 a x hX z) h
theorem sCo (T0:TB G P W k cx):∀ (c:I.C) {E:XK} {X:Cx} {sc:Scope} {N:List Str} (es:List Expr),XI G E k X lc0 sc N->wX cx sc N c es=true->PTs X es (TCo G E P (I.call P W k) c)
 | .tt,E,X,sc,N,es,hX,h=>by
  obtain ⟨rfl,_⟩:=aV h
  exact yP
 | .e a,E,X,sc,N,es,hX,h=>jx (fun y z=>w_e (fun x z=>sE T0 a x hX z) z) h
 | .and a b,E,X,sc,N,es,hX,h=>jx (fun y z=>w_and (fun x z=>sC T0 a x hX z) (fun x z=>sC T0 b x hX z) z) h
 | .or a b,E,X,sc,N,es,hX,h=>jx (fun y z=>w_or (fun x z=>sC T0 a x hX z) (fun x z=>sC T0 b x hX z) z) h
 | .not a,E,X,sc,N,es,hX,h=>jx (fun y z=>w_not (fun x z=>sC T0 a x hX z) z) h
theorem sI (T0:TB G P W k cx):∀ (it:I.It) {E:XK} {X:Cx} {lc:LC} {sc:Scope} {N:List Str} (tg e:Expr),XI G E k X lc sc N->y1 cx lc sc N tg it e=true ->
  PI X tg e (TIr G E P (I.call P W k) it)
 | .seq a,E,X,lc,sc,N,tg,e,hX,h=>BW hX.K (sE T0 a e hX h).1
 | .rng es,E,X,lc,sc,N,tg,e,hX,h=>DU T0 hX (fun xs z=>sEs T0 es xs hX z) h
 | .enum s a,E,X,lc,sc,N,tg,e,hX,h=>no h
 | .zip _ _,E,X,lc,sc,N,tg,e,hX,h=>no h
 | .zrev a b,E,X,lc,sc,N,tg,e,hX,h=>no h
 | .rev a,E,X,lc,sc,N,tg,e,hX,h=>no h
end
end
end IS
namespace IS
open PySem PySem.Spec L2
open PyProof.Rows hiding St
open I (D Cell OS Fr R SZ Kt Ko)
theorem qY {s:Stmt} {p:Stmt->Str->Str->List Stmt->Bool} (h:wD s p=true):∃ b x np n b0 su hp pos,s=.Try [b] [.ExceptHandler (some (.Name x np)) (some n) (b0::su) hp] [] [] pos/\p b x n (b0::su)=true:=by
 cases s <;> try exact no h
 rename_i b hs o f pos
 obtain ⟨rfl,h⟩:=aV h
 obtain ⟨rfl,h⟩:=aV h
 obtain ⟨b,rfl,h⟩:=bN h
 obtain ⟨⟨t,n,su,hp⟩,rfl,h⟩:=bN h
 obtain ⟨t,rfl,h⟩:=dm h
 obtain ⟨x,np,rfl,h⟩:=aG h
 obtain ⟨n,rfl,h⟩:=dm h
 obtain ⟨b0,su,rfl,h⟩:=aP h
 exact ⟨_,_,_,_,_,_,_,_,rfl,h⟩
theorem jC {e:Expr} {p:BoolOp->List Expr->Pos->Bool} (h:vC e p=true):∃ op es pos,e=.BoolOp op es pos/\p op es pos=true:=by
 cases e <;> first | exact no h | exact ⟨_,_,_,rfl,h⟩
theorem qG:∀ {ts:List Expr} {l:List (Str × Pos)},tnm ts=some l->ts=l.map fun t=>.Name t.1 t.2
 | [],_,h=>by cases h; rfl
 | e::r,l,h=>by
  cases e with
  | Name x p =>
   obtain ⟨l',h1,rfl⟩:=Option.map_eq_some_iff.mp (show (tnm r).map ((x,p) :: ·)=some l from h)
   rw [qG h1]; rfl
  | _=>cases h
section
variable {G:GI} {E:XK} {P:I.Pg} {W k:Nat} {X Y:Cx} {lc:LC} {sc:Scope} {N:List Str} {cx:CI}
theorem XI.bT (hX:XI G E k X lc sc N) (xe:Value->Shared->Prop) (pn:List (Addr × Obj)):XI G E0 k (X.bT xe pn) lc sc N :=
 ⟨hX.prog,hX.w,hX.K,hX.mg,hX.base,hX.nms,hX.nd,⟨hX.sc.vis,hX.sc.glo,hX.sc.asg,hX.sc.cel⟩,hX.calm,hX.room,r9,hX.tab⟩
structure HF (Y:Cx) (ea C:Addr) (oe:Obj) (sc:Scope) (N:List Str) (i:Nat) (n:Str) (kt:Str->Option Bool):Prop where
 nms:Y.N=N
 nd:N.Nodup
 sc:SC Y true sc
 pin:(ea,oe)∈Y.pn
 cls:oe.cls=.ref C
 exc:PySem.W.ExC Y.K C
 kv:PySem.W.kitOne Y.K (.ref C) (.type "ValueError")=some true
 nv:Y.mg "ValueError" = none
 ni:Y.mg "isinstance" = none
 kt:∀ x b,kt x=some b->∃ A,Y.mg x=some (.ref A)/\PySem.W.kitOne Y.K (.ref C) (.ref A)=some b
 hi:N[i]?=some n
 vn:Vis Y.env.scope n
 ok:okN n=true
variable {ea C:Addr} {oe:Obj} {i:Nat} {n:Str} {kt:Str->Option Bool} {σ:St} {κ:List (Nat × Bool)}
theorem e9 (F:HF Y ea C oe sc N i n kt) (hσ:σ[i]?=some (some (.ref ea))) (hκ:∀ j b,κ.lookup j=some b->σ[j]?=some (some (.bl b))):∀ (h:I.HE) (e:Expr),eB kt sc N n κ h e=true->HT Y σ e h.val
 | .inst b,e,h=>by
  obtain ⟨f,as,kws,pos,rfl,h⟩:=eg h
  obtain ⟨g,gp,rfl,h⟩:=aG h
  obtain ⟨rfl,h⟩:=aV h
  obtain ⟨h,h3⟩:=ae h
  obtain ⟨h1,h2⟩:=ae h
  have e1:=of_decide_eq_true h1
  subst e1
  obtain ⟨a,t,rfl,g3⟩:=mS h3
  obtain ⟨m,mp,rfl,g4⟩:=aG g3
  obtain ⟨h4,h5⟩:=ae g4
  have e2:=of_decide_eq_true h4
  subst e2
  have hN:Y.N[i]?=some m:=by rw [F.nms]; exact F.hi
  unfold kIs at h5
  rcases or2 h5 with h5 | h5
  ·obtain ⟨x,xp,rfl,h5⟩:=aG h5
   rcases or2 h5 with h5 | h5
   ·obtain ⟨h5,h8⟩:=ae h5
    obtain ⟨h6,h7⟩:=ae h5
    have e3:=of_decide_eq_true h6
    subst e3
    cases b with
    | false=>cases h7
    | true=>exact HT.inst (w:=.ty "ValueError") F.pin F.cls F.exc (dY (F.sc.glo _ h8) F.nv PyProof.Rows.Boot.ValueError rfl) rfl F.kv hN F.vn hσ (bp F.ok).1 (bp F.ok).2 (F.sc.glo _ h2) F.ni
   ·obtain ⟨h5,h8⟩:=ae h5
    obtain ⟨h6,h7⟩:=ae h5
    obtain ⟨A,m1,m2⟩:=F.kt x b (of_decide_eq_true h6)
    exact HT.inst (w:=.ref A) F.pin F.cls F.exc (jw (F.sc.glo _ h7) m1 rfl (bp h8).1) rfl m2 hN F.vn hσ (bp F.ok).1 (bp F.ok).2 (F.sc.glo _ h2) F.ni
  ·obtain ⟨ts,j,tp,rfl,h5⟩:=gW h5
   obtain ⟨l,hl,h5⟩:=dm h5
   obtain ⟨h5,h8⟩:=ae h5
   obtain ⟨h6,h7⟩:=ae h5
   rw [qG hl]
   have hb:=of_decide_eq_true h8
   have ha:=List.all_eq_true.mp h7
   have:=HT.A8 (Y:=Y) (σ:=σ) (ts:=l) (bs:=l.map fun t=>(kt t.1).getD false) (x1:=j) (np:=mp) (cpos:=pos) (ip:=gp) (tp:=tp) F.pin F.cls F.exc F.kt (by
    rw [List.map_map]
    refine List.map_congr_left fun t ht => ?_
    have:=(ae (ae (ha t ht)).1).1
    show kt t.1=some ((kt t.1).getD false)
    cases e:kt t.1 with
    | none=>rw [e] at this; cases this
    | some b=>rfl) (fun t ht=>⟨F.sc.glo _ (ae (ae (ha t ht)).1).2,(bp (ae (ha t ht)).2).1⟩) (by have:=of_decide_eq_true h6; rw [sizeLine_eq]; omega) hN F.vn hσ (bp F.ok).1 (bp F.ok).2 (F.sc.glo _ h2) F.ni
   rw [List.any_map] at this
   rw [<-hb]
   exact this
 | .v j b,e,h=>by
  obtain ⟨x,xp,rfl,h⟩:=aG h
  obtain ⟨h,h4⟩:=ae h
  obtain ⟨h,h3⟩:=ae h
  obtain ⟨h1,h2⟩:=ae h
  exact HT.var (by rw [F.nms]; exact of_decide_eq_true h1) (F.sc.vis x h2) (hκ j b (of_decide_eq_true h4)) (bp h3).1 (bp h3).2
 | .k b,e,h=>by
  obtain ⟨c,j,pos,rfl,h⟩:=m5 h
  rw [of_decide_eq_true h]
  exact HT.k
 | .not a,e,h=>by
  obtain ⟨op,x,pos,rfl,h⟩:=gI h
  obtain ⟨rfl,h⟩:=hV h
  exact HT.not (e9 F hσ hκ a x h)
 | .one a,e,h=>by
  obtain ⟨op,es,pos,rfl,h⟩:=jC h
  obtain ⟨x,rfl,h⟩:=bN h
  exact HT.one (e9 F hσ hκ a x h)
 | .and a b,e,h=>by
  obtain ⟨op,es,pos,rfl,h⟩:=jC h
  obtain ⟨h0,h⟩:=ae h
  obtain ⟨x,r,rfl,g⟩:=aP h
  obtain ⟨y,z,rfl,g⟩:=aP g
  obtain ⟨h1,h2⟩:=ae g
  cases op with
  | And=>exact HT.and (e9 F hσ hκ a x h1) (e9 F hσ hκ b _ h2)
  | Or=>cases h0
 | .or a b,e,h=>by
  obtain ⟨op,es,pos,rfl,h⟩:=jC h
  obtain ⟨h0,h⟩:=ae h
  obtain ⟨x,r,rfl,g⟩:=aP h
  obtain ⟨y,z,rfl,g⟩:=aP g
  obtain ⟨h1,h2⟩:=ae g
  cases op with
  | Or=>exact HT.or (e9 F hσ hκ a x h1) (e9 F hσ hκ b _ h2)
  | And=>cases h0
theorem rC (F:HF Y ea C oe sc N i n kt):∀ (h:List I.HS) (ss:List Stmt) (κ:List (Nat × Bool)) (σ:St),lb kt sc N n i κ h ss=true->σ[i]?=some (some (.ref ea))->(∀ j b,κ.lookup j=some b->σ[j]?=some (some (.bl b)))->σ.length=N.length->HQ Y σ ss (I.lz h).1 (I.lz h).2
 | [],ss,κ,σ,h,_,_,_=>by
  obtain ⟨rfl,_⟩:=aV h
  exact HQ.nil
 | .set j e::hr,ss,κ,σ,h,hσ,hκ,hl=>by
  obtain ⟨s,r,rfl,h⟩:=aP h
  obtain ⟨h,hr'⟩:=ae h
  obtain ⟨t,x,pos,rfl,h⟩:=gA h
  obtain ⟨y,yp,rfl,h⟩:=aG h
  obtain ⟨h,h5⟩:=ae h
  obtain ⟨h,h4⟩:=ae h
  obtain ⟨h,h3⟩:=ae h
  obtain ⟨h1,h2⟩:=ae h
  have hj:=of_decide_eq_true h1
  have ne:=of_decide_eq_true h4
  have hlt:j<σ.length:=by rw [hl]; exact (List.getElem?_eq_some_iff.mp hj).1
  obtain ⟨a1,a2⟩:=F.sc.asg y h2
  refine HQ.set (by rw [F.nms]; exact F.nd) (by rw [F.nms]; exact hj) a1 a2 (fB h3) (e9 F hσ hκ e x h5) (rC F hr r _ _ hr' ?_ (fun j' b' hb => ?_) (by rw [List.length_set]; exact hl))
  ·rw [List.getElem?_set_ne ne]; exact hσ
  ·by_cases z:j'=j
   ·subst z
    rw [List.lookup_cons,beq_self_eq_true] at hb
    cases hb
    rw [List.getElem?_set_self hlt]
   ·rw [List.lookup_cons,beq_eq_false_iff_ne.mpr z] at hb
    rw [List.getElem?_set_ne (Ne.symm z)]
    exact hκ j' b' hb
 | .skip t::hr,ss,κ,σ,h,hσ,hκ,hl=>by
  obtain ⟨s,r,rfl,h⟩:=aP h
  obtain ⟨h,hr'⟩:=ae h
  obtain ⟨e,b,els,pos,rfl,h⟩:=lJ h
  obtain ⟨rfl,h⟩:=aV h
  obtain ⟨h,h3⟩:=ae h
  obtain ⟨h1,h2⟩:=ae h
  have ht:=e9 F hσ hκ t e h3
  have tv:t.val=false:=by simpa using h1
  rw [tv] at ht
  exact HQ.skip ht (js h2) (rC F hr r κ σ hr' hσ hκ hl)
 | .ret e::hr,ss,κ,σ,h,hσ,hκ,hl=>by
  obtain ⟨s,r,rfl,h⟩:=aP h
  obtain ⟨x,pos,rfl,h⟩:=lB h
  obtain ⟨x,rfl,h⟩:=dm h
  exact HQ.ret (e9 F hσ hκ e x h)
end
section
variable {G:GI} {ι:List Addr} {Hf H H':Hp} {os:OS} {σ:St} {ρ:Fr}
theorem Rel.up (r:Rel G ι Hf H os) (h:aK H H'):Rel G ι Hf H' os :=
 ⟨r.len,r.sub.trans h,fun n c hc=>let ⟨a,h1,h2,h3⟩:=r.cell n c hc; ⟨a,h1,h2,h3.ext .refl fun o q=>h a o q⟩,r.inj⟩
theorem Rf.un (o:Option V):∀ {σ:St} {ρ:Fr} (i:Nat),Rf G ι Hf σ ρ->Rf G ι Hf (σ.set i o) (ρ.set i none)
 | _,_,_,.nil=>.nil
 | _,_,0,.no r=>.no r
 | _,_,0,.so _ r=>.no r
 | _,_,i+1,.no r=>.no (Rf.un o i r)
 | _,_,i+1,.so h r=>.so h (Rf.un o i r)
theorem lS:∀ (ρ:Fr) (j:Nat) (d:D),I.st ρ j d=ρ.set j (some d)
 | [],_,_=>rfl
 | _::_,0,_=>rfl
 | _::r,j+1,d=>congrArg (List.cons _) (lS r j d)
theorem Rf.sets (i:Nat):∀ (ws:List (Nat × Bool)) {σ:St} {ρ:Fr},Rf G ι Hf (σ.set i none) (ρ.set i none)->Rf G ι Hf ((vW ws σ).set i none) ((I.pT ws ρ).set i none)
 | [],_,_,h=>h
 | (j,b)::ws,σ,ρ,h=>by
  refine Rf.sets i ws (σ:=σ.set j (some (.bl b))) (ρ:=I.st ρ j (.bl b)) ?_
  by_cases e:j=i
  ·subst e
   rw [List.set_set,lS,List.set_set]
   exact h
  ·have:=Rf.st (.bl b) j h
   rw [lS] at this ⊢
   rw [List.set_comm _ _ e,List.set_comm _ _ e]
   exact this
end
theorem rP {α:Type} {c:Nat} {v:α}:∀ {l:List (Nat × α)},l.lookup c=some v->(c,v)∈l
 | [],h=>by cases h
 | (d,w)::r,h=>by
  rw [List.lookup_cons] at h
  by_cases e:c=d
  ·subst e
   rw [beq_self_eq_true] at h
   cases h
   exact .head _
  ·rw [beq_eq_false_iff_ne.mpr e] at h
   exact .tail _ (rP h)
section
variable {G:GI} {E:XK} {P:I.Pg} {W k:Nat} {X:Cx} {lc:LC} {sc:Scope} {N:List Str} {cx:CI} {as:I.Es} {cA:CA} {s:Stmt}
theorem tm (T0:TB G P W k cx) (hX:XI G E k X lc sc N) (hlc:lc.c=true) (hs:X.stack=X.env::X.outer) (hf:X.env.frame=some X.env.locals) (hsc:X.env.scope=sc) {i:Nat} {hs':List (Nat × List I.HS)} {x n:Str} {b0 b1:Stmt} {su:List Stmt} {np hp pos:Pos} {pins:List (Addr × Obj)} {s:Shared} {σ:St} {H Hf:Hp} {D:Ends} {ι:List Addr} {ρ:Fr} {r:R I.D}
  (hNi:N[i]?=some n) (hln:sc.names.lookup n=some .local) (k7:cB sc x=true) (k8:okN x=true) (k11:okN n=true) (k14:(!hs'.isEmpty)=true) (ha:∀ h∈hs',(cx.xm h.1 x&&lb (cx.kt h.1) sc N n i [] h.2 (b0::su))=true)
  (J0:Inv X pins σ H s) (rf:Rf G ι Hf σ ρ) (w:WR G E ι Hf (I.m8 i hs' ρ r) (WS G D))
  (body:∀ (xe:Value->Shared->Prop),(∀ H1 s1 e s',Inv (X.bT xe (X.pn++pins)) [] σ H1 s1->CXE X.prog X.w X.stack H1 s1 (fun v _ H'=>∃ c p os2,r=.exc c p os2/\v=.ref (G.CA c)/\∃ ι2 Hf2,Ext ι Hf ι2 Hf2/\Rel G ι2 Hf2 H' os2) e s'->xe e s')->Inv (X.bT xe (X.pn++pins)) [] σ H s ->
   wpAny (model X.prog X.w) X.A (exec b1 X.env) (SP (X.bT xe (X.pn++pins)) [] D) xe s) :
  wpAny (model X.prog X.w) X.A (exec (.Try [b1] [.ExceptHandler (some (.Name x np)) (some n) (b0::su) hp] [] [] pos) X.env) (SP X pins D) X.xe s:=by
 obtain ⟨c0,h0,hs0,rfl⟩:∃ c0 h0 r0,hs'=(c0,h0)::r0:=by
  cases hs' with
  | nil=>cases k14
  | cons p r0=>exact ⟨p.1,p.2,r0,rfl⟩
 obtain ⟨⟨vx,m0,_⟩,_,_⟩:=T0.hn.ex c0 x (ae (ha _ (.head _))).1
 refine yW (Ex:=fun v _ H'=>∃ c p os2,r=.exc c p os2/\v=.ref (G.CA c)/\∃ ι2 Hf2,Ext ι Hf ι2 Hf2/\Rel G ι2 Hf2 H' os2) (c:=vx) J0 hs hf (by rw [hX.nms]; exact hX.nd) (by rw [hX.nms]; exact hNi) (by rw [hsc]; exact hln) (by rw [hX.mg]; exact m0) body (fun cls H' hE => ?_) (hX.sc.glo _ k7) (bp k8).1
 ·obtain ⟨c,p,os2,rfl,rfl,ι2,Hf2,x2,r2⟩:=hE
  have w:WR G E ι Hf (I.hdl i ρ os2 (((c0,h0)::hs0).lookup c)) (WS G D):=w
  cases hlk:((c0,h0)::hs0).lookup c with
  | none=>rw [hlk] at w; exact w.elim
  | some hh =>
  rw [hlk] at w
  have hmem:(c,hh)∈(c0,h0)::hs0:=rP hlk
  obtain ⟨q1,q2⟩:=ae (ha _ hmem)
  obtain ⟨⟨vx',m1,m2⟩,m3,m4⟩:=T0.hn.ex c x q1
  rw [m0] at m1
  cases m1
  refine ⟨by rw [hX.K]; exact m2,fun a oe pn s7 na hpn hoe J => ?_⟩
  have F:HF (X.fQ a pn) a (G.CA c) oe sc N i n (cx.kt c) :=
   ⟨hX.nms,hX.nd,⟨hX.sc.vis,hX.sc.glo,fun x h=>hX.sc.asg x (by rw [hlc]; exact h),hX.sc.cel⟩,hpn,hoe,by show PySem.W.ExC X.K _; rw [hX.K]; exact m3,by show PySem.W.kitOne X.K _ _=_; rw [hX.K]; exact m4,hX.nb T0 (by decide),hX.nb T0 (by decide),fun y b hy=>by
    obtain ⟨A,n1,n2⟩:=T0.hn.kt c y b hy
    exact ⟨A,by show X.mg y=_; rw [hX.mg]; exact n1,by show PySem.W.kitOne X.K _ _=_; rw [hX.K]; exact n2⟩,hNi,hX.sc.vis n (by unfold pL; rw [hln]),k11⟩
  have hlen:σ.length=N.length:=by rw [J0.len,hX.nms]
  have hi':i<σ.length:=by rw [hlen]; exact (List.getElem?_eq_some_iff.mp hNi).1
  refine rC F hh (b0::su) [] (σ.set i (some (.ref a))) q2 (by rw [List.getElem?_set_self hi']) (fun _ _ z=>by cases z) (by rw [List.length_set]; exact hlen) [] s7 H' (BE i D) J fun H'' sm => ?_
  have r3:=r2.up sm
  have w:WR G E ι Hf (match I.lz hh with | (ws,none)=>.ok (.nx,(I.pT ws ρ).set i none) os2 | (_,some b)=>.ok (.rt (.bl b),ρ) os2) (WS G D):=w
  generalize I.lz hh=out at w
  obtain ⟨ws,rt⟩:=out
  cases rt with
  | none =>
   have w2:=(w.ext x2).now r3
   refine w2 _ (Rf.sets i ws ?_)
   rw [List.set_set]
   exact (rf.ext x2).un none i
  | some b=>exact (w.ext x2).now r3 _ (.bl b)
theorem BH (T0:TB G P W k cx) (hX:XI G E k X lc sc N) (hlc:lc.c=true) (hs:X.stack=X.env::X.outer) (hf:X.env.frame=some X.env.locals) (hsc:X.env.scope=sc)
  (hA:∀ (xe:Value->Shared->Prop) (pn:List (Addr × Obj)),HA G P W k E0 (X.bT xe pn) cA as) {f i:Nat} {hs':List (Nat × List I.HS)} (h:AS cx sc N f (ay as) i hs' cA s=true):PS X s (TSt G E P (I.call P W k) W (.tryC f as i hs')):=by
 obtain ⟨b,x,np,n,b0,su,hp,pos,rfl,h⟩:=qY h
 obtain ⟨e,ep,rfl,h⟩:=oh h
 obtain ⟨gx,gp,gas,cp,rfl,h⟩:=du h
 obtain ⟨h,k14⟩:=ae h
 obtain ⟨h,k13⟩:=ae h
 obtain ⟨h,k12⟩:=ae h
 obtain ⟨h,k11⟩:=ae h
 obtain ⟨h,k10⟩:=ae h
 obtain ⟨h,k9⟩:=ae h
 obtain ⟨h,k8⟩:=ae h
 obtain ⟨h,k7⟩:=ae h
 obtain ⟨h,k6⟩:=ae h
 obtain ⟨h,k5⟩:=ae h
 obtain ⟨h,k4⟩:=ae h
 obtain ⟨h,k3⟩:=ae h
 obtain ⟨k1,k2⟩:=ae h
 cases gas with
 | nil=>cases k4
 | cons e0 es0 =>
 have hNi:=of_decide_eq_true k9
 have hln:=of_decide_eq_true k10
 have ha:=List.all_eq_true.mp k13
 intro pins s σ H D J0 ⟨ι,Hf,ρ,os,rel,rf,w⟩
 have w:WR G E ι Hf (I.jy (k:=⟨fun ds os1=>I.m8 i hs' ρ (I.call P W k f ds os1)⟩) (I.evs P (I.call P W k) as ρ os)) (WS G D):=w
 cases hev:I.evs P (I.call P W k) as ρ os with
 | stk=>rw [hev] at w; exact w.elim
 | exc c p os1=>rw [hev] at w; exact w.elim
 | ok ds os1 =>
 rw [hev] at w
 have w:WR G E ι Hf (I.m8 i hs' ρ (I.call P W k f ds os1)) (WS G D):=w
 generalize hr:I.call P W k f ds os1=r at w
 obtain ⟨ps,CC⟩:=T0.fns f gx _ (of_decide_eq_true k1)
 refine tm T0 hX hlc hs hf hsc hNi hln k7 k8 k11 k14 ha J0 rf w fun xe hx I0 => ?_
 obtain ⟨pa,st,el⟩:=hA xe (X.pn++pins) _ k6
 have C':pH (X.bT xe (X.pn++pins)).prog (X.bT xe (X.pn++pins)).w (X.bT xe (X.pn++pins)).K (X.bT xe (X.pn++pins)).mg (X.bT xe (X.pn++pins)).base gx (2 * k) ps (spF G P W k f (ay as)):=by
  show pH X.prog X.w X.K X.mg X.base gx (2 * k) ps _
  rw [hX.prog,hX.w,hX.K,hX.mg,hX.base]; exact CC
 refine wpAny_Expr_any (thn (vy (X:=X.bT xe (X.pn++pins)) (Q:=fun _ H2=>D.nx σ H2) C' (hX.room.mono (by omega)) pa I0 ?_ hx (hX.sc.glo _ k2) (aJ (st e0 (.head _))) (fh fun z hz=>st z (.tail _ hz)) (bp k3).1) fun v s1 ⟨y,H1,I1,r1,q1⟩=>⟨σ,H1,I1,q1⟩) I0.quiet rfl
 refine ⟨ι,Hf,ρ,os,rel,rf,?_⟩
 rw [hev]
 intro ι1 Hf1 H1 x1 r1 vs hvs
 rw [List.append_nil]
 refine ⟨by rw [hvs.len]; exact jz hev,ι1,Hf1,os1,ds,r1,hvs,?_⟩
 rw [hr]
 cases r with
 | stk=>exact w.elim
 | exc c p os2=>exact fun ι2 Hf2 H2 x2 r2=>⟨c,p,os2,rfl,rfl,ι2,Hf2,x1.trans x2,r2⟩
 | ok d os2=>exact fun ι2 Hf2 H2 x2 r2 v _=>(WR.ext (show WR G E ι Hf (.ok (.nx,ρ) os2) (WS G D) from w) (x1.trans x2)).now r2 σ (rf.ext (x1.trans x2))
end
end IS
namespace IS
open PySem PySem.Spec L2
open PyProof.Rows hiding St
open I (D Cell OS Fr R SZ Kt Ko)
section
variable {G:GI} {P:I.Pg} {W:Nat} {cx:CI} {k:Nat} {E:XK} {X:Cx} {sc:Scope} {N:List Str} {tb:Option Nat}
structure XS (X:Cx) (sc:Scope) (E:XK):Prop where
 thr:Thr X E
 scE:X.env.scope=sc
 bk:X.env.blockKind=.function
 own:PassesOwn (model X.prog X.w) X.A X.env X.xe
 stk:X.stack=X.env::X.outer
 frm:X.env.frame=some X.env.locals
theorem fJ (S:XS X sc E) {x:Str} {xp vp:Pos} {n:Nat} {elt:Expr} {gens:List Comprehension} {scope:Scope}:swapsWith (.ListComp elt gens scope vp) (some (.Name x xp)) n X.env=pure (kq sc x xp.line scope vp.line):=by
 show (pure (X.env.blockKind == .function&&X.env.kindOf x == some .local&&xp.line == vp.line && !(scope.names.any fun (n,k)=>n == x&&(k == .local||k == .cell))):Sem Bool)=_
 rw [S.bk,show X.env.kindOf x=sc.names.lookup x by rw [<-S.scE]; rfl]
 congr 1
 unfold kq
 have e1:((some NameKind.local:Option NameKind) == some .local)=true:=rfl
 congr 1
 congr 1
 ·rw [show (ScopeKind.function == ScopeKind.function)=true from rfl,Bool.true_and]
  cases h:sc.names.lookup x with
  | none=>rfl
  | some kd=>cases kd <;> rfl
theorem nD (T0:TB G P W k cx) (hX:XI G E k X ⟨true,tb⟩ sc N) {nl:Nat} {fr:List Nat} {t:I.Tg} {it:I.It} {cd:I.C} {el:I.E} {elt:Expr} {gens:List Comprehension} {scope:Scope} {pos:Pos} (h:aC cx ⟨true,tb⟩ sc N (.comp nl fr t it cd el) (.ListComp elt gens scope pos)=true) :
  ∃ tg iter ifs N',gens=[⟨tg,iter,ifs,0⟩]/\di X.env.scope X.N scope N' nl fr/\PI X tg iter (TIr G E P (I.call P W k) it)/\(∀ fp s2 H2 C,PG (X.comp scope N' fp s2 H2 C) tg (TTg G t)) /\
   (∀ fp s2 H2 C,PTs (X.comp scope N' fp s2 H2 C) ifs (TCo G E0 P (I.call P W k) cd))/\(∀ fp s2 H2 C,PE (X.comp scope N' fp s2 H2 C) elt (T G E0 P (I.call P W k) el))/\(∀ x,foldedSetIterable iter X.env x=pure x)/\gb nl t=true:=by
 obtain ⟨g,rfl,h⟩:=bN h
 obtain ⟨tg,iter,ifs,n⟩:=g
 obtain ⟨h,h7⟩:=ae h
 obtain ⟨h,h6⟩:=ae h
 obtain ⟨h,h5⟩:=ae h
 obtain ⟨h,h4⟩:=ae h
 obtain ⟨h,h3⟩:=ae h
 obtain ⟨h,h2⟩:=ae h
 obtain ⟨h0,h1⟩:=ae h
 obtain rfl:=of_decide_eq_true h0
 obtain ⟨cs,nd⟩:=qE h1 hX
 exact ⟨tg,iter,ifs,_,rfl,cs,sI T0 it tg iter hX h4,fun fp s2 H2 C=>cT (hX.comp nd) t tg h5,fun fp s2 H2 C=>sCo T0 cd ifs (hX.comp nd) h6,fun fp s2 H2 C=>(sE T0 el elt (hX.comp nd) h7).1,me h3,h2⟩
theorem vN {e:Expr} (h:¬ cH e=true):(∃ elt gens scope vp,e=.ListComp elt gens scope vp)\/(∀ sc x xl a,setOk sc x xl a e=false):=by
 cases e <;> first | exact absurd rfl h | exact .inl ⟨_,_,_,_,rfl⟩ | exact .inr fun _ _ _ _=>rfl
theorem mE {a:I.E} (h:gK a=true):∃ nl fr t it cd el,a=.comp nl fr t it cd el\/a=.cell (.comp nl fr t it cd el):=by
 cases a <;> first | exact no h | exact ⟨_,_,_,_,_,_,.inl rfl⟩ | skip
 rename_i e
 cases e <;> first | exact no h | exact ⟨_,_,_,_,_,_,.inr rfl⟩
theorem EX (T0:TB G P W k cx) (hX:XI G E k X ⟨true,tb⟩ sc N) (S:XS X sc E) {i:Nat} {a:I.E} {x:Str} {xp pos:Pos} {e:Expr} (h1:N[i]?=some x) (h2:iM true sc x=true) (h3:setOk sc x xp.line a e=true) (h4:aC cx ⟨true,tb⟩ sc N a e=true) :
  PS X (.Assign [.Name x xp] e pos) (TSt G E P (I.call P W k) W (.set i a)):=by
 obtain ⟨l1,l2⟩:=hX.sc.asg x h2
 have hN:X.N.Nodup:=by rw [hX.nms]; exact hX.nd
 have hi:X.N[i]?=some x:=by rw [hX.nms]; exact h1
 by_cases hc:cH e=true
 ·exact wY hN hi l1 (sE T0 a e hX h4).1 (fB hc) l2
 ·rcases vN hc with ⟨elt,gens,scope,vp,rfl⟩ | z
  ·by_cases hsw:kq sc x xp.line scope vp.line=true
   ·have hco:gK a=true:=by
     have h3':(gK a || !kq sc x xp.line scope vp.line)=true:=h3
     rw [hsw,Bool.not_true,Bool.or_false] at h3'
     exact h3'
    obtain ⟨nl,fr,t,it,cd,el,rfl | rfl⟩:=mE hco
    ·obtain ⟨tg,iter,ifs,N',rfl,c1,c2,c3,c4,c5,c6,c7⟩:=nD T0 hX h4
     exact tj hN hi l1 c1 hX.calm c2 c3 c4 c5 c6 c7 (by rw [fJ S,hsw]) l2 (ow nY)
    ·obtain ⟨tg,iter,ifs,N',rfl,c1,c2,c3,c4,c5,c6,c7⟩:=nD T0 hX (ae h4).2
     exact tj hN hi l1 c1 hX.calm c2 c3 c4 c5 c6 c7 (by rw [fJ S,hsw]) l2 qQ
   ·exact wY hN hi l1 (sE T0 a _ hX h4).1 (by rw [fJ S,Bool.eq_false_iff.mpr hsw]) l2
  ·rw [z] at h3
   exact no h3
theorem qC {es:List Expr} {j:Nat} {p:Pos} {e:Expr} {env:Env} (h:tw e=true):swappedStores [.Tuple es j p] e env=pure none:=by
 cases e <;> first | rfl | exact no h
theorem pQ {x y e:Expr} {p:Pos} {env:Env}:swappedStores [.Subscript x y p] e env=pure none:=by cases e <;> rfl
section
variable {s:Stmt} {a o b:I.E} {ca co ci:CE} {cA:CA} {as:I.Es} {p:I.Pr}
theorem Cn (T0:TB G P W k cx) (hX:XI G E k X ⟨true,tb⟩ sc N) (S:XS X sc E) {i:Nat} (h:AX sc N i a (aC cx ⟨true,tb⟩ sc N a) s=true):PS X s (TSt G E P (I.call P W k) W (.set i a)):=by
 obtain ⟨t,e,pos,rfl,h⟩:=gA h
 obtain ⟨x,xp,rfl,h⟩:=mh h
 obtain ⟨h,h4⟩:=ae h
 obtain ⟨h,h3⟩:=ae h
 obtain ⟨h1,h2⟩:=ae h
 exact EX T0 hX S (of_decide_eq_true h1) h2 h3 h4
theorem D4 (hX:XI G E k X ⟨true,tb⟩ sc N) (ha:HE G P W k E X ca a) {is:List Nat} (h:kTs sc N is ca s=true):PS X s (TSt G E P (I.call P W k) W (.tset is a)):=by
 obtain ⟨t,e,pos,rfl,h⟩:=gA h
 obtain ⟨es,kk,xp,rfl,h⟩:=gW h
 obtain ⟨h,h4⟩:=ae h
 obtain ⟨h,h3⟩:=ae h
 obtain ⟨h1,h2⟩:=ae h
 exact xw (ha _ h4) (cT hX (.tup is) (.Tuple es kk xp) h1) (by unfold swapsWithSole; exact fB h2) (qC h3) rfl
theorem Dl (hX:XI G E k X ⟨true,tb⟩ sc N) (ho:HE G P W k E X co o) (hi:HE G P W k E X ci b) (ha:HE G P W k E X ca a) (h:Ak co ci ca s=true):PS X s (TSt G E P (I.call P W k) W (.setix o b a)):=by
 obtain ⟨t,e,pos,rfl,h⟩:=gA h
 obtain ⟨x,y,xp,rfl,h⟩:=ck h
 obtain ⟨h,h5⟩:=ae h
 obtain ⟨h,h4⟩:=ae h
 obtain ⟨h,h3⟩:=ae h
 obtain ⟨h1,h2⟩:=ae h
 exact uA hX.qH (ha _ h5) (ho _ h3) (hi _ h4) (fun v=>by clear h h4 h5 h2; cases y <;> first | rfl | exact no h1) (by unfold swapsWithSole; exact fB h2) pQ rfl
theorem Eo (ha:HE G P W k E X ca a) (h:(ux s fun e=>cH e&&ca e)=true):PS X s (TSt G E P (I.call P W k) W (.ex a)):=by
 obtain ⟨e,pos,rfl,h⟩:=oh h
 obtain ⟨h1,h2⟩:=ae h
 exact Fn (ha _ h2) (fB h1)
theorem Av (ha:HE G P W k E X ca a) (h:(ou s fun e=>onS e fun e=>ca e)=true):PS X s (TSt G E P (I.call P W k) W (.ret a)):=by
 obtain ⟨e,pos,rfl,h⟩:=lB h
 obtain ⟨e,rfl,h⟩:=dm h
 exact Ck (ha _ h)
theorem EI {c:I.C} {x y:I.Ss} {cx' cy:List Stmt->Bool} (hc:∀ t,ca t=true->PT X t (TCo G E P (I.call P W k) c)) (hx:∀ l,cx' l=true->PSs X l (fm G E P (I.call P W k) W x)) (hy:∀ l,cy l=true->PSs X l (fm G E P (I.call P W k) W y)) (h:(nS s fun t u v=>ca t&&cx' u&&cy v)=true):PS X s (TSt G E P (I.call P W k) W (.ite c x y)):=by
 obtain ⟨t,u,v,pos,rfl,h⟩:=lJ h
 obtain ⟨h,h3⟩:=ae h
 obtain ⟨h1,h2⟩:=ae h
 exact D2 (hc _ h1) (hx _ h2) (hy _ h3)
theorem EK {c:I.C} {x:I.Ss} {cx':List Stmt->Bool} (S:XS X sc E) (hc:∀ t,ca t=true->PT X t (TCo G E P (I.call P W k) c)) (hx:∀ l,cx' l=true->PSs X l (fm G E P (I.call P W k) W x)) (h:(xP s fun t u v=>on0 v (ca t&&cx' u))=true):PS X s (TSt G E P (I.call P W k) W (.wh c x)):=by
 obtain ⟨t,u,v,pos,rfl,h⟩:=vF h
 obtain ⟨rfl,h⟩:=aV h
 obtain ⟨h1,h2⟩:=ae h
 exact uM S.own (hc _ h1) (hx _ h2)
theorem DM {t:I.Tg} {it:I.It} {x:I.Ss} {cx':List Stmt->Bool} {ci:Expr->CE} (hX:XI G E k X ⟨true,tb⟩ sc N) (S:XS X sc E) (hi:∀ tg y,ci tg y=true->PI X tg y (TIr G E P (I.call P W k) it)) (hx:∀ l,cx' l=true->PSs X l (fm G E P (I.call P W k) W x)) (h:kFr sc N t ci cx' s=true):PS X s (TSt G E P (I.call P W k) W (.fr t it x)):=by
 obtain ⟨tg,iter,body,els,pos,rfl,h⟩:=pZ h
 obtain ⟨rfl,h⟩:=aV h
 obtain ⟨h,h4⟩:=ae h
 obtain ⟨h,h3⟩:=ae h
 obtain ⟨h1,h2⟩:=ae h
 exact CQ S.own hX.calm (hi _ _ h3) (cT hX t tg h2) (hx _ h4) (me h1)
theorem ET (T0:TB G P W k cx) (hX:XI G E k X ⟨true,tb⟩ sc N) (S:XS X sc E) (hA:HA G P W k E X cA as) {c:Nat} (h:kRa cx sc c (ay as) cA s=true):PS X s (TSt G E P (I.call P W k) W (.raise c as)):=by
 obtain ⟨e,pos,rfl,h⟩:=lZ h
 obtain ⟨x,np,args,cpos,rfl,h⟩:=du h
 obtain ⟨h,h6⟩:=ae h
 obtain ⟨h,h5⟩:=ae h
 obtain ⟨h,h4⟩:=ae h
 obtain ⟨h,h3⟩:=ae h
 obtain ⟨h1,h2⟩:=ae h
 obtain ⟨m1,m2⟩:=T0.exs c x (of_decide_eq_true h1)
 obtain ⟨a1,a2,a3⟩:=hA _ h6
 cases args with
 | nil=>exact no h4
 | cons e0 er=>exact vE S.thr hX.calm hX.K PySem.F.excBase_ValueError m2 (by rw [hX.mg]; exact m1) a1 (hX.sc.glo x h2) (aJ (a2 e0 (.head _))) (fh fun z hz=>a2 z (.tail _ hz)) (bp h3).1 (of_decide_eq_true h5)
theorem zV {x:I.S} {r:I.Ss} {c1:Stmt->Bool} {c2:List Stmt->Bool} (h1:∀ s,c1 s=true->PS X s (TSt G E P (I.call P W k) W x)) (h2:∀ l,c2 l=true->PSs X l (fm G E P (I.call P W k) W r)) {ss:List Stmt} (h:(bO ss fun s rest=>c1 s&&c2 rest)=true):PSs X ss (fm G E P (I.call P W k) W (.cons x r)):=by
 obtain ⟨s,rest,rfl,h⟩:=aP h
 obtain ⟨g1,g2⟩:=ae h
 exact uR (h1 _ g1) (h2 _ g2)
end
mutual
theorem sS (T0:TB G P W k cx) (hX:XI G E k X ⟨true,tb⟩ sc N) (S:XS X sc E):∀ (a:I.S) (s:Stmt),Bf cx tb sc N a s=true->PS X s (TSt G E P (I.call P W k) W a)
 | .set i a,s,h=>Cn T0 hX S h
 | .tset is a,s,h=>D4 hX (fun x z=>(sE T0 a x hX z).1) h
 | .setix o i a,s,h=>Dl hX (fun x z=>(sE T0 o x hX z).1) (fun x z=>(sE T0 i x hX z).1) (fun x z=>(sE T0 a x hX z).1) h
 | .aug i p a,s,h=>no h
 | .ex a,s,h=>Eo (fun x z=>(sE T0 a x hX z).1) h
 | .ret a,s,h=>Av (fun x z=>(sE T0 a x hX z).1) h
 | .retN,s,h=>no h
 | .ite c a b,s,h=>EI (fun t z=>(sC T0 c t hX z).1) (fun l z=>sSs T0 hX S a l z) (fun l z=>sSs T0 hX S b l z) h
 | .wh c b,s,h=>EK S (fun t z=>(sC T0 c t hX z).1) (fun l z=>sSs T0 hX S b l z) h
 | .fr t it b,s,h=>DM hX S (fun tg x z=>sI T0 it tg x hX z) (fun l z=>sSs T0 hX S b l z) h
 | .brk,s,h=>no h
 | .cont,s,h=>no h
 | .pass,s,h=>no h
 | .stop,s,h=>no h
 | .setfld o f a,s,h=>no h
 | .augfld o f p a,s,h=>no h
 | .augix _ _ _ _,s,h=>no h
 | .tryC f es i hs,s,h=>BH T0 hX rfl S.stk S.frm S.scE (fun xe pn xs z=>sEs T0 es xs (hX.bT xe pn) z) h
 | .tryM f es i hs,s,h=>no h
 | .raise c es,s,h=>ET T0 hX S (fun xs z=>sEs T0 es xs hX z) h
theorem sSs (T0:TB G P W k cx) (hX:XI G E k X ⟨true,tb⟩ sc N) (S:XS X sc E):∀ (a:I.Ss) (ss:List Stmt),gZ cx tb sc N a ss=true->PSs X ss (fm G E P (I.call P W k) W a)
 | .nil,ss,h=>by
  obtain ⟨rfl,_⟩:=aV h
  exact yX
 | .cons a r,ss,h=>zV (fun s z=>sS T0 hX S a s z) (fun l z=>sSs T0 hX S r l z) h
end
end
end IS
namespace IS
open PySem PySem.Spec L2
open PyProof.Rows hiding St
open I (D Cell OS Fr R SZ Kt Ko)
noncomputable def eA (cx:CI) (d:I.FD) (N ps:List Str) (st:Stmt):Bool :=
 decide ((ag st).kind=.function)&&decide ((ag st).isCoroutine=false)&&decide ((ag st).isGenerator=false)&&decide N.Nodup&&decide (N.take ps.length=ps) &&
 ps.all (fun x=>decide ((ag st).names.lookup x=some .local)||decide ((ag st).names.lookup x=some .cell))&&(ag st).names.all (fun y=>decide (y.2≠.free)) &&
 decide (d.n=N.length)&&gZ cx d.tb (ag st) N d.body (aD st)
noncomputable def p9 (G:GI) (fd:FuncData) (qual:Str) (d:I.FD):Prop:=∀ t,d.tb=some t->∃ c,fd.code=.ref c/\PySem.W.CodeHd G.base c (G.tA t)/\qual ++ ".<locals>." ++ "<lambda>" = G.tq t/\BMd G.mg G.base
theorem Fun.okT {P:Program} {w:World} {K:PySem.W.Frag} {mg:Str->Option Value} {base:Heap} {x qual:Str} {st:Stmt} {f:Addr} {fd:FuncData} {N ps:List Str} {k:Nat} {sp:Sp} (F:Fun K x qual st f fd) (S:gE N ps (ag st)) (len:∀ vs H Q E,sp vs H Q E->vs.length=ps.length)
  (hbody:∀ (cdv:Value) (A:Around) (outer:List Env) (s:Shared) (H:Hp) (vs:List V) (Q:VK) (E:XK),fd.code=cdv->bS k (A.deeper (envOfC qual (ag st) s.heap.objs.size f cdv))->sp vs H Q E ->
   Passes (CXE P w) (eP (CXE P w) P w K mg base N qual (ag st) f cdv A outer s H E) E->Thr (eP (CXE P w) P w K mg base N qual (ag st) f cdv A outer s H E) E ->
   ∃ t,PSs (eP (CXE P w) P w K mg base N qual (ag st) f cdv A outer s H E) (aD st) t/\t { nx:=fun _ H'=>Q .non H',rt:=Q } (start N vs) H):cV P w K mg base (CXE P w) (k+1) f fd ps sp:=by
 obtain ⟨oc,od,kV,doc,pm,an,cdv,ct,osl,rfl,lk,hcd⟩:=F.ex
 exact A4 lk hcd S len fun A outer s H vs Q E hr hsp=>hbody cdv A outer s H vs Q E rfl hr hsp Cb Ey
structure FR (G:GI) (P:I.Pg) (cx:CI) (f:Nat) (x:Str) (n:Nat):Prop where
 ex:∃ (fa:Addr) (fd:FuncData) (qual:Str) (ps N:List Str) (st:Stmt) (d:I.FD),G.mg x=some (.ref fa)/\Binds G.K fd ps []/\Fun G.K x qual st fa fd/\ps.length=n/\P.fn f=some d/\eA cx d N ps st=true/\p9 G fd qual d
structure CR0 (G:GI) (P:I.Pg) (cx:CI) (c:Nat) (x:Str) (n:Nat):Prop where
 ex:∃ (fa:Addr) (fd:FuncData) (nm qual:Str) (ps N:List Str) (st:Stmt) (fi:Nat) (d:I.FD),P.ini c=some fi/\G.mg x=some (.ref (G.CA c))/\Mk G.K (G.CA c) fa/\Binds G.K fd ps []/\Fun G.K nm qual st fa fd/\ps.length=n/\P.fn fi=some d/\eA cx d N ps st=true/\p9 G fd qual d
structure MR0 (G:GI) (P:I.Pg) (cx:CI) (c f:Nat) (x:Str) (n:Nat):Prop where
 ex:∃ (fa:Addr) (fd:FuncData) (qual:Str) (ps N:List Str) (st:Stmt) (d:I.FD),Meth G.K (G.CA c) x fa/\Binds G.K fd ps []/\Fun G.K x qual st fa fd/\ps.length=n/\P.fn f=some d/\eA cx d N ps st=true/\p9 G fd qual d
structure TF0 (G:GI) (P:I.Pg) (cx:CI):Prop where
 fns:∀ f x n,cx.fn f=some (x,n)->FR G P cx f x n
 gls:∀ i x,cx.gl i=some x->∃ u v,G.mg x=some u/\RelV v u/\∀ ι Hf,Rp G ι Hf v (P.g i)
 nbs:∀ x,x∈jv->G.mg x=none
 exs:∀ c x,cx.ec c=some x->G.mg x=some (.ref (G.CA c))/\PySem.W.excIn G.K (G.CA c) [.type "ValueError",.type "Exception",.type "BaseException",.type "object"] "ValueError.__new__" = true
 cls:∀ c x n,cx.cl c=some (x,n)->G.ok c/\CR0 G P cx c x n
 mts:∀ c m f,P.meth c m=some f->∀ x n,cx.mt m=some (x,n)->MR0 G P cx c f x n
 fx:FX G cx
 hn:HND G cx
section
variable {G:GI} {P:I.Pg} {W:Nat} {cx:CI} {k:Nat}
theorem SC.def {N:List Str} {qual:Str} {scope:Scope} {f:Addr} {cd:Value} {A:Around} {outer:List Env} {s₀:Shared} {H₀:Hp} {E:XK}:SC (eP (CXE G.prog G.w) G.prog G.w G.K G.mg G.base N qual scope f cd A outer s₀ H₀ E) true scope:=by
 refine ⟨fun x h=>wB h,fun x h=>wb h,fun x h=>⟨?_,.inl rfl⟩,fun x h=>h⟩
 rcases we h with h | ⟨_,h⟩
 ·exact .inl h
 ·exact .inr h
theorem Rf.start {ι:List Addr} {Hf:Hp}:∀ {vs:List V} {ds:List D} (n:Nat),Rps G ι Hf vs ds->Rf G ι Hf (vs.map some++List.replicate n none) (ds.map some++List.replicate n none)
 | _,_,n,.nil=>by
  induction n with
  | zero=>exact .nil
  | succ n ih=>exact .no ih
 | _,_,n,.cons h r=>.so h (Rf.start n r)
theorem WR.ended {E:XK} {ι:List Addr} {Hf:Hp} {r:I.Rs} {Q:VK} (w:WR G E ι Hf (I.ended r) (fun ι' Hf' H' _ d=>∀ v,Rp G ι' Hf' v d->Q v H')):WR G E ι Hf r (WS G { nx:=fun _ H'=>Q .non H',rt:=Q }):=by
 cases r with
 | stk=>exact w
 | exc c p os=>exact w
 | ok a os =>
  obtain ⟨fl,ρ⟩:=a
  cases fl with
  | nx=>exact fun ι' Hf' H' x r σ _=>w ι' Hf' H' x r .non .non
  | rt d=>exact fun ι' Hf' H' x r v hv=>w ι' Hf' H' x r v hv
  | bk=>exact False.elim w
  | ct=>exact False.elim w
theorem gy (T0:TB G P W k cx) {f:Nat} {x qual:Str} {n:Nat} {fa:Addr} {fd:FuncData} {ps N:List Str} {st:Stmt} {d:I.FD} (F:Fun G.K x qual st fa fd) (hl:ps.length=n) (hd:P.fn f=some d) (hc:eA cx d N ps st=true) (hT:p9 G fd qual d) :
  cV G.prog G.w G.K G.mg G.base (CXE G.prog G.w) (2 * (k+1)) fa fd ps (spF G P W (k+1) f n):=by
 obtain ⟨hc,c9⟩:=ae hc
 obtain ⟨hc,c8⟩:=ae hc
 obtain ⟨hc,c7⟩:=ae hc
 obtain ⟨hc,c6⟩:=ae hc
 obtain ⟨hc,c5⟩:=ae hc
 obtain ⟨hc,c4⟩:=ae hc
 obtain ⟨hc,c3⟩:=ae hc
 obtain ⟨c1,c2⟩:=ae hc
 have S:gE N ps (ag st):=⟨of_decide_eq_true c1,of_decide_eq_true c2,of_decide_eq_true c3,of_decide_eq_true c4,of_decide_eq_true c5,fun x hx=>by
  have:=List.all_eq_true.mp c6 x hx
  rw [Bool.or_eq_true] at this
  rcases this with z | z
  ·exact .inl (of_decide_eq_true z)
  ·exact .inr (of_decide_eq_true z),fun y hy=>of_decide_eq_true (List.all_eq_true.mp c7 y hy)⟩
 refine Fun.okT F S (fun vs H Q E h=>h.1.trans hl.symm) fun cdv A outer s H vs Q E hcode hr hsp hp ht => ?_
 obtain ⟨hlen,ι,Hf,os,ds,rel,hvs,w⟩:=hsp
 have hr:bS (2 * k+1) _:=hr
 have hX:XI G E k (eP (CXE G.prog G.w) G.prog G.w G.K G.mg G.base N qual (ag st) fa cdv A outer s H E) ⟨true,d.tb⟩ (ag st) N :=
  ⟨rfl,rfl,rfl,rfl,rfl,rfl,S.nd,SC.def,rfl,hr,hp,fun t e=>by
   obtain ⟨c,h1,h2,h3,h4⟩:=hT t e
   exact ⟨c,hcode.symm.trans h1,h2,h3,h4⟩⟩
 have hS:XS (eP (CXE G.prog G.w) G.prog G.w G.K G.mg G.base N qual (ag st) fa cdv A outer s H E) (ag st) E :=
  ⟨ht,rfl,by show (if (ag st).kind.isAnnotationScope then ScopeKind.function else (ag st).kind)=.function; rw [S.kind]; rfl,PassesOwn.leaving,rfl,rfl⟩
 refine ⟨_,sSs T0 hX hS d.body (aD st) c9,ι,Hf,ds.map some++List.replicate (N.length - vs.length) none,os,rel,Rf.start _ hvs,WR.ended ?_⟩
 have e:I.call P W (k+1) f ds os=I.ended (I.execs P (I.call P W k) W d.body (ds.map some++List.replicate (N.length - vs.length) none) os):=by
  rw [I.dX,hd]
  show I.ended (I.execs P (I.call P W k) W d.body (ds.map some++List.replicate (d.n - ds.length) none) os)=_
  rw [of_decide_eq_true c8,hvs.len]
 rw [<-e]
 exact w
theorem jO {f:Nat} {n:Nat} {fa:Addr} {fd:FuncData} {ps:List Str} (hl:ps.length=n):cV G.prog G.w G.K G.mg G.base (CXE G.prog G.w) (2 * 0) fa fd ps (spF G P W 0 f n) :=
 ⟨fun vs H Q E z=>z.1.trans hl.symm,fun A outer s H args us vs Q E _ _ _ _ hs=>by obtain ⟨_,_,_,_,_,_,_,w⟩:=hs; exact False.elim w⟩
theorem pU (T:TF0 G P cx):∀ k,TB G P W k cx
 | 0=>by
  refine ⟨fun f x n h => ?_,T.gls,T.nbs,T.exs,fun c x n h => ?_,fun c m f h x n hx => ?_,T.fx,T.hn⟩
  ·obtain ⟨fa,fd,qual,ps,N,st,d,m,b,F,hl,hd,hc,hT⟩:=(T.fns f x n h).ex
   exact ⟨ps,fa,fd,m,F.kp,b,jO hl⟩
  ·obtain ⟨hok,fa,fd,nm,qual,ps,N,st,fi,d,hi,m,M,b,F,hl,hd,hc,hT⟩:=T.cls c x n h
   exact ⟨hok,fi,ps,hi,fa,fd,M,m,b,jO hl⟩
  ·obtain ⟨fa,fd,qual,ps,N,st,d,M,b,F,hl,hd,hc,hT⟩:=(T.mts c m f h x n hx).ex
   exact ⟨ps,fa,fd,M,b,jO hl⟩
 | k+1=>by
  have T0:=pU T k
  refine ⟨fun f x n h => ?_,T.gls,T.nbs,T.exs,fun c x n h => ?_,fun c m f h x n hx => ?_,T.fx,T.hn⟩
  ·obtain ⟨fa,fd,qual,ps,N,st,d,m,b,F,hl,hd,hc,hT⟩:=(T.fns f x n h).ex
   exact ⟨ps,fa,fd,m,F.kp,b,gy T0 F hl hd hc hT⟩
  ·obtain ⟨hok,fa,fd,nm,qual,ps,N,st,fi,d,hi,m,M,b,F,hl,hd,hc,hT⟩:=T.cls c x n h
   exact ⟨hok,fi,ps,hi,fa,fd,M,m,b,gy T0 F hl hd hc hT⟩
  ·obtain ⟨fa,fd,qual,ps,N,st,d,M,b,F,hl,hd,hc,hT⟩:=(T.mts c m f h x n hx).ex
   exact ⟨ps,fa,fd,M,b,gy T0 F hl hd hc hT⟩
end
end IS
namespace IS
open PySem PySem.Spec L2
noncomputable def rG (n:Nat):Str:=⟨(List.replicate (n+200) 0).toArray⟩
noncomputable def lT (tbl:List Str) (n:Nat):Str:=(tbl[n]?).getD (rG n)
theorem iI (n:Nat):(rG n).cps.size=n+200:=by simp [rG]
theorem d6 {tbl:List Str} {f:Nat} {x:Str} (h:tbl[f]?=some x):lT tbl f=x:=by unfold lT; rw [h]; rfl
theorem d7 {tbl:List Str} {f:Nat} (h:tbl[f]?=none):lT tbl f=rG f:=by unfold lT; rw [h]; rfl
theorem qa {tbl:List Str} (h:tbl.Nodup) (hs:∀ s∈tbl,s.cps.size<200) (f g:Nat) (e:lT tbl f=lT tbl g):f=g:=by
 cases hf:tbl[f]? with
 | none =>
  cases hg:tbl[g]? with
  | none =>
   rw [d7 hf,d7 hg] at e
   have:=congrArg (fun s:Str=>s.cps.size) e
   simp only [iI] at this
   omega
  | some y =>
   rw [d7 hf,d6 hg] at e
   have:=congrArg (fun s:Str=>s.cps.size) e
   simp only [iI] at this
   have:=hs y (List.mem_of_getElem? hg)
   omega
 | some x =>
  cases hg:tbl[g]? with
  | none =>
   rw [d6 hf,d7 hg] at e
   have:=congrArg (fun s:Str=>s.cps.size) e
   simp only [iI] at this
   have:=hs x (List.mem_of_getElem? hf)
   omega
  | some y =>
   rw [d6 hf,d6 hg] at e
   subst e
   obtain ⟨h1,e1⟩:=List.getElem?_eq_some_iff.mp hf
   obtain ⟨h2,e2⟩:=List.getElem?_eq_some_iff.mp hg
   exact (List.getElem_inj h).mp (e1.trans e2.symm)
end IS
namespace IS
open PySem PySem.Spec L2
open PyProof.Rows hiding St
open I (D Cell OS Fr R SZ Kt Ko)
noncomputable def kc (n:Nat):OS:=(List.range n).map fun t=>some (.tab t)
theorem fN {n i:Nat} {c:Cell} (h:I.aa (kc n) i=some c):i<n/\c=.tab i:=by
 unfold I.aa kc at h
 rw [List.getElem?_map] at h
 by_cases hi:i<n
 ·rw [List.getElem?_range hi] at h
  cases h
  exact ⟨hi,rfl⟩
 ·rw [List.getElem?_eq_none (by simpa using hi)] at h
  cases h
section
variable {G:GI} {P:I.Pg} {W:Nat} {cx:CI} {k:Nat}
noncomputable def j1 (n:Nat) (K:PySem.W.Frag) (tA:Nat->Addr) (nT:Nat):Sp:=fun vs H Q _=>∃ (a:Addr) (ns:List Int),vs=[.ref a]/\SqL K H a (ns.map V.int)/\ns.length<=n/\(∀ t,t<nT->H (tA t)=some (.tbl #[]))/\∀ H',Q (.bl true) H'
theorem uf {f nT:Nat} {x qual:Str} {fa:Addr} {fd:FuncData} {ps N:List Str} {st:Stmt} {d:I.FD} {m:Nat} (T:TF0 G P cx) (hm:m<=sizeLine) (F:Fun G.K x qual st fa fd) (hl:ps.length=1) (hd:P.fn f=some d) (hc:eA cx d N ps st=true) (hT:p9 G fd qual d)
  (hinj:∀ i j,i<nT->j<nT->G.tA i=G.tA j->i=j)
  (math:∀ ns:List Int,ns.length<=m->∃ os,I.call P W (k+1) f [.scr (ns.map .int)] (kc nT)=.ok (.bl true) os):cV G.prog G.w G.K G.mg G.base (CXE G.prog G.w) (2 * (k+1)) fa fd ps (j1 m G.K G.tA nT):=by
 refine cV.imp (gy (W:=W) (pU T k) F hl hd hc hT) fun vs H Q E ⟨a,ns,e,hs,hn,hTb,q⟩ => ?_
 subst e
 obtain ⟨os,e⟩:=math ns hn
 let Hf:Hp:=fun b=>if (∃ t,t<nT/\b=G.tA t) then none else H b
 have hfN:∀ t,t<nT->Hf (G.tA t)=none:=fun t ht=>if_pos ⟨t,ht,rfl⟩
 have sub:aK Hf H:=fun b u z=>by
  have z':(if (∃ t,t<nT/\b=G.tA t) then none else H b)=some u:=z
  split at z'
  ·cases z'
  ·exact z'
 have hs':SqL G.K Hf a (ns.map V.int):=by
  rcases hs with hs | hs
  ·refine .inl ?_
   have na:¬ ∃ t,t<nT/\a=G.tA t:=fun ⟨t,ht,z⟩=>by
    have:=hTb t ht
    rw [<-z] at this
    rcases hs with hs | ⟨o,hs⟩ <;> (rw [this] at hs; cases hs)
   have e2:Hf a=H a:=if_neg na
   rcases hs with hs | ⟨o,hs⟩
   ·exact .inl (e2.trans hs)
   ·exact .inr ⟨o,e2.trans hs⟩
  ·exact .inr hs
 have ha:∀ t,t<nT->((List.range nT).map G.tA)[t]?=some (G.tA t):=fun t ht=>by rw [List.getElem?_map,List.getElem?_range ht]; rfl
 refine ⟨rfl,(List.range nT).map G.tA,Hf,kc nT,[.scr (ns.map .int)],⟨by simp [kc],sub,fun n c z => ?_,fun n1 n2 c1 c2 b z1 z2 e1 e2 => ?_⟩,.cons (.scr hs' (by rw [List.length_map]; omega) (ku ns)) .nil,?_⟩
 ·obtain ⟨hn',rfl⟩:=fN z
  exact ⟨G.tA n,ha n hn',hfN n hn',#[],hTb n hn',rfl,trivial,fun pos cv z=>by cases z⟩
 ·obtain ⟨h1,rfl⟩:=fN z1
  obtain ⟨h2,rfl⟩:=fN z2
  rw [ha _ h1] at e1
  rw [ha _ h2] at e2
  cases e1
  exact hinj _ _ h1 h2 (Option.some.inj e2).symm
 rw [e]
 intro ι' Hf' H' _ _ v hv
 cases hv
 exact q H'
end
end IS
namespace IS
open PySem PySem.Spec L2
open PyProof.Rows hiding St
theorem uN {ts:List Addr} {h:Heap} {K:PySem.W.Frag} (KX:K.In h) (hP:∀ P∈ts,h.get? P=some (PySem.W.tabObj #[])) (hC:∀ P∈ts,∃ c,PySem.W.codeHdIn K c P=true):∃ tabs:List (Addr × Addr),tabs.map (·.2)=ts/\PySem.W.TabsAt tabs h:=by
 induction ts with
 | nil=>exact ⟨[],rfl,fun q hq=>nomatch hq⟩
 | cons P r ih =>
  obtain ⟨tabs,e,hT⟩:=ih (fun Q hQ=>hP Q (.tail _ hQ)) fun Q hQ=>hC Q (.tail _ hQ)
  obtain ⟨c,hc⟩:=hC P (.head _)
  refine ⟨(c,P)::tabs,by rw [List.map_cons,e],fun q hq => ?_⟩
  rcases List.mem_cons.mp hq with rfl | hq
  ·exact ⟨PySem.W.codeHd_of_K KX hc,hP P (.head _)⟩
  ·exact hT q hq
theorem zo {ts:List Addr} (h:ts.Nodup) (i j:Nat) (hi:i<ts.length) (hj:j<ts.length) (e:ts.getD i 0=ts.getD j 0):i=j:=by
 rw [List.getD_eq_getElem?_getD,List.getD_eq_getElem?_getD,List.getElem?_eq_getElem hi,List.getElem?_eq_getElem hj] at e
 exact (List.getElem_inj h).mp e
theorem Bh {l:PySem.W.OpenLaw} {n k:Nat} {q:Program} {loose:List Str} {XP:(Str->Option Value)->Heap->Prop} {YP:World->Heap->Prop} {d:DefRec} {K:Params->PySem.W.Frag} {x:Str} {ts:List Addr}
  (hn:l.most=some n) (hn2:n<=sizeLine) (hdf:d.params.defaults=[]) (hr:bS k callerA)
  (hY:∀ (w:World) (h:Heap),YP w h->(K w.params).In h/\∀ P∈ts,h.get? P=some (PySem.W.tabObj #[])) (hnt:∀ w:World,PySem.W.noTabs (K w.params)=true)
  (F:∀ (w:World) (mg:Str->Option Value) (fa:Addr) (h:Heap),(K w.params).In h->h.Ns mainGlobals mg->mg d.name=some (.ref fa) ->
   (∀ P∈ts,∃ c,PySem.W.codeHdIn (K w.params) c P=true)/\∃ fd:FuncData,(∀ (s:Shared) (u:Value),BindsTo s fd ⟨[u],[]⟩ [(x,u)]) /\
    ∀ base:Heap,(K w.params).In base->base.Ns mainGlobals mg->BMd mg base->cV l.prog w (K w.params) mg base (CXE l.prog w) k fa fd [x] (j1 n (K w.params) (fun t=>ts.getD t 0) ts.length)) :
  PySem.W.WalkO q loose XP YP l.row.toRowW d [] (fun f vs=>PySem.call f vs):=by
 refine Att.gf hn hdf fun w s₀ s₁ mg mb fa o pm cd doc a vs ns G Y ho hd hcd hmg hobj hints hlen hg => ?_
 obtain ⟨KX,hP⟩:=hY w _ Y
 obtain ⟨hC,fd,hb,hF⟩:=F w mg fa _ KX G.T.g hmg
 obtain ⟨tabs,e,hT⟩:=uN KX hP hC
 refine pA (CX:=CXE l.prog w) (sp:=j1 n (K w.params) (fun t=>ts.getD t 0) ts.length) KX G.T.g G.T.b G.T.builtins G.T.nolimit hg G.T.bmain hT (hnt w) hobj hints (Nat.le_trans hlen hn2) hr hF hb (fun H hO hTt hS=>⟨a,ns,rfl,hS,hlen,fun t ht => ?_,fun _=>rfl⟩) fun H e s' ⟨_,_,_,_,_,_,_,z⟩=>z
 have hm:ts.getD t 0∈ts:=by
  rw [List.getD_eq_getElem?_getD,List.getElem?_eq_getElem ht]
  exact List.getElem_mem ht
 rw [<-e] at hm
 obtain ⟨p,hp,e2⟩:=List.mem_map.mp hm
 have:=hTt p hp
 rw [e2,e] at this
 exact this
end IS
namespace K18
open I
noncomputable def cJ:FD:=⟨4,(.cons (.set 3 (.pr .sub (.cons (.pr .shl (.cons (.c (.int 1)) (.cons (.v 1) .nil))) (.cons (.c (.int 1)) .nil)))) (.cons (.ret (.comp 1 [0,1,2,3] (.v 0) (.rng (.cons (.v 2) .nil)) .tt (.pr .band (.cons (.pr .shr (.cons (.v 1) (.cons (.pr .mul (.cons (.v 2) (.cons (.pr .sub (.cons (.pr .sub (.cons (.v 3) (.cons (.c (.int 1)) .nil))) (.cons (.v 0) .nil))) .nil))) .nil))) (.cons (.v 4) .nil))))) .nil)),none⟩
noncomputable def dW:FD:=⟨2,(.cons (.ret (.callP 0 (.cons (.v 0) (.cons (.g 0) (.cons (.v 1) .nil))))) .nil),none⟩
noncomputable def aT:FD:=⟨4,(.cons (.ite (.e (.pr (.cmp .eq) (.cons (.pr .len (.cons (.v 0) .nil)) (.cons (.c (.int 0)) .nil)))) (.cons (.raise 7 (.cons (.c (.str [116,104,101,114,101,32,97,114,101,32,110,111,32,115,121,109,98,111,108,115])) .nil)) .nil) .nil) (.cons (.set 1 (.pr .neg (.cons (.c (.int 1)) .nil))) (.cons (.fr (.tup [2,3]) (.seq (.v 0)) (.cons (.ite (.e (.pr (.cmp .le) (.cons (.v 2) (.cons (.v 1) .nil)))) (.cons (.raise 7 (.cons (.c (.str [116,104,101,32,115,121,109,98,111,108,115,32,100,111,110,39,116,32,114,105,115,101,32,102,114,111,109,32,48,32,111,110])) .nil)) .nil) .nil) (.cons (.ite (.or (.e (.pr (.cmp .lt) (.cons (.v 3) (.cons (.c (.int 1)) .nil)))) (.e (.pr (.cmp .gt) (.cons (.v 3) (.cons (.g 12) .nil))))) (.cons (.raise 7 (.cons (.c (.str [97,32,108,101,110,103,116,104,32,105,115,32,111,117,116,32,111,102,32,105,116,115,32,98,111,117,110,100,115])) .nil)) .nil) .nil) (.cons (.set 1 (.v 2)) .nil)))) (.cons (.ite (.e (.pr (.cmp .gt) (.cons (.pr .sum (.cons (.comp 2 [] (.tup [0,1]) (.seq (.v 0)) .tt (.pr .shl (.cons (.c (.int 1)) (.cons (.pr .sub (.cons (.g 12) (.cons (.v 1) .nil))) .nil)))) .nil)) (.cons (.pr .shl (.cons (.c (.int 1)) (.cons (.g 12) .nil))) .nil)))) (.cons (.raise 7 (.cons (.c (.str [116,104,101,32,108,101,110,103,116,104,115,32,100,111,110,39,116,32,102,105,116])) .nil)) .nil) .nil) .nil)))),none⟩
noncomputable def de:FD:=⟨6,(.cons (.ex (.callP 32 (.cons (.v 0) .nil))) (.cons (.set 1 (.dict false)) (.cons (.set 2 (.pr .neg (.cons (.c (.int 1)) .nil))) (.cons (.set 3 (.c (.int 0))) (.cons (.fr (.tup [4,5]) (.seq (.pr (.srt2 0) (.cons (.v 0) .nil))) (.cons (.set 2 (.pr .shl (.cons (.pr .add (.cons (.v 2) (.cons (.c (.int 1)) .nil))) (.cons (.pr .sub (.cons (.v 5) (.cons (.v 3) .nil))) .nil)))) (.cons (.set 3 (.v 5)) (.cons (.setix (.v 1) (.v 4) (.callP 2 (.cons (.v 2) (.cons (.v 5) .nil)))) .nil)))) (.cons (.ret (.comp 2 [1] (.tup [0,1]) (.seq (.v 0)) .tt (.tup (.cons (.v 0) (.cons (.pr .ix (.cons (.v 2) (.cons (.v 0) .nil))) .nil))))) .nil)))))),some 0⟩
noncomputable def eY:FD:=⟨3,(.cons (.set 2 (.pr .mod (.cons (.pr .ix (.cons (.v 0) (.cons (.c (.int 0)) .nil))) (.cons (.v 1) .nil)))) (.cons (.setix (.v 0) (.c (.int 0)) (.pr .fdiv (.cons (.pr .ix (.cons (.v 0) (.cons (.c (.int 0)) .nil))) (.cons (.v 1) .nil)))) (.cons (.ret (.v 2)) .nil))),none⟩
noncomputable def dZ:FD:=⟨7,(.cons (.set 2 (.c (.int 0))) (.cons (.ite (.e (.pr (.cmp .lt) (.cons (.v 1) (.cons (.pr .len (.cons (.v 0) .nil)) .nil)))) (.cons (.set 2 (.pr .ix (.cons (.v 0) (.cons (.v 1) .nil)))) .nil) .nil) (.cons (.set 3 (.pr .mod (.cons (.v 2) (.cons (.pr .mul (.cons (.pr .mul (.cons (.pr .pow (.cons (.c (.int 10)) (.cons (.c (.int 60)) .nil))) (.cons (.pr .pow (.cons (.c (.int 10)) (.cons (.c (.int 60)) .nil))) .nil))) (.cons (.pr .pow (.cons (.c (.int 10)) (.cons (.c (.int 30)) .nil))) .nil))) .nil)))) (.cons (.ite (.e (.pr (.cmp .ge) (.cons (.v 3) (.cons (.pr .pow (.cons (.c (.int 10)) (.cons (.c (.int 18)) .nil))) .nil)))) (.cons (.ret (.cell (.lst (.cons (.v 3) .nil)))) .nil) .nil) (.cons (.set 4 (.pr .mod (.cons (.pr .add (.cons (.v 2) (.cons (.pr .len (.cons (.v 0) .nil)) .nil))) (.cons (.c (.int 2147483647)) .nil)))) (.cons (.set 5 (.c (.int 0))) (.cons (.fr (.v 6) (.rng (.cons (.c (.int 16)) .nil)) (.cons (.set 4 (.pr .mod (.cons (.pr .add (.cons (.pr .add (.cons (.pr .add (.cons (.pr .mul (.cons (.v 4) (.cons (.c (.int 48271)) .nil))) (.cons (.pr .mul (.cons (.v 6) (.cons (.v 6) .nil))) .nil))) (.cons (.pr .mul (.cons (.c (.int 7)) (.cons (.v 1) .nil))) .nil))) (.cons (.c (.int 1)) .nil))) (.cons (.c (.int 2147483647)) .nil)))) (.cons (.set 5 (.pr .add (.cons (.pr .mul (.cons (.v 5) (.cons (.c (.int 2147483647)) .nil))) (.cons (.v 4) .nil)))) .nil))) (.cons (.ret (.cell (.lst (.cons (.v 5) .nil)))) .nil)))))))),none⟩
noncomputable def ef:FD:=⟨8,(.cons (.set 2 (.cell (.lst .nil))) (.cons (.set 3 (.pr .neg (.cons (.c (.int 1)) .nil))) (.cons (.set 4 (.call 500 (.cons (.v 0) (.cons (.c (.int 4)) .nil)))) (.cons (.fr (.v 5) (.rng (.cons (.pr .add (.cons (.c (.int 1)) (.cons (.call 500 (.cons (.v 0) (.cons (.v 1) .nil))) .nil))) .nil)) (.cons (.set 3 (.pr .add (.cons (.pr .add (.cons (.v 3) (.cons (.c (.int 1)) .nil))) (.cons (.call 500 (.cons (.v 0) (.cons (.pr .ix (.cons (.lst (.cons (.c (.int 1)) (.cons (.c (.int 4)) (.cons (.c (.int 300)) (.cons (.c (.int 2)) .nil))))) (.cons (.v 4) .nil))) .nil))) .nil)))) (.cons (.ex (.bm .append (.v 2) (.cons (.tup (.cons (.v 3) (.cons (.pr .add (.cons (.c (.int 1)) (.cons (.call 500 (.cons (.v 0) (.cons (.pr .ix (.cons (.lst (.cons (.c (.int 4)) (.cons (.c (.int 9)) (.cons (.c (.int 60)) (.cons (.c (.int 6)) .nil))))) (.cons (.v 4) .nil))) .nil))) .nil))) .nil))) .nil))) .nil))) (.cons (.wh (.e (.pr (.cmp .gt) (.cons (.pr .sum (.cons (.comp 2 [] (.tup [0,1]) (.seq (.v 2)) .tt (.pr .shl (.cons (.c (.int 1)) (.cons (.pr .sub (.cons (.c (.int 60)) (.cons (.v 1) .nil))) .nil)))) .nil)) (.cons (.pr .shl (.cons (.c (.int 1)) (.cons (.c (.int 60)) .nil))) .nil)))) (.cons (.set 6 (.comp 2 [] (.tup [0,1]) (.seq (.v 2)) .tt (.v 1))) (.cons (.set 7 (.bm .index (.v 6) (.cons (.pr .min1 (.cons (.v 6) .nil)) .nil))) (.cons (.setix (.v 2) (.v 7) (.tup (.cons (.pr .ix (.cons (.pr .ix (.cons (.v 2) (.cons (.v 7) .nil))) (.cons (.c (.int 0)) .nil))) (.cons (.pr .add (.cons (.pr .ix (.cons (.v 6) (.cons (.v 7) .nil))) (.cons (.c (.int 1)) .nil))) .nil)))) .nil)))) (.cons (.ret (.fz (.v 2))) .nil)))))),none⟩
noncomputable def cG:FD:=⟨4,(.cons (.set 1 (.c (.bl false))) (.cons (.set 2 (.pr .list (.cons (.v 0) .nil))) (.cons (.tryC 33 (.cons (.v 2) .nil) 3 [(7,[.set 1 (.and (.inst true) (.one (.inst true))),.set 1 (.and (.v 1 true) (.one (.not (.inst false)))),.set 1 (.and (.v 1 true) (.one (.not (.inst false))))])]) (.cons (.ret (.and (.v 1) (.pr (.cmp .eq) (.cons (.v 2) (.cons (.v 0) .nil))))) .nil)))),none⟩
noncomputable def fq:FD:=⟨5,(.cons (.set 1 (.pr .sub (.cons (.pr .shl (.cons (.c (.int 1)) (.cons (.c (.int 60)) .nil))) (.cons (.pr .sum (.cons (.comp 2 [] (.tup [0,1]) (.seq (.v 0)) .tt (.pr .shl (.cons (.c (.int 1)) (.cons (.pr .sub (.cons (.c (.int 60)) (.cons (.v 1) .nil))) .nil)))) .nil)) .nil)))) (.cons (.set 2 (.cell (.pr .list (.cons (.v 0) .nil)))) (.cons (.set 3 (.pr .ix (.cons (.pr .ix (.cons (.v 0) (.cons (.pr .neg (.cons (.c (.int 1)) .nil)) .nil))) (.cons (.c (.int 0)) .nil)))) (.cons (.fr (.v 4) (.rng (.cons (.c (.int 1)) (.cons (.c (.int 61)) .nil))) (.cons (.ite (.e (.pr (.cmp .eq) (.cons (.pr .band (.cons (.pr .shr (.cons (.v 1) (.cons (.pr .sub (.cons (.c (.int 60)) (.cons (.v 4) .nil))) .nil))) (.cons (.c (.int 1)) .nil))) (.cons (.c (.int 1)) .nil)))) (.cons (.set 3 (.pr .add (.cons (.v 3) (.cons (.c (.int 1)) .nil)))) (.cons (.ex (.bm .append (.v 2) (.cons (.tup (.cons (.v 3) (.cons (.v 4) .nil))) .nil))) .nil)) .nil) .nil)) (.cons (.ret (.v 2)) .nil))))),none⟩
noncomputable def dj:FD:=⟨8,(.cons (.set 2 (.cell (.pr .list (.cons (.v 1) .nil)))) (.cons (.set 3 (.call 500 (.cons (.v 0) (.cons (.pr .len (.cons (.v 2) .nil)) .nil)))) (.cons (.tset [4,5] (.pr .ix (.cons (.v 2) (.cons (.v 3) .nil)))) (.cons (.set 6 (.call 500 (.cons (.v 0) (.cons (.pr .ix (.cons (.lst (.cons (.c (.int 10)) (.cons (.c (.int 100)) (.cons (.pr .pow (.cons (.c (.int 10)) (.cons (.c (.int 9)) .nil))) (.cons (.pr .pow (.cons (.c (.int 10)) (.cons (.c (.int 38)) .nil))) .nil))))) (.cons (.call 500 (.cons (.v 0) (.cons (.c (.int 4)) .nil))) .nil))) .nil)))) (.cons (.set 7 (.call 500 (.cons (.v 0) (.cons (.c (.int 6)) .nil)))) (.cons (.ite (.e (.pr (.cmp .eq) (.cons (.v 7) (.cons (.c (.int 0)) .nil)))) (.cons (.ret (.lst .nil)) .nil) .nil) (.cons (.ite (.e (.pr (.cmp .eq) (.cons (.v 7) (.cons (.c (.int 1)) .nil)))) (.cons (.setix (.v 2) (.v 3) (.tup (.cons (.v 4) (.cons (.pr .sub (.cons (.c (.int 0)) (.cons (.v 6) .nil))) .nil)))) .nil) (.cons (.ite (.e (.pr (.cmp .eq) (.cons (.v 7) (.cons (.c (.int 2)) .nil)))) (.cons (.setix (.v 2) (.v 3) (.tup (.cons (.v 4) (.cons (.pr .add (.cons (.c (.int 61)) (.cons (.v 6) .nil))) .nil)))) .nil) (.cons (.ite (.e (.pr (.cmp .eq) (.cons (.v 7) (.cons (.c (.int 3)) .nil)))) (.cons (.setix (.v 2) (.c (.int 0)) (.tup (.cons (.pr .sub (.cons (.pr .neg (.cons (.c (.int 1)) .nil)) (.cons (.v 6) .nil))) (.cons (.pr .ix (.cons (.pr .ix (.cons (.v 2) (.cons (.c (.int 0)) .nil))) (.cons (.c (.int 1)) .nil))) .nil)))) .nil) (.cons (.ite (.e (.pr (.cmp .eq) (.cons (.v 7) (.cons (.c (.int 4)) .nil)))) (.cons (.ex (.bm .insert (.v 2) (.cons (.v 3) (.cons (.tup (.cons (.pr .add (.cons (.v 4) (.cons (.v 6) .nil))) (.cons (.v 5) .nil))) .nil)))) .nil) (.cons (.set 2 (.call 504 (.cons (.v 1) .nil))) (.cons (.ex (.bm .append (.v 2) (.cons (.tup (.cons (.pr .add (.cons (.pr .add (.cons (.pr .ix (.cons (.pr .ix (.cons (.v 2) (.cons (.pr .neg (.cons (.c (.int 1)) .nil)) .nil))) (.cons (.c (.int 0)) .nil))) (.cons (.c (.int 1)) .nil))) (.cons (.v 6) .nil))) (.cons (.c (.int 60)) .nil))) .nil))) .nil))) .nil)) .nil)) .nil)) (.cons (.ret (.fz (.v 2))) .nil)))))))),none⟩
noncomputable def qD:FD:=⟨4,(.cons (.set 1 (.call 502 (.cons (.call 501 (.cons (.v 0) (.cons (.c (.int 0)) .nil))) (.cons (.c (.int 30)) .nil)))) (.cons (.set 2 (.call 504 (.cons (.v 1) .nil))) (.cons (.ite (.or (.e (.pr (.cmp .ne) (.cons (.pr .len (.cons (.callP 33 (.cons (.pr .list (.cons (.v 1) .nil)) .nil)) .nil)) (.cons (.pr .len (.cons (.v 1) .nil)) .nil)))) (.e (.pr (.cmp .ne) (.cons (.pr .len (.cons (.callP 33 (.cons (.pr .list (.cons (.v 2) .nil)) .nil)) .nil)) (.cons (.pr .len (.cons (.v 2) .nil)) .nil))))) (.cons (.ret (.c (.bl false))) .nil) .nil) (.cons (.fr (.v 3) (.rng (.cons (.c (.int 4)) .nil)) (.cons (.ite (.not (.e (.callP 503 (.cons (.call 505 (.cons (.call 501 (.cons (.v 0) (.cons (.pr .add (.cons (.c (.int 1)) (.cons (.v 3) .nil))) .nil))) (.cons (.v 1) .nil))) .nil)))) (.cons (.ret (.c (.bl false))) .nil) .nil) .nil)) (.cons (.ret (.and (.callP 503 (.cons (.lst .nil) .nil)) (.pr (.cmp .eq) (.cons (.pr .ix (.cons (.pr .ix (.cons (.callP 33 (.cons (.pr .list (.cons (.v 1) .nil)) .nil)) (.cons (.c (.int 0)) .nil))) (.cons (.c (.int 0)) .nil))) (.cons (.pr .ix (.cons (.pr .ix (.cons (.v 1) (.cons (.c (.int 0)) .nil))) (.cons (.c (.int 0)) .nil))) .nil))))) .nil))))),none⟩
noncomputable def fns:List (Nat × FD):=[(0,cJ),(2,dW),(32,aT),(33,de),(500,eY),(501,dZ),(502,ef),(503,cG),(504,fq),(505,dj),(506,qD)]
noncomputable def gls:List (Nat × D):=[(0,(.int 1)),(12,(.int 60))]
noncomputable def xh:List ((Nat × Nat) × Nat):=[]
noncomputable def D9:List (Nat × Nat):=[]
noncomputable def P:Pg where
 fn:=fun f=>fns.lookup f
 g:=fun i=>(gls.lookup i).getD .non
 meth:=fun c m=>xh.lookup (c,m)
 ini:=fun c=>D9.lookup c
theorem p_0:P.fn 0=some cJ:=rfl
theorem p_2:P.fn 2=some dW:=rfl
theorem Ca:P.fn 32=some aT:=rfl
theorem xY:P.fn 33=some de:=rfl
theorem xb:P.fn 500=some eY:=rfl
theorem wO:P.fn 501=some dZ:=rfl
theorem wK:P.fn 502=some ef:=rfl
theorem wm:P.fn 503=some cG:=rfl
theorem w4:P.fn 504=some fq:=rfl
theorem wq:P.fn 505=some dj:=rfl
theorem wH:P.fn 506=some qD:=rfl
theorem g_0:P.g 0=(.int 1):=rfl
theorem zu:P.g 12=(.int 60):=rfl
end K18
namespace K18
open I
local macro_rules | `(tactic| walk_at "ok") => `(tactic| simp (config := {dsimp := false}) only [Di, Ce, Bool.not_true, Bool.not_false, true_and, and_true, List.length_cons, List.length_nil, List.length_map, true_implies, false_implies, Bool.true_eq_false, Bool.false_eq_true, reduceCtorEq, Nat.reduceEqDiff, ↓reduceIte, decide_true, decide_false, *])
noncomputable abbrev prs (cs:List (Int × Int)):List D:=cs.map fun p=>D.tup [.int p.1,.int p.2]
theorem u7 {W k n:Nat} {os:OS} {z m:Int} (hn:aa os n=some (.lst [.int z])) (h0:0<m) (h1:m<2 ^ 200):call P W (k+1) 500 [.cel n,.int m] os=.ok (.int (z % m)) (os.set n (some (.lst [.int (z / m)]))):=by
 have i0:aO (0+1) 0=some 0:=rfl
 have e0:([D.int z]:List D)[0]?=some (.int z):=rfl
 have s0:∀ d:D,([D.int z]:List D).set 0 d=[d]:=fun _=>rfl
 have:Ok (call P W (k+1) 500 [.cel n,.int m] os) (fun d os'=>d=.int (z % m)/\os'=os.set n (some (.lst [.int (z / m)]))):=by
  refine aW [some (.cel n),some (.int m),none] xb rfl ?_
  rw [aq]; walk_at "ok"
  rw [aq]; walk_at "ok"
  rw [bw]; walk_at "ok"
 obtain ⟨a,os',e,rfl,rfl⟩:=this.get
 exact e
set_option exponentiation.threshold 3000 in
theorem lu {W k:Nat} {os:OS} {ns:List Int} {j:Int} (h0:0<=j):∃ z,call P W (k+1) 501 [.scr (aB ns),.int j] os=.ok (.cel os.length) (os++[some (.lst [.int z])]):=by
 have:Ok (call P W (k+1) 501 [.scr (aB ns),.int j] os) (fun d os'=>d=.cel os.length/\∃ z,os'=os++[some (.lst [.int z])]):=by
  refine aW [some (.scr (aB ns)),some (.int j),none,none,none,none,none] wO rfl ?_
  rw [aq]; walk_at "ok"
  refine dH (fun ρ' os'=>∃ c:Int,ρ'=[some (.scr (aB ns)),some (.int j),some (.int c),none,none,none,none]/\os=os') ?_ ?_
  ·walk_at "ok"
   refine ⟨fun h => ?_,fun h => ?_⟩
   ·have hj:=of_decide_eq_true h
    have e1:=gQ h0 hj
    have e2:=tT (a:=ns) (i:=j.toNat) (by omega)
    rw [bw]; walk_at "ok"
    exact ⟨_,rfl⟩
   ·exact ⟨_,rfl⟩
  ·rintro ρ' os' ⟨c,rfl,rfl⟩
   rw [aq]; walk_at "ok"
   refine ⟨by decide,by decide,jf (by decide) (by decide),by decide,jf (by decide) (by decide),by decide,?_⟩
   generalize c % _=dg
   rw [aq]; walk_at "ok"
   refine ⟨by decide,fun _ => ?_,fun _ => ?_⟩
   ·rw [bw]; walk_at "ok"
    exact ⟨_,rfl⟩
   ·rw [aq]; walk_at "ok"
    refine ⟨by decide,?_⟩
    have m0:0<=(c+(ns.length:Int)) % 2147483647:=Int.emod_nonneg _ (by decide)
    have m1:(c+(ns.length:Int)) % 2147483647<2147483647:=Int.emod_lt_of_pos _ (by decide)
    generalize (c+(ns.length:Int)) % 2147483647=mx at m0 m1
    rw [aq]; walk_at "ok"
    refine dH (fun ρ' os'=>∃ a b d:Int,ρ'=[some (.scr (aB ns)),some (.int j),some (.int c),some (.int dg),some (.int a),some (.int b),some (.int d)]/\os=os') ?_ ?_
    ·walk_at "ok"
     refine ⟨by decide,ig (fun i ρ' os'=>∃ a b:Int,∃ d:Option D,(i≠0->∃ d',d=some (.int d'))/\ρ'=[some (.scr (aB ns)),some (.int j),some (.int c),some (.int dg),some (.int a),some (.int b),d]/\os=os') _ ⟨mx,0,none,fun h=>absurd rfl h,rfl,rfl⟩ ?_ ?_⟩
     ·rintro i x ρ' os' hx ⟨a,b,d,_,rfl,rfl⟩
      obtain ⟨hi,rfl⟩:=j7 hx
      refine ⟨True.intro,_,rfl,?_⟩
      rw [aq]; walk_at "ok"
      refine ⟨jo (by decide),ik (by have:i<16:=hi; simp only [Int.natAbs_natCast]; omega),ik (by decide),by decide,?_⟩
      rw [bw]; walk_at "ok"
      exact ⟨jo (by decide),.inl ⟨_,_,_,fun _=>⟨_,rfl⟩,rfl⟩⟩
     ·rintro ρ' os' ⟨a,b,d,hd,rfl,rfl⟩
      obtain ⟨d',rfl⟩:=hd (by simp)
      exact ⟨True.intro,rfl,a,b,d',rfl,rfl⟩
    ·rintro ρ' os' ⟨a,b,d,rfl,rfl⟩
     rw [bw]; walk_at "ok"
     exact ⟨_,rfl⟩
 obtain ⟨a,os',e,rfl,z,rfl⟩:=this.get
 exact ⟨z,e⟩
noncomputable def Dr (os:OS) (n:Nat):Prop:=∃ z:Int,aa os n=some (.lst [.int z])
theorem bK {W k n:Nat} {os:OS} {m:Int} {Ψ:D->OS->Prop} (h:Dr os n) (h0:0<m) (h1:m<2 ^ 200) (hq:∀ v os',0<=v->v<m->Dr os' n->(∀ q,q≠n->aa os' q=aa os q)->os'.length=os.length->Ψ (.int v) os'):Ok (call P W (k+1) 500 [.cel n,.int m] os) Ψ:=by
 obtain ⟨z,h⟩:=h
 rw [u7 h h0 h1,bH]
 exact hq _ _ (Int.emod_nonneg _ (by omega)) (Int.emod_lt_of_pos _ h0) ⟨_,fv (fP h)⟩ (fun q hq=>bC fun e=>hq e.symm) (by rw [List.length_set])
theorem same_int {i j:Int}:D.same (.int i) (.int j)=decide (i=j):=rfl
theorem rX {i j:Int} {v:D} {kvs:List (D × D)} (hk:∀ p∈kvs,∃ i,p.1=.int i):bu (.int j) (et (.int i) v kvs)=if j=i then some v else bu (.int j) kvs:=by
 unfold et
 by_cases h:(kvs.any fun p=>D.same p.1 (.int i))=true
 ·rw [if_pos h]
  induction kvs with
  | nil=>cases h
  | cons p r ih =>
   obtain ⟨⟨a,ha⟩,hr⟩:=List.forall_mem_cons.mp hk
   obtain ⟨pk,pv⟩:=p
   cases (show pk=.int a from ha)
   rw [List.map_cons]
   by_cases e:a=i
   ·subst e
    rw [if_pos (by rw [same_int]; exact decide_eq_true rfl)]
    show (if D.same (.int a) (.int j)=true then some v else bu (.int j) _)=if j=a then some v else (if D.same (.int a) (.int j)=true then some pv else bu (.int j) r)
    rw [same_int]
    by_cases e2:j=a
    ·subst e2; simp
    ·rw [if_neg (by simpa using fun z=>e2 z.symm),if_neg e2,if_neg (by simpa using fun z=>e2 z.symm)]
     by_cases h2:(r.any fun p=>D.same p.1 (.int a))=true
     ·rw [ih hr h2,if_neg e2]
     ·have:r.map (fun p=>if D.same p.1 (.int a)=true then (p.1,v) else p)=r:=by
       refine (List.map_congr_left fun p hp=>if_neg fun z=>h2 ?_).trans (List.map_id _)
       exact List.any_eq_true.mpr ⟨p,hp,z⟩
      rw [this]
   ·have h2:(r.any fun p=>D.same p.1 (.int i))=true:=by
     rw [List.any_cons,same_int,decide_eq_false e,Bool.false_or] at h
     exact h
    rw [if_neg (by rw [same_int]; simpa using e)]
    show (if D.same (.int a) (.int j)=true then some pv else bu (.int j) _)=if j=i then some v else (if D.same (.int a) (.int j)=true then some pv else bu (.int j) r)
    rw [same_int,ih hr h2]
    by_cases e2:a=j
    ·subst e2; simp [e]
    ·simp [e2]
 ·rw [if_neg h]
  induction kvs with
  | nil =>
   show (if D.same (.int i) (.int j)=true then some v else none)=if j=i then some v else none
   rw [same_int]
   by_cases e:j=i
   ·subst e; simp
   ·rw [if_neg (by simpa using fun z=>e z.symm),if_neg e]
  | cons p r ih =>
   obtain ⟨⟨a,ha⟩,hr⟩:=List.forall_mem_cons.mp hk
   obtain ⟨pk,pv⟩:=p
   cases (show pk=.int a from ha)
   rw [List.any_cons,Bool.or_eq_true,not_or] at h
   show (if D.same (.int a) (.int j)=true then some pv else bu (.int j) (r++_))=if j=i then some v else (if D.same (.int a) (.int j)=true then some pv else bu (.int j) r)
   rw [ih hr h.2,same_int]
   have ne:a≠i:=by have:=h.1; rw [same_int] at this; simpa using this
   by_cases e2:a=j
   ·subst e2; simp [ne]
   ·simp [e2]
theorem qi {i:Int} {v:D} {kvs:List (D × D)} (hk:∀ p∈kvs,∃ i,p.1=.int i):∀ p∈et (.int i) v kvs,∃ i,p.1=.int i:=by
 unfold et
 intro p hp
 split at hp
 ·obtain ⟨q,hq,rfl⟩:=List.mem_map.mp hp
  split
  ·exact hk q hq
  ·exact hk q hq
 ·rcases List.mem_append.mp hp with hp | hp
  ·exact hk p hp
  ·rw [List.mem_singleton.mp hp]; exact ⟨i,rfl⟩
theorem uo {i:Int} {v:D} {kvs:List (D × D)}:(et (.int i) v kvs).length<=kvs.length+1:=by
 unfold et
 split
 ·rw [List.length_map]; omega
 ·rw [List.length_append]; simp
theorem oY {ns:List Int} (h:ns≠[]):∃ m,mL ns=some m/\m∈ns/\∀ b∈ns,m<=b:=by
 cases ns with
 | nil=>exact absurd rfl h
 | cons x r =>
  refine ⟨_,rfl,?_⟩
  have key:∀ (r:List Int) (x:Int),r.foldl (fun a b=>if b<a then b else a) x<=x/\(∀ a∈r,r.foldl (fun a b=>if b<a then b else a) x<=a)/\(r.foldl (fun a b=>if b<a then b else a) x=x\/r.foldl (fun a b=>if b<a then b else a) x∈r):=by
   intro r
   induction r with
   | nil=>exact fun x=>⟨Int.le_refl _,fun a h=>(List.not_mem_nil h).elim,.inl rfl⟩
   | cons y r ih =>
    intro x
    obtain ⟨h1,h2,h3⟩:=ih (if y<x then y else x)
    show r.foldl _ (if y<x then y else x)<=x/\(∀ a∈y::r,r.foldl _ (if y<x then y else x)<=a)/\(r.foldl _ (if y<x then y else x)=x\/r.foldl _ (if y<x then y else x)∈y::r)
    have hx:(if y<x then y else x)<=x:=by split <;> omega
    have hy:(if y<x then y else x)<=y:=by split <;> omega
    refine ⟨Int.le_trans h1 hx,fun a ha => ?_,?_⟩
    ·rcases List.mem_cons.mp ha with rfl | ha
     ·exact Int.le_trans h1 hy
     ·exact h2 a ha
    ·rcases h3 with h3 | h3
     ·by_cases e:y<x
      ·rw [if_pos e] at h3 ⊢; exact .inr (by rw [h3]; exact .head _)
      ·rw [if_neg e] at h3 ⊢; exact .inl h3
     ·exact .inr (.tail _ h3)
  obtain ⟨g1,g2,g3⟩:=key r x
  refine ⟨?_,fun b hb => ?_⟩
  ·rcases g3 with g | g
   ·rw [g]; exact .head _
   ·exact .tail _ g
  ·rcases List.mem_cons.mp hb with rfl | hb
   ·exact g1
   ·exact g2 b hb
section
variable {α β:Type}
theorem ins_map (f:α->β) (le:β->β->Bool) (x:α):∀ l:List α,aY le (f x) (l.map f)=(aY (fun a b=>le (f a) (f b)) x l).map f
 | []=>rfl
 | y::r=>by
  show (if le (f x) (f y) then f x::f y::r.map f else f y::aY le (f x) (r.map f))=(if le (f x) (f y) then x::y::r else y::aY (fun a b=>le (f a) (f b)) x r).map f
  rw [ins_map f le x r]
  split <;> rfl
theorem sort_map (f:α->β) (le:β->β->Bool):∀ l:List α,sortBy le (l.map f)=(sortBy (fun a b=>le (f a) (f b)) l).map f
 | []=>rfl
 | x::r=>by
  show aY le (f x) (sortBy le (r.map f))=_
  rw [sort_map f le r,ins_map]
  rfl
theorem cg {le:α->α->Bool} {x:α}:∀ {l:List α},(aY le x l).Perm (x::l)
 | []=>.refl _
 | y::r=>by
  show (if le x y then x::y::r else y::aY le x r).Perm _
  split
  ·exact .refl _
  ·exact (List.Perm.cons y cg).trans (.swap ..)
theorem aN {le:α->α->Bool}:∀ {l:List α},(sortBy le l).Perm l
 | []=>.refl _
 | x::r=>cg.trans (.cons x aN)
theorem il {k:α->Int} {x:α}:∀ {l:List α},(l.Pairwise fun a b=>k a<=k b)->((aY (fun a b=>decide (k a<=k b)) x l).Pairwise fun a b=>k a<=k b)
 | [],_=>List.pairwise_singleton _ _
 | y::r,h=>by
  obtain ⟨h1,h2⟩:=List.pairwise_cons.mp h
  show (if decide (k x<=k y)=true then x::y::r else y::aY _ x r).Pairwise _
  by_cases c:k x<=k y
  ·rw [if_pos (decide_eq_true c)]
   refine List.pairwise_cons.mpr ⟨fun z hz => ?_,h⟩
   rcases List.mem_cons.mp hz with rfl | hz
   ·exact c
   ·exact Int.le_trans c (h1 z hz)
  ·rw [if_neg (by simpa using c)]
   refine List.pairwise_cons.mpr ⟨fun z hz => ?_,il h2⟩
   rcases List.mem_cons.mp (cg.mem_iff.mp hz) with rfl | hz
   ·omega
   ·exact h1 z hz
theorem eR {k:α->Int}:∀ {l:List α},((sortBy (fun a b=>decide (k a<=k b)) l).Pairwise fun a b=>k a<=k b)
 | []=>.nil
 | _::_=>il eR
end
noncomputable abbrev at' (ps:List (Int × Int)) (i:Nat):Int × Int:=ps.getD i (0,0)
noncomputable def ixs (ps:List (Int × Int)):List Nat:=sortBy (fun a b=>decide ((at' ps a).2<=(at' ps b).2)) (List.range ps.length)
noncomputable def qs (ps:List (Int × Int)):List (Int × Int):=(ixs ps).map (at' ps)
theorem qO {ps:List (Int × Int)}:(List.range ps.length).map (at' ps)=ps:=by
 apply List.ext_getElem
 ·simp
 ·intro i h1 h2; simp [at',List.getD,List.getElem?_eq_getElem h2]
theorem kH {ps:List (Int × Int)}:(ixs ps).Perm (List.range ps.length):=aN
theorem uX {ps:List (Int × Int)}:(ixs ps).length=ps.length:=by rw [kH.length_eq,List.length_range]
theorem xx {ps:List (Int × Int)}:(qs ps).length=ps.length:=by unfold qs; rw [List.length_map,uX]
theorem oB {ps:List (Int × Int)}:(qs ps).Perm ps:=by
 have:=(kH (ps:=ps)).map (at' ps)
 rwa [qO] at this
theorem Cz {ps:List (Int × Int)}:(qs ps).Pairwise fun a b=>a.2<=b.2:=by
 unfold qs
 rw [List.pairwise_map]
 exact eR
noncomputable def rm (l:Int):Int:=1 * 2 ^ (60 - l).toNat
noncomputable def kr (ps:List (Int × Int)):Int:=(ps.map fun p=>rm p.2).sum
theorem mD (l:Int):0<rm l:=by unfold rm; rw [Int.one_mul]; exact Int.pow_pos (by decide)
theorem fu {p:Int × Int} {ps:List (Int × Int)}:kr (p::ps)=rm p.2+kr ps:=by unfold kr; rw [List.map_cons,List.sum_cons]
theorem lQ {a b:List (Int × Int)}:kr (a++b)=kr a+kr b:=by unfold kr; rw [List.map_append,List.sum_append]
theorem vY:∀ {ps:List (Int × Int)},0<=kr ps
 | []=>Int.le_refl _
 | p::ps=>by rw [fu]; have:=mD p.2; have:=vY (ps:=ps); omega
section
variable {q:List (Int × Int)}
theorem bQ {i:Nat} (h:i<q.length):at' q i=q[i]:=by simp [at',List.getD,List.getElem?_eq_getElem h]
end
noncomputable def bb (c:Int):Nat->List Int
 | 0=>[]
 | l+1=>bb (c / 2) l++[c % 2]
theorem hU:∀ (l:Nat) (c:Int),(bb c l).length=l
 | 0,_=>rfl
 | l+1,c=>by show (bb (c / 2) l++[c % 2]).length=_; rw [List.length_append,hU l]; rfl
theorem pow_succ' (l:Nat):(2:Int) ^ (l+1)=2 * 2 ^ l:=by rw [Int.pow_succ,Int.mul_comm]
theorem wz:∀ (l:Nat) (c:Int) (a:Nat),a<l->(bb c l)[a]?=some (c / 2 ^ (l - 1 - a) % 2)
 | 0,_,_,h=>by omega
 | l+1,c,a,h=>by
  show (bb (c / 2) l++[c % 2])[a]?=_
  by_cases e:a<l
  ·rw [List.getElem?_append_left (by rw [hU]; exact e),wz l (c / 2) a e,Int.ediv_ediv_of_nonneg (by decide),<-pow_succ']
   congr 4
   omega
  ·rw [List.getElem?_append_right (by rw [hU]; omega),hU,show a - l=0 by omega,show l+1 - 1 - a=0 by omega]
   simp
theorem nq {x:Int} (h:0<=x):fA x 1=x % 2:=by
 unfold fA
 rw [show (1:Int).toNat=1 from rfl,Nat.and_one_is_mod]
 omega
noncomputable def onP (g:Int->Int->D):D->Option D
 | .tup [.int a,.int b]=>some (g a b)
 | _=>none
theorem uL (g:Int->Int->D) (ps:List (Int × Int)):(prs ps).filterMap (onP g)=ps.map fun p=>g p.1 p.2:=by
 induction ps with
 | nil=>rfl
 | cons p r ih =>
  show (D.tup [.int p.1,.int p.2]::prs r).filterMap (onP g)=_
  rw [List.filterMap_cons]
  show g p.1 p.2::(prs r).filterMap (onP g)=_
  rw [ih]; rfl
theorem dN {K:Orc} {os:OS} {ps:List (Int × Int)} {el:E} {ρ:Fr} {fr:List Nat} {live:OS->Prop} [DecidablePred live] {Φ:List D->OS->Prop} (hl:live os) (g:Int->Int->D)
  (he:∀ p∈ps,Ok (ev P K el (some (.int p.1)::some (.int p.2)::fr.map (fun j=>lk ρ j)) os) (fun y os'=>y=g p.1 p.2/\os'=os)) (hq:Φ (ps.map fun p=>g p.1 p.2) os) :
  Ok (cz (f:=⟨fun x os2=>eW (jg (k:=⟨fun τ os3=>(evC P K .tt τ os3).bind (k:=⟨fun b os4=>eh (a:=⟨fun os5=>(ev P K el τ os5).bind (k:=⟨fun y os6=>.ok (some y) os6⟩)⟩) (b:=⟨fun os5=>.ok none os5⟩) b os4⟩)⟩) os2 (aF (.tup [0,1]) x (fW ρ 2 fr)))⟩) live (prs ps) os) Φ:=by
 refine kC hl (onP g) _ (fun x hx => ?_) (by rw [uL]; exact hq)
 obtain ⟨p,hp,rfl⟩:=List.mem_map.mp hx
 have h:=he p hp
 refine rz ⟨some (.int p.1)::some (.int p.2)::fr.map (fun j=>lk ρ j),rfl,?_⟩
 walk_at "ok"
 refine Ok.mono h ?_
 rintro y os' ⟨rfl,rfl⟩
 exact ⟨rfl,rfl⟩
theorem p4 (ps:List (Int × Int)):(ps.map fun p=>D.int (1 * 2 ^ (60 - p.2).toNat))=aB (ps.map fun p=>rm p.2):=by
 unfold aB; rw [List.map_map]; rfl
theorem oV {W k:Nat} {os:OS} {c l:Int} (h0:0<=c) (l0:0<=l) (l1:l<=60):call P W (k+1) 0 [.int c,.int 1,.int l] os=.ok (.lst (aB (bb c l.toNat))) os:=by
 refine Ok.eq ?_
 refine aW [some (.int c),some (.int 1),some (.int l),none] p_0 rfl ?_
 rw [aq]; walk_at "ok"
 rw [bw]; walk_at "ok"
 refine ⟨by decide,by omega,by rw [List.length_range]; unfold SZ; omega,?_⟩
 refine kC (by trivial) (fun d=>match d with | .int a=>some (.int (c / 2 ^ (l.toNat - 1 - a.toNat) % 2)) | _=>none) _ (fun x hx => ?_) ?_
 ·obtain ⟨a,ha,rfl⟩:=List.mem_map.mp hx
  have ha:=List.mem_range.mp ha
  refine rz ⟨[some (.int (a:Nat)),some (.int c),some (.int 1),some (.int l),some (.int (1 * 2 ^ (1:Int).toNat - 1))],rfl,?_⟩
  have m1:iu 1 (l - 1 - (a:Nat)):=ik (by decide)
  have p0:(0:Int)<=c / 2 ^ (1 * (l - 1 - (a:Nat))).toNat:=Int.ediv_nonneg h0 (Int.le_of_lt (Int.pow_pos (by decide)))
  have b0:fA (c / 2 ^ (1 * (l - 1 - (a:Nat))).toNat) (1 * 2 ^ (1:Int).toNat - 1)=c / 2 ^ (l.toNat - 1 - a) % 2:=by
   have e1:(1 * (l - 1 - (a:Nat)):Int).toNat=l.toNat - 1 - a:=by omega
   have:=nq p0
   rw [e1] at this ⊢
   exact this
  have q0:(0:Int)<=1 * (l - 1 - (a:Nat)):=by omega
  have q1:(0:Int)<=1 * 2 ^ (1:Int).toNat - 1:=by decide
  walk_at "ok"
  rfl
 ·refine ⟨?_,rfl⟩
  congr 1
  rw [List.filterMap_map]
  have:((fun d=>match d with | D.int a=>some (D.int (c / 2 ^ (l.toNat - 1 - a.toNat) % 2)) | _=>none) ∘ fun k:Nat=>D.int (k:Nat))=some ∘ fun k:Nat=>D.int (c / 2 ^ (l.toNat - 1 - k) % 2):=by
   funext k; rfl
  rw [this,List.filterMap_eq_map]
  apply List.ext_getElem?
  intro a
  by_cases e:a<l.toNat
  ·unfold aB
   rw [List.getElem?_map,List.getElem?_map,wz _ _ _ e,List.getElem?_range e]; rfl
  ·rw [List.getElem?_eq_none (by simp; omega),List.getElem?_eq_none (by simp [hU]; omega)]
theorem ui {W k:Nat} {os:OS} {c l:Int} (h0:0<=c) (l0:0<=l) (l1:l<=60):aS os (call P W (k+2) 2 [.int c,.int l] os)=.ok (.lst (aB (bb c l.toNat))) os:=by
 have:call P W (k+2) 2 [.int c,.int l] os=.ok (.lst (aB (bb c l.toNat))) os:=by
  refine Ok.eq ?_
  have g0:=g_0
  have pc:aS os (call P W (k+1) 0 [.int c,.int 1,.int l] os)=.ok (.lst (aB (bb c l.toNat))) os:=by rw [oV h0 l0 l1]; exact oC
  refine aW [some (.int c),some (.int l)] p_2 rfl ?_
  rw [bw]; walk_at "ok"
 rw [this]; exact oC
theorem uB {ps:List (Int × Int)} {i:Nat} {x:D} (h:(prs ps)[i]?=some x):i<ps.length/\x=.tup [.int (at' ps i).1,.int (at' ps i).2]:=by
 have hi:i<ps.length:=by have:=(List.getElem?_eq_some_iff.mp h).1; simpa using this
 refine ⟨hi,?_⟩
 rw [List.getElem?_map,List.getElem?_eq_getElem hi] at h
 rw [bQ hi]
 exact (Option.some.inj h).symm
section
variable {K:Orc} {W:Nat} {ρ ρ':Fr} {os os':OS}
theorem iS {s:S} {r:Ss} (h:exec P K W s ρ os=.ok (.nx,ρ') os'):execs P K W (.cons s r) ρ os=execs P K W r ρ' os':=by
 show (exec P K W s ρ os).bind (k:=⟨sj (k:=⟨fun ρ1 os1=>execs P K W r ρ1 os1⟩)⟩)=_
 rw [h]; rfl
theorem fK {s:S} {r:Ss} {c:Nat} {p:Option Int} (h:exec P K W s ρ os=.exc c p os'):execs P K W (.cons s r) ρ os=.exc c p os':=by
 show (exec P K W s ρ os).bind (k:=⟨sj (k:=⟨fun ρ1 os1=>execs P K W r ρ1 os1⟩)⟩)=_
 rw [h]; rfl
theorem dD {c:C} {a b:Ss} {t:Bool} (h:evC P K c ρ os=.ok t os'):exec P K W (.ite c a b) ρ os=if t=true then execs P K W a ρ os' else execs P K W b ρ os':=by
 show (evC P K c ρ os).bind (k:=⟨eh (a:=⟨fun os1=>execs P K W a ρ os1⟩) (b:=⟨fun os1=>execs P K W b ρ os1⟩)⟩)=_
 rw [h]
 cases t <;> rfl
end
noncomputable def go:Int->List (Int × Int)->Bool
 | _,[]=>true
 | a,p::r=>decide (a<p.1)&&(decide (1<=p.2)&&decide (p.2<=60))&&go p.1 r
noncomputable abbrev tb:Ss:=match aT.body with | .cons _ (.cons _ (.cons (.fr _ _ b) _))=>b | _=>.nil
theorem nH {K:Orc} {W:Nat} {os:OS} {d0:Option D} {a s l:Int}:execs P K W tb [d0,some (.int a),some (.int s),some (.int l)] os=if (decide (a<s)&&(decide (1<=l)&&decide (l<=60)))=true then .ok (.nx,[d0,some (.int s),some (.int s),some (.int l)]) os else .exc 7 none os:=by
 show execs P K W (.cons (.ite _ _ _) (.cons (.ite _ _ _) (.cons (.set 1 (.v 2)) .nil))) _ _=_
 have e1:evC P K (.e (.pr (.cmp .le) (.cons (.v 2) (.cons (.v 1) .nil)))) [d0,some (.int a),some (.int s),some (.int l)] os=.ok (decide (s<=a)) os:=rfl
 by_cases h1:a<s
 ·rw [decide_eq_true h1]
  rw [decide_eq_false (by omega)] at e1
  refine (iS ((dD e1).trans rfl)).trans ?_
  have e2:evC P K (.or (.e (.pr (.cmp .lt) (.cons (.v 3) (.cons (.c (.int 1)) .nil)))) (.e (.pr (.cmp .gt) (.cons (.v 3) (.cons (.g 12) .nil))))) [d0,some (.int a),some (.int s),some (.int l)] os=.ok (!(decide (1<=l)&&decide (l<=60))) os:=by
   refine Ok.eq ?_
   have g12:=zu
   by_cases h2:1<=l
   ·have z:decide (l<1)=false:=decide_eq_false (by omega)
    rw [decide_eq_true h2,Bool.true_and]
    have z2:(!decide (l<=60))=decide (60<l):=by
     by_cases h3:l<=60
     ·rw [decide_eq_true h3,decide_eq_false (by omega)]; rfl
     ·rw [decide_eq_false h3,decide_eq_true (by omega)]; rfl
    rw [z2]
    clear e1 z2 h1 h2
    walk_at "ok"
   ·have z:decide (l<1)=true:=decide_eq_true (by omega)
    rw [decide_eq_false h2,Bool.false_and]
    clear e1 h1 h2
    walk_at "ok"
  rw [Bool.true_and]
  cases hb:(decide (1<=l)&&decide (l<=60)) with
  | true =>
   rw [hb] at e2
   refine (iS ((dD e2).trans rfl)).trans ?_
   rfl
  | false =>
   rw [hb] at e2
   exact fK ((dD e2).trans rfl)
 ·rw [decide_eq_false h1]
  rw [decide_eq_true (by omega)] at e1
  exact fK ((dD e1).trans rfl)
theorem ke {K:Orc} {W:Nat} {os:OS} {d0:Option D} {live:OS->Prop} [DecidablePred live] (hl:live os):∀ (ps:List (Int × Int)) (a:Int) (x2 x3:Option D),go a ps=false->forL (body:=⟨fun x ρ os=>dc (k:=⟨fun ρ1 os2=>execs P K W tb ρ1 os2⟩) os (aF (.tup [2,3]) x ρ)⟩) live (prs ps) [d0,some (.int a),x2,x3] os=.exc 7 none os
 | [],_,_,_,h=>by cases h
 | p::r,a,x2,x3,h=>by
  show (if live os then (execs P K W tb [d0,some (.int a),some (.int p.1),some (.int p.2)] os).bind (k:=⟨nh (k:=⟨fun ρ1 os1=>forL (body:=⟨fun x ρ os=>dc (k:=⟨fun ρ1 os2=>execs P K W tb ρ1 os2⟩) os (aF (.tup [2,3]) x ρ)⟩) live (prs r) ρ1 os1⟩)⟩) else .stk)=_
  rw [if_pos hl,nH]
  unfold go at h
  cases hb:(decide (a<p.1)&&(decide (1<=p.2)&&decide (p.2<=60))) with
  | false=>rfl
  | true =>
   rw [hb,Bool.true_and] at h
   rw [if_pos rfl]
   exact ke hl r p.1 _ _ h
noncomputable def okC (ps:List (Int × Int)):Bool:=!ps.isEmpty&&go (-1) ps&&decide (kr ps<=2 ^ 60)
noncomputable def ms (ps:List (Int × Int)):Nat:=(ps.map fun p=>(60 - p.2).toNat).sum
theorem v7:∀ {ps:List (Int × Int)},(∀ p∈ps,1<=p.2)->ms ps<=60 * ps.length
 | [],_=>Nat.le_refl _
 | p::r,h=>by
  have:=v7 (ps:=r) fun q hq=>h q (.tail _ hq)
  have:=h p (.head _)
  unfold ms at *
  rw [List.map_cons,List.sum_cons,List.length_cons]
  omega
theorem rn:∀ {ps:List (Int × Int)} {j:Nat} {p:Int × Int},ps[j]?=some p->p.2<60->ms (ps.set j (p.1,p.2+1))+1=ms ps
 | [],_,_,h,_=>by simp at h
 | q::r,0,p,h,h6=>by
  simp at h; subst h
  unfold ms
  rw [List.set_cons_zero,List.map_cons,List.map_cons,List.sum_cons,List.sum_cons]
  simp only
  omega
 | q::r,j+1,p,h,h6=>by
  have:=rn (ps:=r) (j:=j) (p:=p) (by simpa using h) h6
  unfold ms at *
  rw [List.set_cons_succ,List.map_cons,List.map_cons,List.sum_cons,List.sum_cons]
  omega
theorem qK:∀ {ps:List (Int × Int)},(∀ p∈ps,60<=p.2)->kr ps=ps.length
 | [],_=>rfl
 | p::r,h=>by
  rw [fu,qK fun q hq=>h q (.tail _ hq),List.length_cons]
  have:=h p (.head _)
  unfold rm
  rw [show (60 - p.2).toNat=0 by omega]
  omega
theorem gN {ps:List (Int × Int)} {j:Nat} {a b:Int}:(prs ps).set j (.tup [.int a,.int b])=prs (ps.set j (a,b)):=by
 simp [List.map_set]
structure Sz (ps:List (Int × Int)):Prop where
 n1:1<=ps.length
 n30:ps.length<=30
 up:(ps.map (·.1)).Pairwise (· < ·)
 s0:∀ p∈ps,0<=p.1
 lo:∀ p∈ps,1<=p.2
 hi:∀ p∈ps,p.2<=60
theorem Sz.set {ps:List (Int × Int)} (h:Sz ps) {j:Nat} {p:Int × Int} (e:ps[j]?=some p) (h6:p.2<60):Sz (ps.set j (p.1,p.2+1)):=by
 have em:(ps.set j (p.1,p.2+1)).map (·.1)=ps.map (·.1):=by
  rw [List.map_set]
  apply List.ext_getElem?
  intro i
  by_cases c:j=i
  ·subst c
   rw [List.getElem?_set_self (by have:=(List.getElem?_eq_some_iff.mp e).1; simpa using this),List.getElem?_map,e]; rfl
  ·rw [List.getElem?_set_ne c]
 have hp:=List.mem_of_getElem? e
 refine ⟨by rw [List.length_set]; exact h.n1,by rw [List.length_set]; exact h.n30,by rw [em]; exact h.up,fun q hq => ?_,fun q hq => ?_,fun q hq => ?_⟩
 ·rcases List.mem_or_eq_of_mem_set hq with z | z
  ·exact h.s0 q z
  ·rw [z]; exact h.s0 p hp
 ·rcases List.mem_or_eq_of_mem_set hq with z | z
  ·exact h.lo q z
  ·rw [z]; have:=h.lo p hp; show 1<=p.2+1; omega
 ·rcases List.mem_or_eq_of_mem_set hq with z | z
  ·exact h.hi q z
  ·rw [z]; show p.2+1<=60; omega
theorem zP {ps:List (Int × Int)} (h:1<=ps.length):∃ (m:Int) (j:Nat) (p:Int × Int),mL (ps.map (·.2))=some m/\((ps.map (·.2)).findIdx? fun z=>decide (z=m))=some j/\ps[j]?=some p/\p.2=m/\∀ q∈ps,m<=q.2:=by
 obtain ⟨m,e1,e2,e3⟩:=oY (ns:=ps.map (·.2)) (by intro z; have:=congrArg List.length z; simp at this; subst this; simp at h)
 cases e:(ps.map (·.2)).findIdx? fun z=>decide (z=m) with
 | none =>
  have:=List.findIdx?_eq_none_iff.mp e m e2
  simp at this
 | some j =>
  obtain ⟨hj,h1,h2⟩:=List.findIdx?_eq_some_iff_getElem.mp e
  have hj':j<ps.length:=by simpa using hj
  refine ⟨m,j,ps[j],e1,e,List.getElem?_eq_getElem hj',?_,fun q hq=>e3 _ (List.mem_map_of_mem hq)⟩
  simpa using h1
theorem xH (ps:List (Int × Int)):(ps.map fun p=>D.int p.2)=aB (ps.map (·.2)):=by unfold aB; rw [List.map_map]; rfl
set_option maxHeartbeats 1000000 in
theorem sV {W k n:Nat} {os:OS} (hW:2000<=W) (h:Dr os n):Ok (call P W (k+2) 502 [.cel n,.int 30] os) (fun d os'=>∃ ps:List (Int × Int),d=.lst (prs ps)/\Sz ps/\kr ps<=2 ^ 60/\(∀ q,q≠n->q<os.length->aa os' q=aa os q)/\os'.length=os.length+1):=by
 refine aW [some (.cel n),some (.int 30),none,none,none,none,none,none] wK rfl ?_
 have hn:n<os.length:=by obtain ⟨z,hz⟩:=h; exact fP hz
 have hL:os.length≠n:=by omega
 have dA:Dr (os++[some (.lst [])]) n:=by obtain ⟨z,hz⟩:=h; exact ⟨z,by rw [cC (by omega)]; exact hz⟩
 rw [aq]; walk_at "ok"
 rw [aq]; walk_at "ok"
 rw [aq]; walk_at "ok"
 refine bK dA (by decide) (by decide) fun kind os1 k0 k1 d1 g1 l1 => ?_
 have kA:∃ j v,aO (0+1+1+1+1) kind=some j/\([.int 1,.int 4,.int 300,.int 2]:List D)[j]?=some (.int v)/\0<v/\v<2 ^ 200:=by
  have:kind=0\/kind=1\/kind=2\/kind=3:=by omega
  rcases this with rfl | rfl | rfl | rfl
  ·exact ⟨0,1,rfl,rfl,by decide,by decide⟩
  ·exact ⟨1,4,rfl,rfl,by decide,by decide⟩
  ·exact ⟨2,300,rfl,rfl,by decide,by decide⟩
  ·exact ⟨3,2,rfl,rfl,by decide,by decide⟩
 have kB:∃ j v,aO (0+1+1+1+1) kind=some j/\([.int 4,.int 9,.int 60,.int 6]:List D)[j]?=some (.int v)/\0<v/\v<=60:=by
  have:kind=0\/kind=1\/kind=2\/kind=3:=by omega
  rcases this with rfl | rfl | rfl | rfl
  ·exact ⟨0,4,rfl,rfl,by decide,by decide⟩
  ·exact ⟨1,9,rfl,rfl,by decide,by decide⟩
  ·exact ⟨2,60,rfl,rfl,by decide,by decide⟩
  ·exact ⟨3,6,rfl,rfl,by decide,by decide⟩
 have c1:aa os1 os.length=some (.lst []):=by rw [g1 _ hL,bU]
 have l1':os1.length=os.length+1:=by rw [l1]; simp
 have k1':∀ q,q≠n->q<os.length->aa os1 q=aa os q:=fun q q1 q2=>by rw [g1 q q1,cC q2]
 clear g1 l1 dA h
 refine dH (fun ρ' os'=>∃ (ps:List (Int × Int)) (sy:Int) (x5:Option D),Sz ps/\aa os' os.length=some (.lst (prs ps))/\(∀ q,q≠n->q<os.length->aa os' q=aa os q)/\os'.length=os.length+1/\ρ'=[some (.cel n),some (.int 30),some (.cel os.length),some (.int sy),some (.int kind),x5,none,none]) ?_ ?_
 ·walk_at "ok"
  refine bK d1 (by decide) (by decide) fun size os2 s0 s1 d2 g2 l2 => ?_
  walk_at "ok"
  refine ⟨by omega,ig (fun i ρ' os'=>∃ (ps:List (Int × Int)) (sy:Int) (x5:Option D),ps.length=i/\(-1<=sy/\(ps.map (·.1)).Pairwise (· < ·)/\(∀ p∈ps,0<=p.1/\p.1<=sy/\1<=p.2/\p.2<=60))/\aa os' os.length=some (.lst (prs ps))/\Dr os' n/\(∀ q,q≠n->q<os.length->aa os' q=aa os q)/\os'.length=os.length+1/\ρ'=[some (.cel n),some (.int 30),some (.cel os.length),some (.int sy),some (.int kind),x5,none,none]) _ ⟨[],-1,none,rfl,⟨by decide,.nil,fun _ z=>(by cases z)⟩,?_,d2,fun q q1 q2 => ?_,by omega,rfl⟩ ?_ ?_⟩
  ·rw [g2 _ hL]; exact c1
  ·rw [g2 q q1]; exact k1' q q1 q2
  ·rintro i x ρ' os3 hx ⟨ps,sy,x5,e1,e2,e5,e6,e7,e8,rfl⟩
   obtain ⟨hi,rfl⟩:=j7 hx
   refine ⟨True.intro,_,rfl,?_⟩
   obtain ⟨jA,vA,a1,a2,a3,a4⟩:=kA
   obtain ⟨jB,vB,b1,b2,b3,b4⟩:=kB
   refine Ok.gen (fun f os'=>f.1=.nx/\∃ (ps:List (Int × Int)) (sy:Int) (x5:Option D),ps.length=i+1/\(-1<=sy/\(ps.map (·.1)).Pairwise (· < ·)/\(∀ p∈ps,0<=p.1/\p.1<=sy/\1<=p.2/\p.2<=60))/\aa os' os.length=some (.lst (prs ps))/\Dr os' n/\(∀ q,q≠n->q<os.length->aa os' q=aa os q)/\os'.length=os.length+1/\f.2=[some (.cel n),some (.int 30),some (.cel os.length),some (.int sy),some (.int kind),x5,none,none]) ?_ (fun f os' h=>.inl h)
   intro Φ hΦ
   have hz:ps.length<SZ:=by unfold SZ; omega
   have step:∀ (s c:Int) (os4:OS),sy<s->1<=c->c<=60->Dr os4 n->(∀ q,q≠n->aa os4 q=aa os3 q)->os4.length=os3.length ->
     Φ (.nx,[some (.cel n),some (.int 30),some (.cel os.length),some (.int s),some (.int kind),some (.int (i:Nat)),none,none]) (os4.set os.length (some (.lst (prs ps++[.tup [.int s,.int c]])))):=by
    intro s c os4 hs hc hc6 d4 g4 l4
    obtain ⟨f1,f2,f3⟩:=e2
    refine hΦ _ _ ⟨rfl,ps++[(s,c)],s,_,by simp [e1],⟨by omega,?_,fun p hp => ?_⟩,?_,?_,fun q q1 q2 => ?_,by rw [List.length_set]; omega,rfl⟩
    ·rw [List.map_append]
     refine List.pairwise_append.mpr ⟨f2,List.pairwise_singleton _ _,fun a ha b hb => ?_⟩
     obtain ⟨p,hp,rfl⟩:=List.mem_map.mp ha
     cases List.mem_singleton.mp hb
     have:=f3 p hp
     show p.1<s
     omega
    ·rcases List.mem_append.mp hp with z | z
     ·have:=f3 p z; omega
     ·cases List.mem_singleton.mp z; show 0<=s/\s<=s/\1<=c/\c<=60; omega
    ·rw [fv (by omega)]; simp
    ·obtain ⟨z,hz⟩:=d4; exact ⟨z,by rw [bC hL]; exact hz⟩
    ·rw [bC (by omega),g4 q q1,e7 q q1 q2]
   have hcell:∀ os4:OS,(∀ q,q≠n->aa os4 q=aa os3 q)->aa os4 os.length=some (.lst (prs ps)):=fun os4 g4=>by rw [g4 _ hL]; exact e5
   have d3:=e6
   clear hΦ e1 e2 e5 e6 e7 e8 hx d1 d2 g2 l2 s0 s1 hi c1 k1' l1' hW
   rw [aq]; walk_at "ok"
   refine bK d3 a3 a4 fun t1 os4 t10 t11 d4 g4 l4 => ?_
   clear a1 a2 a3 a4
   rw [wW,bH]
   have ss:sy<sy+1+t1:=by omega
   generalize sy+1+t1=sy' at ss
   have hc4:=hcell os4 g4
   rw [bw]; walk_at "ok"
   refine bK d4 b3 (by omega) fun t2 os5 t20 t21 d5 g5 l5 => ?_
   have hc:=hcell os5 fun q hq=>(g5 q hq).trans (g4 q hq)
   have:=step sy' (1+t2) os5 ss (by omega) (by omega) d5 (fun q hq=>(g5 q hq).trans (g4 q hq)) (l5.trans l4)
   clear step hcell d3 d4 g4 l4 d5 g5 l5 hc4 b1 b2 b3 b4 t20 t21
   walk_at "ok"
  ·rintro ρ' os' ⟨ps,sy,x5,e1,⟨f1,f2,f3⟩,e5,e6,e7,e8,rfl⟩
   simp only [List.nil_append,List.length_map,List.length_range] at e1
   exact ⟨True.intro,rfl,ps,sy,x5,⟨by omega,by omega,f2,fun p hp=>(f3 p hp).1,fun p hp=>(f3 p hp).2.2.1,fun p hp=>(f3 p hp).2.2.2⟩,e5,e7,e8,rfl⟩
 ·rintro ρ' os2 ⟨ps,sy,x5,hs,e5,e7,e8,rfl⟩
  clear kA kB c1 l1' k1' d1
  refine dH (fun ρ' os'=>∃ (ps:List (Int × Int)) (x6 x7:Option D),Sz ps/\kr ps<=2 ^ 60/\aa os' os.length=some (.lst (prs ps))/\(∀ q,q≠n->q<os.length->aa os' q=aa os q)/\os'.length=os.length+1/\ρ'=[some (.cel n),some (.int 30),some (.cel os.length),some (.int sy),some (.int kind),x5,x6,x7]) ?_ ?_
  ·refine lE (Inv:=fun m ρ' os'=>∃ (ps:List (Int × Int)) (x6 x7:Option D),m=ms ps/\Sz ps/\aa os' os.length=some (.lst (prs ps))/\(∀ q,q≠n->q<os.length->aa os' q=aa os q)/\os'.length=os.length+1/\ρ'=[some (.cel n),some (.int 30),some (.cel os.length),some (.int sy),some (.int kind),x5,x6,x7]) ?_ W (ms ps) (by have:=v7 hs.lo; have:=hs.n30; omega) ⟨ps,none,none,rfl,hs,e5,e7,e8,rfl⟩
   clear hs e5 e7 e8
   rintro m ρ' os3 ⟨ps,x6,x7,rfl,hs,e5,e7,e8,rfl⟩
   walk_at "ok"
   have n30:=hs.n30
   refine ⟨by unfold SZ; omega,?_⟩
   refine dN ⟨rfl,True.intro⟩ (fun _ b=>.int (1 * 2 ^ (60 - b).toNat)) (fun p hp => ?_) ?_
   ·have:=hs.lo p hp; have:=hs.hi p hp
    have w1:(0<=60 - p.2/\60 - p.2<=1000000/\Int.natAbs 1<2 ^ 200):=⟨by omega,by omega,by decide⟩
    clear hs e5 e7 e8
    walk_at "ok"
   ·rw [p4]
    have e60:(1 * 2 ^ (60:Int).toNat:Int)=2 ^ 60:=rfl
    have ek:(ps.map fun p=>rm p.2).sum=kr ps:=rfl
    rw [z_sum,bH]
    refine ⟨by decide,?_⟩
    rw [ek,e60,qg,bH]
    walk_at "ok"
    refine ⟨fun hd => ?_,fun hd => ?_⟩
    ·have hgt:=of_decide_eq_true hd
     obtain ⟨m,j,p,q1,q2,q3,q4,q5⟩:=zP hs.n1
     subst q4
     have h6:p.2<60:=by
      refine Int.not_le.mp fun z => ?_
      have:=qK (ps:=ps) fun q hq=>by have:=q5 q hq; omega
      have:(kr ps:Int)<=30:=by omega
      have:(30:Int)<2 ^ 60:=by decide
      omega
     have hS:=hs.set q3 h6
     have hM:=rn q3 h6
     have hj:=(List.getElem?_eq_some_iff.mp q3).1
     have ixj:aO ps.length ((j:Nat):Int)=some j:=by rw [gQ (by omega) (by omega)]; rfl
     have pj:(prs ps)[j]?=some (.tup [.int p.1,.int p.2]):=by rw [List.getElem?_map,q3]; rfl
     have ij:(aB (ps.map (·.2)))[j]?=some (.int p.2):=by unfold aB; rw [List.getElem?_map,List.getElem?_map,q3]; rfl
     refine ⟨ms (ps.set j (p.1,p.2+1)),hM.symm,?_⟩
     refine Ok.gen (fun f o=>f.1=.nx/\o=os3.set os.length (some (.lst (prs (ps.set j (p.1,p.2+1)))))/\∃ x6 x7,f.2=[some (.cel n),some (.int 30),some (.cel os.length),some (.int sy),some (.int kind),x5,x6,x7]) ?_ ?_
     ·intro Φ hΦ
      rw [<-gN] at hΦ
      have i0:aO (0+1+1) 0=some 0:=rfl
      have e0:([D.int p.1,D.int p.2]:List D)[0]?=some (.int p.1):=rfl
      clear hS hM hs e7 e8 hd hgt q5
      rw [aq]; walk_at "ok"
      refine ⟨by unfold SZ; omega,?_⟩
      refine dN ⟨rfl,True.intro⟩ (fun _ b=>.int b) (fun p hp => ?_) ?_
      ·clear hΦ i0 e0 ixj pj ij e5
       walk_at "ok"
      ·rw [xH]
       have q1':mL (ps.map fun x=>x.2)=some p.2:=q1
       have xi:=uH (os:=os3) q2
       rw [aq]; walk_at "ok"
       rw [bw]; walk_at "ok"
       exact hΦ _ _ ⟨rfl,rfl,_,_,rfl⟩
     ·rintro f o ⟨hf,rfl,x6,x7,e⟩
      exact .inl ⟨hf,_,x6,x7,rfl,hS,fv (by omega),fun q r1 r2=>by rw [bC (by omega)]; exact e7 q r1 r2,by rw [List.length_set]; exact e8,e⟩
    ·exact ⟨ps,x6,x7,hs,by have:=of_decide_eq_false hd; omega,rfl,e7,rfl⟩
  ·rintro ρ' os3 ⟨ps,x6,x7,hs,hf,e5,e7,e8,rfl⟩
   rw [bw]; walk_at "ok"
   refine ⟨ps,rfl,hs,hf,fun q q1 q2 => ?_⟩
   rw [bC (by omega)]; exact e7 q q1 q2
theorem fR:∀ {ps:List (Int × Int)} {a:Int},go a ps=true->(∀ p∈ps,a<p.1/\1<=p.2/\p.2<=60)/\(ps.map (·.1)).Pairwise (· < ·)
 | [],_,_=>⟨(fun _ h=>by cases h),.nil⟩
 | p::r,a,h=>by
  unfold go at h
  simp only [Bool.and_eq_true,decide_eq_true_eq] at h
  obtain ⟨⟨h1,h2,h3⟩,h4⟩:=h
  obtain ⟨i1,i2⟩:=fR h4
  refine ⟨fun q hq => ?_,?_⟩
  ·rcases List.mem_cons.mp hq with rfl | hq
   ·exact ⟨h1,h2,h3⟩
   ·have:=i1 q hq; omega
  ·rw [List.map_cons]
   refine List.pairwise_cons.mpr ⟨fun x hx => ?_,i2⟩
   obtain ⟨q,hq,rfl⟩:=List.mem_map.mp hx
   exact (i1 q hq).1
theorem gh:∀ {ps:List (Int × Int)} {a:Int},(∀ p∈ps,a<p.1/\1<=p.2/\p.2<=60)->(ps.map (·.1)).Pairwise (· < ·)->go a ps=true
 | [],_,_,_=>rfl
 | p::r,a,h,hp=>by
  rw [List.map_cons] at hp
  obtain ⟨h1,h2⟩:=List.pairwise_cons.mp hp
  have:=h p (.head _)
  unfold go
  simp only [Bool.and_eq_true,decide_eq_true_eq]
  exact ⟨this,gh (fun q hq=>⟨h1 _ (List.mem_map_of_mem hq),(h q (.tail _ hq)).2⟩) h2⟩
theorem om {K:Orc} {W:Nat} {os:OS} {d0:Option D} {live:OS->Prop} [DecidablePred live] (hl:live os):∀ (ps:List (Int × Int)) (a:Int) (x2 x3:Option D),go a ps=true->∃ a' x2' x3',forL (body:=⟨fun x ρ os=>dc (k:=⟨fun ρ1 os2=>execs P K W tb ρ1 os2⟩) os (aF (.tup [2,3]) x ρ)⟩) live (prs ps) [d0,some (.int a),x2,x3] os=.ok (.nx,[d0,some (.int a'),x2',x3']) os
 | [],a,x2,x3,h=>⟨a,x2,x3,if_pos hl⟩
 | p::r,a,x2,x3,h=>by
  show ∃ a' x2' x3',(if live os then (execs P K W tb [d0,some (.int a),some (.int p.1),some (.int p.2)] os).bind (k:=⟨nh (k:=⟨fun ρ1 os1=>forL (body:=⟨fun x ρ os=>dc (k:=⟨fun ρ1 os2=>execs P K W tb ρ1 os2⟩) os (aF (.tup [2,3]) x ρ)⟩) live (prs r) ρ1 os1⟩)⟩) else .stk)=_
  unfold go at h
  rw [Bool.and_eq_true] at h
  rw [if_pos hl,nH,h.1,if_pos rfl]
  exact om hl r p.1 _ _ h.2
theorem refuse_eq {W k:Nat} {os:OS} {ps:List (Int × Int)} (hz:ps.length<1000):call P W (k+1) 32 [.lst (prs ps)] os=if okC ps=true then .ok .non os else .exc 7 none os:=by
 rw [dX,Ca]
 show ended (execs P (call P W k) W _ [some (.lst (prs ps)),none,none,none] os)=_
 have e0:evC P (call P W k) (.e (.pr (.cmp .eq) (.cons (.pr .len (.cons (.v 0) .nil)) (.cons (.c (.int 0)) .nil)))) [some (.lst (prs ps)),none,none,none] os=.ok ps.isEmpty os:=by
  refine Ok.eq ?_
  have e:D.eq (.int (ps.length:Nat)) (.int 0)=some ps.isEmpty:=by
   cases ps with
   | nil=>rfl
   | cons p r=>exact congrArg some (show decide (((p::r).length:Int)=0)=false from decide_eq_false (by rw [List.length_cons]; omega))
  walk_at "ok"
 unfold okC
 cases ps with
 | nil=>exact congrArg ended (fK ((dD e0).trans rfl))
 | cons p r =>
  generalize hp:p::r=ps at *
  have ne:ps.isEmpty=false:=by rw [<-hp]; rfl
  rw [ne] at e0 ⊢
  refine (congrArg ended (iS ((dD e0).trans rfl))).trans ?_
  refine (congrArg ended (iS (ρ':=[some (.lst (prs ps)),some (.int (-1)),none,none]) (os':=os) rfl)).trans ?_
  have el:exec P (call P W k) W (.fr (.tup [2,3]) (.seq (.v 0)) tb) [some (.lst (prs ps)),some (.int (-1)),none,none] os=forL (body:=⟨fun x ρ os=>dc (k:=⟨fun ρ1 os2=>execs P (call P W k) W tb ρ1 os2⟩) os (aF (.tup [2,3]) x ρ)⟩) (aX os [.lst (prs ps)]) (prs ps) [some (.lst (prs ps)),some (.int (-1)),none,none] os:=rfl
  have lv:aX os [.lst (prs ps)] os:=trivial
  cases hg:go (-1) ps with
  | false=>exact congrArg ended (fK (el.trans (ke lv ps _ _ _ hg)))
  | true =>
   obtain ⟨a',x2',x3',e⟩:=om (K:=call P W k) (W:=W) (d0:=some (.lst (prs ps))) lv ps (-1) none none hg
   refine (congrArg ended (iS (el.trans e))).trans ?_
   have g12:=zu
   obtain ⟨q1,_⟩:=fR hg
   have e3:evC P (call P W k) (.e (.pr (.cmp .gt) (.cons (.pr .sum (.cons (.comp 2 [] (.tup [0,1]) (.seq (.v 0)) .tt (.pr .shl (.cons (.c (.int 1)) (.cons (.pr .sub (.cons (.g 12) (.cons (.v 1) .nil))) .nil)))) .nil)) (.cons (.pr .shl (.cons (.c (.int 1)) (.cons (.g 12) .nil))) .nil)))) [some (.lst (prs ps)),some (.int a'),x2',x3'] os=.ok (decide (2 ^ 60<kr ps)) os:=by
    refine Ok.eq ?_
    clear e el hp hg e0
    walk_at "ok"
    refine ⟨by unfold SZ; omega,?_⟩
    refine dN (by trivial) (fun _ b=>.int (1 * 2 ^ (60 - b).toNat)) (fun p hp => ?_) ?_
    ·have:=q1 p hp
     have w1:(0<=60 - p.2/\60 - p.2<=1000000/\Int.natAbs 1<2 ^ 200):=⟨by omega,by omega,by decide⟩
     clear q1
     walk_at "ok"
    ·rw [p4]
     have e60:(1 * 2 ^ (60:Int).toNat:Int)=2 ^ 60:=rfl
     have ek:(ps.map fun p=>rm p.2).sum=kr ps:=rfl
     clear q1
     rw [z_sum,bH]
     refine ⟨by decide,?_⟩
     rw [ek,e60]
     rw [qg,bH]
     generalize decide (2 ^ 60<kr ps)=bb0
     walk_at "ok"
   by_cases hk:kr ps<=2 ^ 60
   ·rw [decide_eq_true hk]
    rw [decide_eq_false (by omega)] at e3
    exact congrArg ended (iS ((dD e3).trans rfl))
   ·rw [decide_eq_false hk]
    rw [decide_eq_true (by omega)] at e3
    exact congrArg ended (fK ((dD e3).trans rfl))
theorem DF (ps:List (Int × Int)):qs ps=sortBy (fun a b=>decide (a.2<=b.2)) ps:=by
 have:=sort_map (at' ps) (fun a b=>decide (a.2<=b.2)) (List.range ps.length)
 rw [qO] at this
 exact this.symm
theorem iF:∀ (ps:List (Int × Int)),dF (prs ps)=some (ps.map (·.2))
 | []=>rfl
 | p::r=>by
  show (fI (.tup [.int p.1,.int p.2])).bind (fun k=>(dF (prs r)).map (k :: ·))=_
  rw [iF r]; rfl
theorem og:∀ (ps:List (Int × Int)),(ps.map (·.2)).zip (prs ps)=ps.map fun p=>(p.2,D.tup [.int p.1,.int p.2])
 | []=>rfl
 | p::r=>by
  show (p.2,D.tup [.int p.1,.int p.2])::(r.map (·.2)).zip (prs r)=_
  rw [og r]; rfl
theorem Az {os:OS} {ps:List (Int × Int)} (h:kL (prs ps)) (ht:aa os 0=some (.tab 0)):pr (.srt2 0) [.lst (prs ps)] os=.ok (.lst (prs (qs ps))) os:=by
 show R.gd (oP 0 (aa os 0)=true) (R.ofO (jD (prs ps)) os)=_
 have:jD (prs ps)=some (.lst (prs (qs ps))):=by
  unfold jD
  rw [if_pos h,iF,DF,Option.map_some,og,sort_map (fun p:Int × Int=>(p.2,D.tup [.int p.1,.int p.2])) (fun a b=>decide (a.1<=b.1)),List.map_map]
  rfl
 rw [fG (by rw [ht]; rfl),this]; rfl
noncomputable def CR (ps:List (Int × Int)) (d:D):Prop:=∃ f:Int->D,d=.lst (ps.map fun p=>.tup [.int p.1,f p.1])/\∀ p∈ps,∃ b,f p.1=.lst (aB b)
theorem zF {i:Nat} {c a l:Int} (h:c<=(i:Int) * 2 ^ a.toNat) (h0:0<=a) (hl:a<=l):c * 2 ^ (l - a).toNat+1<=((i+1:Nat):Int) * 2 ^ l.toNat:=by
 have e:(2:Int) ^ l.toNat=2 ^ a.toNat * 2 ^ (l - a).toNat:=by rw [<-Int.pow_add]; congr 1; omega
 have p0:(0:Int)<2 ^ (l - a).toNat:=Int.pow_pos (by decide)
 have p1:(0:Int)<2 ^ l.toNat:=Int.pow_pos (by decide)
 have:=Int.mul_le_mul_of_nonneg_right h (Int.le_of_lt p0)
 rw [Int.mul_assoc,<-e] at this
 rw [show ((i+1:Nat):Int)=(i:Int)+1 by omega,Int.add_mul,Int.one_mul]
 omega
theorem tM {W k:Nat} {os:OS} {ps:List (Int × Int)} (ht:aa os 0=some (.tab 0)) (hc:okC ps=true) (hf:kL (prs ps)) (hz:ps.length<128):Ok (call P W (k+3) 33 [.lst (prs ps)] os) (fun d os'=>CR ps d/\∃ ex,os'=os++ex):=by
 have rf:aS os (call P W (k+2) 32 [.lst (prs ps)] os)=.ok .non os:=by
  rw [refuse_eq (by omega),if_pos hc]; exact fU rfl
 have hg:go (-1) ps=true:=by unfold okC at hc; rw [Bool.and_eq_true,Bool.and_eq_true] at hc; exact hc.1.2
 obtain ⟨ga,_⟩:=fR hg
 have l0:=fP ht
 have ql:=xx (ps:=ps)
 have qm:∀ p∈qs ps,1<=p.2/\p.2<=60:=fun p hp=>(ga p (oB.mem_iff.mp hp)).2
 have qu:=Cz (ps:=ps)
 have qp:=fun p=>(oB (ps:=ps)).mem_iff (a:=p)
 have sx:=Az (os:=os++[some (.dct false [])]) hf (by rw [cC l0]; exact ht)
 refine aW [some (.lst (prs ps)),none,none,none,none,none] xY rfl ?_
 generalize hq:qs ps=q at *
 clear hc hg hf
 rw [aq]; walk_at "ok"
 rw [aq]; walk_at "ok"
 rw [aq]; walk_at "ok"
 rw [aq]; walk_at "ok"
 clear rf
 refine dH (fun ρ' os'=>∃ (kvs:List (D × D)) (x2 x3 x4 x5:Option D),os'=os++[some (.dct false kvs)]/\(∀ p∈ps,∃ b,bu (.int p.1) kvs=some (.lst (aB b)))/\ρ'=[some (.lst (prs ps)),some (.cel os.length),x2,x3,x4,x5]) ?_ ?_
 ·walk_at "ok"
  refine ig (fun i ρ' os'=>∃ (kvs:List (D × D)) (code ahead:Int) (x4 x5:Option D),os'=os++[some (.dct false kvs)]/\((∀ p∈kvs,∃ i,p.1=.int i)/\kvs.length<=i/\(∀ j,j<i->∃ b,bu (.int (at' q j).1) kvs=some (.lst (aB b))))/\(0<=code+1/\code+1<=(i:Int) * 2 ^ ahead.toNat/\0<=ahead/\ahead<=60/\∀ j,i<=j->j<q.length->ahead<=(at' q j).2)/\ρ'=[some (.lst (prs ps)),some (.cel os.length),some (.int code),some (.int ahead),x4,x5]) _
   ⟨[],-1,0,none,none,rfl,⟨fun _ z=>(by cases z),Nat.le_refl _,fun j hj=>by omega⟩,⟨by decide,by decide,by decide,by decide,fun j _ hj=>by have:=qm _ (List.getElem_mem hj); rw [bQ hj]; omega⟩,rfl⟩ ?_ ?_
  ·rintro i x ρ' os1 hx ⟨kvs,code,ahead,x4,x5,rfl,⟨d2,d3,d4⟩,⟨v1,v2,v3,v4,v5⟩,rfl⟩
   obtain ⟨hi,rfl⟩:=uB hx
   have le6:=qm _ (List.getElem_mem hi)
   rw [<-bQ hi] at le6
   have va:=v5 i (Nat.le_refl _) hi
   have nxt:∀ j,i+1<=j->j<q.length->(at' q i).2<=(at' q j).2:=fun j h1 h2=>by
    rw [bQ hi,bQ h2]
    exact List.pairwise_iff_getElem.mp qu i j hi h2 (by omega)
   obtain ⟨s,es⟩:∃ s,(at' q i).1=s:=⟨_,rfl⟩
   obtain ⟨l,el⟩:∃ l,(at' q i).2=l:=⟨_,rfl⟩
   rw [el] at le6 va nxt
   rw [es,el]
   have cT:(code+1).natAbs<2 ^ 200:=by
    have a1:(2:Int) ^ ahead.toNat<=2 ^ 60:=by
     have:=Int.ofNat_le.mpr (Nat.pow_le_pow_right (n:=2) (by decide) (show ahead.toNat<=60 by omega))
     rwa [Int.natCast_pow,Int.natCast_pow] at this
    have a2:(i:Int) * 2 ^ ahead.toNat<=128 * 2 ^ 60:=Int.mul_le_mul (by omega) a1 (Int.le_of_lt (Int.pow_pos (by decide))) (by decide)
    have t:(128 * 2 ^ 60:Int)<2 ^ 200:=by decide
    omega
   have g1:(0<=l - ahead/\l - ahead<=1000000/\(code+1).natAbs<2 ^ 200):=⟨by omega,by omega,cT⟩
   have n1:=zF v2 v3 va
   have n0:0<=(code+1) * 2 ^ (l - ahead).toNat:=Int.mul_nonneg v1 (Int.le_of_lt (Int.pow_pos (by decide)))
   have bo:=ui (W:=W) (k:=k) (os:=os++[some (.dct false kvs)]) n0 (l:=l) (by omega) le6.2
   obtain ⟨c2,ec⟩:∃ c,(code+1) * 2 ^ (l - ahead).toNat=c:=⟨_,rfl⟩
   rw [ec] at n1 n0 bo
   have dl:aa (os++[some (Cell.dct false kvs)]) os.length=some (.dct false kvs):=bU
   have se:∀ d,(os++[some (Cell.dct false kvs)]).set os.length d=os++[d]:=fun d=>by rw [List.set_append_right _ _ (Nat.le_refl _),Nat.sub_self]; rfl
   have ksz:kvs.length<SZ:=by unfold SZ; omega
   refine ⟨True.intro,_,rfl,?_⟩
   refine Ok.gen (fun f o=>f.1=.nx/\o=os++[some (.dct false (et (.int s) (.lst (aB (bb c2 l.toNat))) kvs))]/\f.2=[some (.lst (prs ps)),some (.cel os.length),some (.int c2),some (.int l),some (.int s),some (.int l)]) ?_ ?_
   ·intro Φ hΦ
    have hΦ':=hΦ (.nx,[some (.lst (prs ps)),some (.cel os.length),some (.int c2),some (.int l),some (.int s),some (.int l)]) _ ⟨rfl,rfl,rfl⟩
    clear hΦ v1 v2 v3 v4 v5 va nxt d2 d3 d4 cT n1 n0 hx es el qm qu qp ga hq
    show Ok (execs P (call P W (k+2)) W _ [some (.lst (prs ps)),some (.cel os.length),some (.int code),some (.int ahead),some (.int s),some (.int l)] (os++[some (Cell.dct false kvs)])) _
    clear sx ht ql le6
    rw [aq]; walk_at "ok"
    rw [aq]; walk_at "ok"
    rw [bw]; walk_at "ok"
   ·rintro f o ⟨hf,rfl,e⟩
    refine .inl ⟨hf,_,c2,l,_,_,rfl,⟨qi d2,by have:=uo (i:=s) (v:=.lst (aB (bb c2 l.toNat))) (kvs:=kvs); omega,fun j hj => ?_⟩,⟨by omega,n1,by omega,le6.2,nxt⟩,e⟩
    rw [rX d2]
    by_cases z:(at' q j).1=s
    ·rw [if_pos z]; exact ⟨_,rfl⟩
    ·rw [if_neg z]
     refine d4 j (Nat.lt_of_le_of_ne (Nat.le_of_lt_succ hj) fun e=>z ?_)
     rw [e]; exact es
  ·rintro ρ' os1 ⟨kvs,code,ahead,x4,x5,rfl,⟨d2,d3,d4⟩,_,rfl⟩
   rw [List.length_map] at d4
   refine ⟨True.intro,rfl,kvs,_,_,x4,x5,rfl,fun p hp => ?_,rfl⟩
   obtain ⟨j,hj⟩:=List.getElem?_of_mem ((qp p).mpr hp)
   have hl:=(List.getElem?_eq_some_iff.mp hj).1
   have:=d4 j hl
   rw [bQ hl,(List.getElem?_eq_some_iff.mp hj).2] at this
   exact this
 ·rintro ρ' os' ⟨kvs,x2,x3,x4,x5,rfl,h2,rfl⟩
  have dl:aa (os++[some (Cell.dct false kvs)]) os.length=some (.dct false kvs):=bU
  clear sx qm qu qp ga hq
  rw [bw]; walk_at "ok"
  refine ⟨by unfold SZ; omega,?_⟩
  refine dN (by trivial) (fun a _=>.tup [.int a,(bu (.int a) kvs).getD .non]) (fun p hp => ?_) ?_
  ·obtain ⟨b,g⟩:=h2 p hp
   rw [g]
   clear h2
   show Ok (ev P _ _ [some (.int p.1),some (.int p.2),some (.cel os.length)] (os++[some (Cell.dct false kvs)])) _
   walk_at "ok"
   rfl
  ·refine ⟨⟨fun a=>(bu (.int a) kvs).getD .non,rfl,fun p hp => ?_⟩,_,rfl⟩
   obtain ⟨b,g⟩:=h2 p hp
   exact ⟨b,by show (bu (.int p.1) kvs).getD .non=_; rw [g]; rfl⟩
mutual
theorem same_self:∀ (d:D) {n:Nat},D.pl n d=true->D.same d d=true
 | .non,_,_=>rfl
 | .bl b,_,_=>by cases b <;> rfl
 | .int i,_,_=>by show decide (i=i)=true; exact decide_eq_true rfl
 | .str s,_,_=>by show decide (s=s)=true; exact decide_eq_true rfl
 | .lst xs,n,p=>by
  cases n with
  | zero=>cases p
  | succ m=>exact eF xs (List.all_eq_true.mp p)
 | .tup xs,n,p=>by
  cases n with
  | zero=>cases p
  | succ m=>exact eF xs (List.all_eq_true.mp p)
 | .scr _,n,p=>by cases n <;> cases p
 | .ktu _,n,p=>by cases n <;> cases p
 | .cel _,n,p=>by cases n <;> cases p
 | .exn _ _,n,p=>by cases n <;> cases p
theorem eF:∀ (xs:List D) {n:Nat},(∀ x∈xs,D.pl n x=true)->D.dv xs xs=true
 | [],_,_=>rfl
 | x::r,_,h=>by
  show (D.same x x&&D.dv r r)=true
  rw [same_self x (h x (.head _)),eF r fun y hy=>h y (.tail _ hy)]; rfl
end
mutual
theorem ng:∀ (d:D),D.nm d d=true
 | .non=>rfl
 | .bl b=>rfl
 | .int i=>rfl
 | .str s=>rfl
 | .lst xs=>gP xs
 | .tup xs=>gP xs
 | .scr _=>rfl
 | .ktu _=>rfl
 | .cel _=>rfl
 | .exn _ _=>rfl
theorem gP:∀ (xs:List D),D.nms xs xs=true
 | []=>rfl
 | x::r=>by
  show (D.nm x x&&D.nms r r)=true
  rw [ng x,gP r]; rfl
end
theorem sO {d:D} (h:D.pl 60 d=true):D.eq d d=some true:=by
 unfold D.eq
 rw [if_pos (by rw [h,ng]; rfl),same_self d h]
theorem xF (ps:List (Int × Int)):D.pl 60 (.lst (prs ps))=true:=by
 show (prs ps).all (D.pl 59)=true
 refine List.all_eq_true.mpr fun x hx => ?_
 obtain ⟨p,_,rfl⟩:=List.mem_map.mp hx
 rfl
theorem low_ints {n:Nat}:∀ (xs:List Int),D.lows n (aB xs)=true
 | []=>rfl
 | _::r=>by
  show (_&&_)=true
  rw [low_ints r]; rfl
theorem rJ {n:Nat} {f:Int->D}:∀ (ps:List (Int × Int)),(∀ p∈ps,∃ b,f p.1=.lst (aB b))->D.lows n (ps.map fun p=>.tup [.int p.1,f p.1])=true
 | [],_=>rfl
 | p::r,h=>by
  obtain ⟨b,e⟩:=h p (.head _)
  show ((D.tup [.int p.1,f p.1]).low n&&D.lows n (r.map fun p=>.tup [.int p.1,f p.1]))=true
  rw [rJ r fun q hq=>h q (.tail _ hq),e,Bool.and_true]
  show (true&&((D.lows n (aB b))&&true))=true
  rw [low_ints]; rfl
theorem eJ {W k:Nat} {os:OS} {ps:List (Int × Int)} (ht:aa os 0=some (.tab 0)) (hc:okC ps=true) (hf:kL (prs ps)) (hz:ps.length<128):∃ d,aS os (call P W (k+3) 33 [.lst (prs ps)] os)=.ok d os/\CR ps d:=by
 obtain ⟨d,o,e,hd,ex,rfl⟩:=(tM (W:=W) (k:=k) ht hc hf hz).get
 refine ⟨d,?_,hd⟩
 rw [e]
 obtain ⟨f,rfl,h⟩:=hd
 exact lA (rJ ps h)
theorem pE {W k:Nat} {os:OS} {ps:List (Int × Int)} (hc:okC ps=false) (hz:ps.length<1000):call P W (k+3) 33 [.lst (prs ps)] os=.exc 7 none os:=by
 rw [dX,xY]
 show ended (execs P (call P W (k+2)) W _ [some (.lst (prs ps)),none,none,none,none,none] os)=_
 have e:exec P (call P W (k+2)) W (.ex (.callP 32 (.cons (.v 0) .nil))) [some (.lst (prs ps)),none,none,none,none,none] os=.exc 7 none os:=by
  show @R.bind _ _ (aS os (call P W (k+2) 32 [.lst (prs ps)] os)) ⟨_⟩=_
  rw [refuse_eq hz,if_neg (by simp [hc]),lR]; rfl
 exact congrArg ended (fK e)
theorem hZ {W k:Nat} {os:OS} {ps:List (Int × Int)} (hc:okC ps=false) (hz:ps.length<1000):aS os (call P W (k+4) 503 [.lst (prs ps)] os)=.ok (.bl true) os:=by
 have:call P W (k+4) 503 [.lst (prs ps)] os=.ok (.bl true) os:=by
  refine Ok.eq ?_
  refine aW [some (.lst (prs ps)),none,none,none] wm rfl ?_
  have ce:=pE (W:=W) (k:=k) (os:=os) hc hz
  have eqS:=sO (xF ps)
  rw [aq]; walk_at "ok"
  rw [aq]; walk_at "ok"
  rw [aq]; walk_at "ok"
  have hk:∀ hs,m8 3 ((7,hs)::[]) [some (.lst (prs ps)),some (.bl false),some (.lst (prs ps)),none] (.exc 7 none os)=hdl 3 [some (.lst (prs ps)),some (.bl false),some (.lst (prs ps)),none] os (some hs):=fun _=>rfl
  rw [hk]
  show Ok (R.ok (Flow.nx,[some (.lst (prs ps)),some (D.bl true),some (.lst (prs ps)),none]) os) _
  clear ce
  walk_at "ok"
  rw [bw]; walk_at "ok"
 rw [this]; exact Dj
section
variable {P:Pg} {K:Orc} {W:Nat} {ρ ρ':Fr} {os os':OS} {Φ:Flow × Fr->OS->Prop}
theorem dz {s:S} {r:Ss} (h:exec P K W s ρ os=.ok (.nx,ρ') os'):execs P K W (.cons s r) ρ os=execs P K W r ρ' os':=by
 show (exec P K W s ρ os).bind (k:=⟨sj (k:=⟨fun ρ1 os1=>execs P K W r ρ1 os1⟩)⟩)=_
 rw [h]; rfl
theorem gv {s:S} {r:Ss} (h:exec P K W s ρ os=.ok (.nx,ρ') os') (g:Ok (execs P K W r ρ' os') Φ):Ok (execs P K W (.cons s r) ρ os) Φ:=by
 rw [dz h]; exact g
theorem e_T {c:C} {a b:Ss} {r:R (Flow × Fr)} (h:evC P K c ρ os=.ok true os) (g:execs P K W a ρ os=r):exec P K W (.ite c a b) ρ os=r:=by
 show (evC P K c ρ os).bind (k:=⟨eh (a:=⟨fun os1=>execs P K W a ρ os1⟩) (b:=⟨fun os1=>execs P K W b ρ os1⟩)⟩)=_
 rw [h]; exact g
theorem e_F {c:C} {a b:Ss} {r:R (Flow × Fr)} (h:evC P K c ρ os=.ok false os) (g:execs P K W b ρ os=r):exec P K W (.ite c a b) ρ os=r:=by
 show (evC P K c ρ os).bind (k:=⟨eh (a:=⟨fun os1=>execs P K W a ρ os1⟩) (b:=⟨fun os1=>execs P K W b ρ os1⟩)⟩)=_
 rw [h]; exact g
theorem j5 {o i e:E} {xs:List D} {x:D} {n j:Nat} {k:Int} (h1:ev P K e ρ os=.ok x os) (h2:ev P K o ρ os=.ok (.cel n) os) (h3:ev P K i ρ os=.ok (.int k) os) (hc:aa os n=some (.lst xs)) (hj:aO xs.length k=some j):exec P K W (.setix o i e) ρ os=.ok (.nx,ρ) (os.set n (some (.lst (xs.set j x)))):=by
 refine Ok.eq ?_
 rw [n9,h1,bH,h2,bH,h3,bH,oq,hc,ot,hj]
 exact ⟨rfl,rfl⟩
theorem xU {p:Pr} {o:E} {es:Es} {ds:List D} {d y:D} (h1:ev P K o ρ os=.ok d os) (h2:recv os (gw p) d=true) (h3:evs P K es ρ os=.ok ds os) (h4:pr p (d::ds) os=.ok y os'):exec P K W (.ex (.bm p o es)) ρ os=.ok (.nx,ρ) os':=by
 refine Ok.eq ?_
 rw [CD,Bw,h1,bH,h3,bH,h4]
 exact ⟨h2,rfl,rfl⟩
theorem bq {e f:E} {x y:D} (h1:ev P K e ρ os=.ok x os) (h2:ev P K f ρ os=.ok y os):evs P K (.cons e (.cons f .nil)) ρ os=.ok [x,y] os:=by
 refine Ok.eq ?_
 rw [gH,h1,bH,gH,h2]
 exact ⟨rfl,rfl⟩
theorem AK {e:E} {x:D} (h1:ev P K e ρ os=.ok x os):evs P K (.cons e .nil) ρ os=.ok [x] os:=by
 refine Ok.eq ?_
 rw [gH,h1]
 exact ⟨rfl,rfl⟩
theorem wg {es:Es} {ds:List D} (h:evs P K es ρ os=.ok ds os):ev P K (.tup es) ρ os=.ok (.tup ds) os:=by
 refine Ok.eq ?_
 rw [vV,h]
 exact ⟨rfl,rfl⟩
theorem gn {p:Pr} {es:Es} {ds:List D} {y:D} (h:evs P K es ρ os=.ok ds os) (g:pr p ds os=.ok y os):ev P K (.pr p es) ρ os=.ok y os:=by
 refine Ok.eq ?_
 rw [AW,h,bH,g]
 exact ⟨rfl,rfl⟩
theorem Cy {n j:Nat} {i:Int} {xs:List D} {y:D} (hc:aa os n=some (.lst xs)) (hj:aO xs.length i=some j) (hy:xs[j]?=some y):pr .ix [.cel n,.int i] os=.ok y os:=by
 refine Ok.eq ?_
 walk_at "ok"
theorem CV {e:E} {b:Bool} (h:ev P K e ρ os=.ok (.bl b) os):evC P K (.e e) ρ os=.ok b os:=by
 refine Ok.eq ?_
 rw [CP,h]
 exact ⟨rfl,rfl⟩
theorem Bz {i:Nat} {e:E} {x:D} (h:ev P K e ρ os=.ok x os):exec P K W (.set i e) ρ os=.ok (.nx,st ρ i x) os:=by
 refine Ok.eq ?_
 rw [w6,h]
 exact ⟨rfl,rfl⟩
theorem BR {n:Nat} {y:D} {xs:List D} (hc:aa os n=some (.lst xs)) (hz:xs.length<SZ):pr .append [.cel n,y] os=.ok .non (os.set n (some (.lst (xs++[y]))))/\recv os (gw .append) (.cel n)=true:=by
 rw [p8,hc,mz,fG hz,qI,hc]
 exact ⟨rfl,rfl⟩
end
structure Fu (ps fs:List (Int × Int)):Prop where
 kr:kr (ps++fs)=2 ^ 60
 up:((ps++fs).map (·.1)).Pairwise (· < ·)
 all:∀ p∈ps++fs,0<=p.1/\1<=p.2/\p.2<=60
 ln:fs.length<=60
 rs:(fs.map (·.2)).Pairwise (· < ·)
structure Fi (ps fs:List (Int × Int)) (room sy:Int) (i:Nat):Prop where
 top:∀ p∈ps++fs,0<=p.1/\p.1<=sy
 up:((ps++fs).map (·.1)).Pairwise (· < ·)
 rg:∀ p∈fs,1<=p.2/\p.2<=i
 rs:(fs.map (·.2)).Pairwise (· < ·)
 ln:fs.length<=i
 kf:K18.kr fs=room / 2 ^ (60 - i) * 2 ^ (60 - i)
theorem jj {r:Int} {m:Nat}:r / 2 ^ m * 2 ^ m=r / 2 ^ (m+1) * 2 ^ (m+1)+r / 2 ^ m % 2 * 2 ^ m:=by
 have e:r / 2 ^ (m+1)=r / 2 ^ m / 2:=by rw [Int.pow_succ,Int.ediv_ediv_of_nonneg (Int.le_of_lt (Int.pow_pos (by decide)))]
 rw [e,pow_succ']
 generalize r / 2 ^ m=q
 have:=Int.mul_ediv_add_emod q 2
 rw [<-Int.mul_assoc,<-Int.add_mul]
 congr 1
 omega
theorem Fi.no {ps fs:List (Int × Int)} {room sy:Int} {i:Nat} (h:Fi ps fs room sy i) (hi:i<60) (hb:room / 2 ^ (60 - (i+1)) % 2≠1):Fi ps fs room sy (i+1):=by
 refine ⟨h.top,h.up,fun p hp=>by have:=h.rg p hp; omega,h.rs,by have:=h.ln; omega,?_⟩
 have e:=jj (r:=room) (m:=60 - (i+1))
 rw [show 60 - (i+1)+1=60 - i by omega] at e
 rw [e,h.kf,show room / 2 ^ (60 - (i+1)) % 2=0 by omega,Int.zero_mul,Int.add_zero]
theorem Fi.yes {ps fs:List (Int × Int)} {room sy:Int} {i:Nat} (h:Fi ps fs room sy i) (h0:0<=sy) (hi:i<60) (hb:room / 2 ^ (60 - (i+1)) % 2=1):Fi ps (fs++[(sy+1,((i+1:Nat):Int))]) room (sy+1) (i+1):=by
 have e:=jj (r:=room) (m:=60 - (i+1))
 rw [show 60 - (i+1)+1=60 - i by omega] at e
 refine ⟨fun p hp => ?_,?_,fun p hp => ?_,?_,by rw [List.length_append]; have:=h.ln; simp; omega,?_⟩
 ·rw [<-List.append_assoc] at hp
  rcases List.mem_append.mp hp with hp | hp
  ·have:=h.top p hp; omega
  ·rw [List.mem_singleton.mp hp]; show 0<=sy+1/\sy+1<=sy+1; omega
 ·rw [<-List.append_assoc,List.map_append]
  refine List.pairwise_append.mpr ⟨h.up,List.pairwise_singleton _ _,fun a ha b hb => ?_⟩
  obtain ⟨p,hp,rfl⟩:=List.mem_map.mp ha
  cases List.mem_singleton.mp hb
  have:=h.top p hp
  show p.1<sy+1
  omega
 ·rcases List.mem_append.mp hp with hp | hp
  ·have:=h.rg p hp; omega
  ·rw [List.mem_singleton.mp hp]; show 1<=((i+1:Nat):Int)/\_; omega
 ·rw [List.map_append]
  refine List.pairwise_append.mpr ⟨h.rs,List.pairwise_singleton _ _,fun a ha b hb => ?_⟩
  obtain ⟨p,hp,rfl⟩:=List.mem_map.mp ha
  cases List.mem_singleton.mp hb
  have:=h.rg p hp
  show p.2<((i+1:Nat):Int)
  omega
 ·rw [lQ,h.kf,e,hb,Int.one_mul]
  congr 1
  rw [fu]
  show rm ((i+1:Nat):Int)+0=_
  unfold rm
  rw [Int.one_mul,Int.add_zero]
  congr 1
  omega
theorem zR {ps:List (Int × Int)} (h:1<=ps.length):0<kr ps:=by
 cases ps with
 | nil=>simp at h
 | cons p r =>
  rw [fu]
  have:=mD p.2
  have:=vY (ps:=r)
  omega
theorem nz {os:OS} {c d:Option Cell}:(os++[c]).set os.length d=os++[d]:=by
 rw [List.set_append_right _ _ (Nat.le_refl _),Nat.sub_self]; rfl
theorem nV {W k:Nat} {os:OS} {ps:List (Int × Int)} (hs:Sz ps) (hk:kr ps<=2 ^ 60):Ok (call P W (k+1) 504 [.lst (prs ps)] os) (fun d o=>d=.cel os.length/\∃ fs,o=os++[some (.lst (prs (ps++fs)))]/\Fu ps fs):=by
 refine aW [some (.lst (prs ps)),none,none,none,none] w4 rfl ?_
 have n1:=hs.n1; have n30:=hs.n30
 obtain ⟨room,er⟩:∃ r,(2 ^ 60 - kr ps:Int)=r:=⟨_,rfl⟩
 have r0:0<=room:=by omega
 have r1:room<2 ^ 60:=by have:=zR hs.n1; omega
 refine dH (fun ρ' o=>o=os/\ρ'=[some (.lst (prs ps)),some (.int room),none,none,none]) ?_ ?_
 ·walk_at "ok"
  refine ⟨by decide,by unfold SZ; omega,?_⟩
  refine dN (by trivial) (fun _ b=>.int (1 * 2 ^ (60 - b).toNat)) (fun p hp => ?_) ?_
  ·have:=hs.lo p hp; have:=hs.hi p hp
   have w1:(0<=60 - p.2/\60 - p.2<=1000000/\Int.natAbs 1<2 ^ 200):=⟨by omega,by omega,by decide⟩
   clear hs
   walk_at "ok"
  ·rw [p4]
   have e60:(1 * 2 ^ (60:Int).toNat:Int)=2 ^ 60:=rfl
   have ek:(ps.map fun p=>rm p.2).sum=kr ps:=rfl
   rw [z_sum,bH,ek,wR,bH,e60,er]
   exact ⟨rfl,rfl⟩
 rintro ρ' o ⟨rfl,rfl⟩
 obtain ⟨pl,el⟩:∃ p,ps[ps.length - 1]?=some p:=⟨_,List.getElem?_eq_getElem (by omega)⟩
 have i1:aO ps.length (-1)=some (ps.length - 1):=by unfold aO; rw [if_neg (by decide),if_pos (by omega)]; congr 1; omega
 have g1:(prs ps)[ps.length - 1]?=some (.tup [.int pl.1,.int pl.2]):=by rw [List.getElem?_map,el]; rfl
 have i0:aO (0+1+1) 0=some 0:=rfl
 have g0:([D.int pl.1,D.int pl.2]:List D)[0]?=some (.int pl.1):=rfl
 have sz:ps.length<=SZ:=by unfold SZ; omega
 rw [aq]; walk_at "ok"
 rw [aq]; walk_at "ok"
 have ml:=List.mem_of_getElem? el
 have f0:Fi ps [] room pl.1 0:=by
  refine ⟨fun p hp => ?_,by rw [List.append_nil]; exact hs.up,(fun _ z=>by cases z),.nil,Nat.le_refl _,?_⟩
  ·rw [List.append_nil] at hp
   refine ⟨hs.s0 p hp,?_⟩
   obtain ⟨i,hi⟩:=List.getElem?_of_mem hp
   have hl:=(List.getElem?_eq_some_iff.mp hi).1
   by_cases e:i=ps.length - 1
   ·rw [e,el] at hi; cases hi; exact Int.le_refl _
   ·have:=List.pairwise_iff_getElem.mp hs.up i (ps.length - 1) (by simpa using hl) (by simp; omega) (by omega)
    rw [List.getElem_map,List.getElem_map,(List.getElem?_eq_some_iff.mp hi).2,(List.getElem?_eq_some_iff.mp el).2] at this
    omega
  ·show (0:Int)=_
   rw [Int.ediv_eq_zero_of_lt r0 r1,Int.zero_mul]
 have s0:=hs.s0 pl ml
 clear i1 g1 i0 g0
 refine dH (fun ρ' o'=>∃ fs x3 x4,o'=o++[some (.lst (prs (ps++fs)))]/\Fu ps fs/\ρ'=[some (.lst (prs ps)),some (.int room),some (.cel o.length),x3,x4]) ?_ ?_
 ·walk_at "ok"
  refine ⟨by decide,ig (fun i ρ' o'=>∃ fs sy x4,o'=o++[some (.lst (prs (ps++fs)))]/\Fi ps fs room sy i/\0<=sy/\ρ'=[some (.lst (prs ps)),some (.int room),some (.cel o.length),some (.int sy),x4]) _ ⟨[],pl.1,none,by rw [List.append_nil],f0,s0,rfl⟩ ?_ ?_⟩
  ·rintro i x ρ' o' hx ⟨fs,sy,x4,rfl,hF,hsy,rfl⟩
   rw [List.getElem?_map] at hx
   obtain ⟨i',hi',rfl⟩:=Option.map_eq_some_iff.mp hx
   have hi:i<60:=by have:=(List.getElem?_eq_some_iff.mp hi').1; rw [List.length_range] at this; exact this
   have e':i=i':=by rw [List.getElem?_range (show i<((61:Int) - 1).toNat from hi)] at hi'; exact Option.some.inj hi'
   subst e'
   clear hi'
   refine ⟨trivial,[some (.lst (prs ps)),some (.int room),some (.cel o.length),some (.int sy),some (.int (1+(i:Nat)))],rfl,?_⟩
   obtain ⟨le,ele⟩:∃ l:Int,1+(i:Nat)=l:=⟨_,rfl⟩
   have q0:0<=60 - le:=by omega
   have q1:(60 - le).toNat=60 - (i+1):=by omega
   have p0:(0:Int)<=room / 2 ^ (60 - le).toNat:=Int.ediv_nonneg r0 (Int.le_of_lt (Int.pow_pos (by decide)))
   have b0:fA (room / 2 ^ (60 - le).toNat) 1=room / 2 ^ (60 - le).toNat % 2:=nq p0
   obtain ⟨bt,ebt⟩:∃ b,room / 2 ^ (60 - le).toNat % 2=b:=⟨_,rfl⟩
   rw [ebt] at b0
   rw [q1] at ebt
   have ge:aa (o++[some (Cell.lst (prs (ps++fs)))]) o.length=some (.lst (prs (ps++fs))):=bU
   rw [ele]
   have sh:∀ os:OS,pr .shr [.int room,.int (60 - le)] os=.ok (.int (room / 2 ^ (60 - le).toNat)) os:=fun _=>by rw [wt,fG q0]
   have ba:∀ os:OS,pr .band [.int (room / 2 ^ (60 - le).toNat),.int 1] os=.ok (.int bt) os:=fun _=>by rw [pV,fG ⟨p0,by decide⟩,b0]
   by_cases hb:bt=1
   ·have hF':=hF.yes hsy hi (ebt.trans hb)
    have ea:prs (ps++fs)++[.tup [.int (sy+1),.int le]]=prs (ps++(fs++[(sy+1,((i+1:Nat):Int))])):=by
     rw [show ((i+1:Nat):Int)=le by omega,<-List.append_assoc]
     simp
    have ya:=BR (y:=.tup [.int (sy+1),.int le]) ge (by rw [List.length_map,List.length_append]; have:=hF.ln; unfold SZ; omega)
    rw [nz,ea] at ya
    refine gv (e_T (CV (gn (bq (gn (bq (gn (bq rfl rfl) (sh _)) rfl) (ba _)) rfl) (by rw [hb]; rfl))) ((dz (Bz rfl)).trans (dz (xU rfl ya.2 rfl ya.1)))) (.inl ⟨rfl,_,_,_,rfl,hF',by omega,rfl⟩)
   ·have hF':=hF.no hi (fun z=>hb (ebt.symm.trans z))
    refine gv (e_F (CV (gn (bq (gn (bq (gn (bq rfl rfl) (sh _)) rfl) (ba _)) rfl) ?_)) rfl) (.inl ⟨rfl,fs,sy,_,rfl,hF',hsy,rfl⟩)
    show R.ok (D.bl (decide (bt=1))) _=_
    rw [decide_eq_false hb]
  ·rintro ρ' o' ⟨fs,sy,x4,rfl,hF,hsy,rfl⟩
   rw [List.length_map,List.length_range] at hF
   have hF:Fi ps fs room sy 60:=hF
   refine ⟨trivial,rfl,fs,_,_,rfl,⟨?_,hF.up,fun p hp => ?_,hF.ln,hF.rs⟩,rfl⟩
   ·have:=hF.kf
    rw [Nat.sub_self,Int.pow_zero,Int.ediv_one,Int.mul_one] at this
    rw [lQ,this]; omega
   ·have:=hF.top p hp
    rcases List.mem_append.mp hp with hp | hp
    ·have:=hs.lo p hp; have:=hs.hi p hp; omega
    ·have:=hF.rg p hp; omega
 ·rintro ρ' o' ⟨fs,x3,x4,rfl,hF,rfl⟩
  rw [bw]; walk_at "ok"
  exact ⟨fs,rfl,hF⟩
theorem Sz.okC {ps:List (Int × Int)} (h:Sz ps) (hk:K18.kr ps<=2 ^ 60):okC ps=true:=by
 unfold K18.okC
 rw [gh (fun p hp=>⟨by have:=h.s0 p hp; omega,h.lo p hp,h.hi p hp⟩) h.up,decide_eq_true hk]
 cases ps with
 | nil=>have:=h.n1; simp at this
 | cons p r=>rfl
theorem Fu.okC {ps fs:List (Int × Int)} (h:Fu ps fs) (h1:1<=ps.length):okC (ps++fs)=true:=by
 unfold K18.okC
 rw [gh (fun p hp=>⟨by have:=h.all p hp; omega,(h.all p hp).2⟩) h.up,decide_eq_true (by rw [h.kr]; exact Int.le_refl _)]
 cases ps with
 | nil=>simp at h1
 | cons p r=>rfl
theorem vX:∀ {l:List Int},l.Pairwise (· <= ·)->upB l=true
 | [],_=>rfl
 | [_],_=>rfl
 | a::b::r,h=>by
  obtain ⟨h1,h2⟩:=List.pairwise_cons.mp h
  show (decide (a<=b)&&upB (b::r))=true
  rw [decide_eq_true (h1 b (.head _)),vX h2]; rfl
theorem Fu.few {ps fs:List (Int × Int)} (h:Fu ps fs) (h30:ps.length<=30):kL (prs (ps++fs)):=by
 have:=h.ln
 refine .inr ⟨by rw [List.length_map,List.length_append]; omega,?_⟩
 rw [iF]
 show upB (((ps++fs).map (·.2)).drop 32)=true
 rw [List.map_append,List.drop_append,List.drop_eq_nil_of_le (by rw [List.length_map]; omega),List.nil_append]
 exact vX ((h.rs.imp fun h=>Int.le_of_lt h).sublist (List.drop_sublist _ _))
theorem mi {ps:List (Int × Int)} (h:go (-1) ps=false):okC ps=false:=by unfold okC; rw [h,Bool.and_false]; rfl
theorem nu {ps:List (Int × Int)} {p:Int × Int} (hp:p∈ps) (h:p.2<1\/60<p.2):okC ps=false:=by
 refine mi ?_
 cases e:go (-1) ps with
 | false=>rfl
 | true=>have:=(fR e).1 p hp; omega
theorem tY {ps:List (Int × Int)} {p:Int × Int} (hp:p∈ps) (h:p.1 <= -1):okC ps=false:=by
 refine mi ?_
 cases e:go (-1) ps with
 | false=>rfl
 | true=>have:=(fR e).1 p hp; omega
theorem yw {ps:List (Int × Int)} {i:Nat} {p q:Int × Int} (h1:ps[i]?=some p) (h2:ps[i+1]?=some q) (h:q.1<=p.1):okC ps=false:=by
 refine mi ?_
 cases e:go (-1) ps with
 | false=>rfl
 | true =>
  obtain ⟨l1,e1⟩:=List.getElem?_eq_some_iff.mp h1
  obtain ⟨l2,e2⟩:=List.getElem?_eq_some_iff.mp h2
  have:=List.pairwise_iff_getElem.mp (fR e).2 i (i+1) (by simpa using l1) (by simpa using l2) (by omega)
  rw [List.getElem_map,List.getElem_map,e1,e2] at this
  omega
theorem yL {ps:List (Int × Int)} (h:2 ^ 60<kr ps):okC ps=false:=by
 unfold okC; rw [decide_eq_false (by omega),Bool.and_false]
theorem pD {W k n:Nat} {os:OS} {ps:List (Int × Int)} {Ψ:D->OS->Prop} (hd:Dr os n) (hs:Sz ps) (hk:kr ps<=2 ^ 60) (hq:∀ xs o',okC xs=false->xs.length<1000->(∀ q,q≠n->q<os.length->aa o' q=aa os q)->Ψ (.lst (prs xs)) o'):Ok (call P W (k+2) 505 [.cel n,.lst (prs ps)] os) Ψ:=by
 refine aW [some (.cel n),some (.lst (prs ps)),none,none,none,none,none,none] wq rfl ?_
 have n1:=hs.n1; have n30:=hs.n30
 have sz:ps.length<=SZ:=by unfold SZ; omega
 have hn:n<os.length:=by obtain ⟨z,hz⟩:=hd; exact fP hz
 have hL:os.length≠n:=by omega
 rw [aq]; walk_at "ok"
 obtain ⟨o1,eo⟩:∃ o1,os++[some (Cell.lst (prs ps))]=o1:=⟨_,rfl⟩
 have d1:Dr o1 n:=by rw [<-eo]; obtain ⟨z,hz⟩:=hd; exact ⟨z,by rw [cC (by omega)]; exact hz⟩
 have c1:aa o1 os.length=some (.lst (prs ps)):=by rw [<-eo]; exact bU
 have k1:∀ q,q≠n->q<os.length->aa o1 q=aa os q:=fun q _ h=>by rw [<-eo]; exact cC h
 have l1:o1.length=os.length+1:=by rw [<-eo]; simp
 rw [eo]
 clear eo hd
 obtain ⟨L,eL⟩:∃ L,os.length=L:=⟨_,rfl⟩
 rw [eL] at hq hn hL c1 k1 l1 ⊢
 rw [aq]; walk_at "ok"
 refine bK d1 (by omega) (Int.lt_trans (by omega:_<(1000000:Int)) (by decide)) fun at0 o2 a0 a1 d2 g2 l2 => ?_
 have c2:aa o2 L=some (.lst (prs ps)):=by rw [g2 L hL]; exact c1
 obtain ⟨p,ep⟩:∃ p,ps[at0.toNat]?=some p:=⟨_,List.getElem?_eq_getElem (by omega)⟩
 have ix0:=gQ a0 a1
 have gp:(prs ps)[at0.toNat]?=some (.tup [.int p.1,.int p.2]):=by rw [List.getElem?_map,ep]; rfl
 have k2:∀ q,q≠n->q<L->aa o2 q=aa os q:=fun q h1 h2=>by rw [g2 q h1]; exact k1 q h1 h2
 rw [aq]; walk_at "ok"
 rw [aq]; walk_at "ok"
 refine ⟨by decide,by decide,bK d2 (by decide) (by decide) fun w1 o3 w0 w1' d3 g3 l3 => ?_⟩
 obtain ⟨v,xv,v0,v1⟩:∃ v,pr .ix [.lst [.int 10,.int 100,.int (10 ^ (9:Int).toNat),.int (10 ^ (38:Int).toNat)],.int w1] o3=.ok (.int v) o3/\0<v/\v<2 ^ 200:=by
  have:w1=0\/w1=1\/w1=2\/w1=3:=by omega
  rcases this with rfl | rfl | rfl | rfl
  ·exact ⟨_,rfl,by decide,by decide⟩
  ·exact ⟨_,rfl,by decide,by decide⟩
  ·exact ⟨_,rfl,by decide,by decide⟩
  ·exact ⟨_,rfl,by decide,by decide⟩
 rw [xv,bH]
 refine bK d3 v0 v1 fun far o4 f0 f1 d4 g4 l4 => ?_
 clear xv
 rw [aq]; walk_at "ok"
 refine bK d4 (by decide) (by decide) fun kind o5 k0 k5 d5 g5 l5 => ?_
 have c5:aa o5 L=some (.lst (prs ps)):=by rw [g5 L hL,g4 L hL,g3 L hL]; exact c2
 have kk:∀ q,q≠n->q<L->aa o5 q=aa os q:=fun q h1 h2=>by rw [g5 q h1,g4 q h1,g3 q h1]; exact k2 q h1 h2
 have l6:o5.length=L+1:=l5.trans (l4.trans (l3.trans (l2.trans l1)))
 clear c1 c2 k1 k2 d1 d2 d3 d4 g2 g3 g4 g5 l1 l2 l3 l4 l5 w0 w1' v0 v1 f1
 have fi:∀ (xs:List (Int × Int)) (o:OS) (c:Nat) (x3 x4 x5 x6 x7:Option D),L<=c->okC xs=false->xs.length<1000->aa o c=some (.lst (prs xs))->(∀ q,q≠n->q<L->aa o q=aa os q)->Ok (execs P (call P W (k+1)) W (.cons (.ret (.fz (.v 2))) .nil) [some (.cel n),some (.lst (prs ps)),some (.cel c),x3,x4,x5,x6,x7] o) (fin Ψ):=by
  intro xs o c x3 x4 x5 x6 x7 h0 h1 h2 h3 h4
  have:=hq xs (o.set c none) h1 h2 fun q q1 q2=>by rw [bC (by omega)]; exact h4 q q1 q2
  clear hq h1 h2 h4 kk
  rw [bw]; walk_at "ok"
 have hkind:kind=0\/kind=1\/kind=2\/kind=3\/kind=4\/kind=5:=by omega
 have inr:∀ {l:List (Int × Int)} {j:Nat} {x:Int × Int},j<l.length->x∈l.set j x:=fun h=>List.mem_of_getElem? (List.getElem?_set_self h)
 have atl:at0.toNat<ps.length:=by omega
 have Lo:L<o5.length:=by omega
 have lp:(prs ps).length=ps.length:=List.length_map _
 have fs:∀ (xs:List (Int × Int)) (ys:List D) (x7:Option D),ys=prs xs->okC xs=false->xs.length<1000->Ok (execs P (call P W (k+1)) W (.cons (.ret (.fz (.v 2))) .nil) [some (.cel n),some (.lst (prs ps)),some (.cel L),some (.int at0),some (.int p.1),some (.int p.2),some (.int far),x7] (o5.set L (some (.lst ys)))) (fin Ψ):=fun xs ys x7 e h1 h2=>by
  subst e
  exact fi _ _ L _ _ _ _ _ (Nat.le_refl _) h1 h2 (fv Lo) fun q h1 h2=>(bC (Nat.ne_of_gt h2)).trans (kk q h1 h2)
 rcases hkind with rfl | rfl | rfl | rfl | rfl | rfl
 ·have:=hq [] o5 rfl (by decide) kk
  clear hq fi fs kk
  rw [aq]; walk_at "ok"
  rw [bw]; walk_at "ok"
  exact this
 ·refine gv (e_F rfl rfl) (gv (e_T rfl (dz (j5 rfl rfl rfl c5 (by rw [lp]; exact ix0)))) ?_)
  exact fs (ps.set at0.toNat (p.1,0 - far)) _ _ gN (nu (inr atl) (.inl (by show 0 - far<1; omega))) (by rw [List.length_set]; omega)
 ·refine gv (e_F rfl rfl) (gv (e_F rfl (dz (e_T rfl (dz (j5 rfl rfl rfl c5 (by rw [lp]; exact ix0)))))) ?_)
  exact fs (ps.set at0.toNat (p.1,61+far)) _ _ gN (nu (inr atl) (.inr (by show 60<61+far; omega))) (by rw [List.length_set]; omega)
 ·obtain ⟨p0,ep0⟩:∃ p,ps[0]?=some p:=⟨_,List.getElem?_eq_getElem (by omega)⟩
  have gp0:(prs ps)[0]?=some (.tup [.int p0.1,.int p0.2]):=by rw [List.getElem?_map,ep0]; rfl
  have ix1:aO (prs ps).length 0=some 0:=by rw [lp]; exact gQ (by decide) (by omega)
  refine gv (e_F rfl rfl) (gv (e_F rfl (dz (e_F rfl (dz (e_T rfl (dz (j5 (wg (bq rfl (gn (bq (gn (bq rfl rfl) (Cy c5 ix1 gp0)) rfl) rfl))) rfl rfl c5 ix1))))))) ?_)
  exact fs (ps.set 0 (-1 - far,p0.2)) _ _ gN (tY (inr (by omega)) (by show -1 - far <= -1; omega)) (by rw [List.length_set]; omega)
 ·have bd:okC (ps.take at0.toNat++(p.1+far,p.2)::ps.drop at0.toNat)=false:=by
   have lt:(ps.take at0.toNat).length=at0.toNat:=by rw [List.length_take]; omega
   refine yw (i:=at0.toNat) (p:=(p.1+far,p.2)) (q:=p) ?_ ?_ (by show p.1<=p.1+far; omega)
   ·rw [List.getElem?_append_right (by omega),lt,Nat.sub_self]; rfl
   ·rw [List.getElem?_append_right (by omega),lt,Nat.add_sub_cancel_left,List.getElem?_cons_succ,List.getElem?_drop,Nat.add_zero]; exact ep
  have yi:=qL (os:=o5) (i:=at0) (y:=.tup [.int (p.1+far),.int p.2]) c5 a0 (by rw [lp]; omega) (by rw [lp]; unfold SZ; omega)
  have rc:recv o5 (gw .insert) (.cel L)=true:=by rw [CZ,c5]; rfl
  refine gv (e_F rfl rfl) (gv (e_F rfl (dz (e_F rfl (dz (e_F rfl (dz (e_T rfl (dz (xU rfl rc rfl yi))))))))) ?_)
  exact fs _ _ _ (by unfold prs; rw [List.map_append,List.map_take,List.map_cons,List.map_drop]) bd (by rw [List.length_append,List.length_cons,List.length_take,List.length_drop]; omega)
 ·obtain ⟨d,o6,e6,rfl,fs,rfl,hF⟩:=(nV (W:=W) (k:=k) (os:=o5) hs hk).get
  have ln:=hF.ln
  have kF:=hF.kr
  clear hF
  have gl:1<=(ps++fs).length/\(ps++fs).length<=90:=by rw [List.length_append]; omega
  generalize ps++fs=gs at *
  obtain ⟨pl,el⟩:∃ p,gs[gs.length - 1]?=some p:=⟨_,List.getElem?_eq_getElem (by omega)⟩
  have b1:okC (gs++[(pl.1+1+far,60)])=false:=by
   refine yL ?_
   rw [lQ,kF,fu]
   have:=mD (60:Int)
   have k0:kr []=0:=rfl
   show 2 ^ 60<2 ^ 60+(rm 60+kr [])
   omega
  have lg:(prs gs).length=gs.length:=List.length_map _
  have ixn:aO (prs gs).length (-1)=some (gs.length - 1):=by unfold aO; rw [lg,if_neg (by decide),if_pos (by omega)]; congr 1; omega
  have gg:(prs gs)[gs.length - 1]?=some (.tup [.int pl.1,.int pl.2]):=by rw [List.getElem?_map,el]; rfl
  have ge:aa (o5++[some (Cell.lst (prs gs))]) o5.length=some (.lst (prs gs)):=bU
  have rc:recv (o5++[some (Cell.lst (prs gs))]) (gw .append) (.cel o5.length)=true:=by rw [qI,ge]; rfl
  have ya:pr .append [.cel o5.length,.tup [.int (pl.1+1+far),.int 60]] (o5++[some (Cell.lst (prs gs))])=.ok .non (o5++[some (.lst (prs (gs++[(pl.1+1+far,60)])))]):=by
   rw [p8,ge,mz,fG (by rw [lg]; unfold SZ; omega),nz]; unfold prs; rw [List.map_append]; rfl
  have s2:exec P (call P W (k+1)) W (.set 2 (.call 504 (.cons (.v 1) .nil))) [some (.cel n),some (.lst (prs ps)),some (.cel L),some (.int at0),some (.int p.1),some (.int p.2),some (.int far),some (.int 5)] o5=.ok (.nx,[some (.cel n),some (.lst (prs ps)),some (.cel o5.length),some (.int at0),some (.int p.1),some (.int p.2),some (.int far),some (.int 5)]) (o5++[some (Cell.lst (prs gs))]):=by
   refine Ok.eq ?_
   clear hq fi kk hs hk b1 kF el c5 l6 ya rc ge
   walk_at "ok"
  refine gv (e_F rfl rfl) (gv (e_F rfl (dz (e_F rfl (dz (e_F rfl (dz (e_F rfl ((dz s2).trans (dz (xU rfl rc (AK (wg (bq (gn (bq (gn (bq (gn (bq (gn (bq rfl rfl) (Cy ge ixn gg)) rfl) rfl) rfl) rfl) rfl) rfl) rfl))) ya)))))))))) ?_)
  exact fi _ _ o5.length _ _ _ _ _ (by omega) b1 (by rw [List.length_append]; simp; omega) bU fun q h1 h2=>(cC (by omega)).trans (kk q h1 h2)
theorem tO {W k:Nat} (hW:2000<=W) (ns:List Int):Ok (call P W (k+5) 506 [.scr (aB ns)] [some (.tab 0)]) (fun d _=>d=.bl true):=by
 refine aW [some (.scr (aB ns)),none,none,none] wH rfl ?_
 refine dH (fun ρ' o=>∃ ps,Sz ps/\kr ps<=2 ^ 60/\aa o 0=some (.tab 0)/\ρ'=[some (.scr (aB ns)),some (.lst (prs ps)),none,none]) ?_ ?_
 ·obtain ⟨z,hz⟩:=lu (W:=W) (k:=k+3) (os:=[some (.tab 0)]) (ns:=ns) (j:=0) (by decide)
  have dr:Dr ([some (Cell.tab 0)]++[some (.lst [.int z])]) 1:=⟨z,rfl⟩
  have so:=sV (W:=W) (k:=k+2) hW dr
  walk_at "ok"
  refine Ok.mono so ?_
  rintro d o ⟨ps,rfl,h1,h2,h3,_⟩
  exact ⟨ps,h1,h2,(h3 0 (by decide) (by simp)).trans rfl,rfl⟩
 rintro ρ' o ⟨ps,hs,hk,ht,rfl⟩
 have n1:=hs.n1; have n30:=hs.n30
 refine dH (fun ρ' o=>∃ fs c,Fu ps fs/\aa o 0=some (.tab 0)/\aa o c=some (.lst (prs (ps++fs)))/\ρ'=[some (.scr (aB ns)),some (.lst (prs ps)),some (.cel c),none]) ?_ ?_
 ·have fo:=nV (W:=W) (k:=k+3) (os:=o) hs hk
  have l0:=fP ht
  walk_at "ok"
  refine Ok.mono fo ?_
  rintro d o' ⟨rfl,fs,rfl,hF⟩
  exact ⟨fs,_,hF,by rw [cC l0]; exact ht,bU,rfl⟩
 rintro ρ' o ⟨fs,c,hF,ht,hc,rfl⟩
 have ln:=hF.ln
 have sz:ps.length<=SZ:=by unfold SZ; omega
 refine dH (fun ρ' o'=>o'=o/\ρ'=[some (.scr (aB ns)),some (.lst (prs ps)),some (.cel c),none]) ?_ ?_
 ·obtain ⟨d1,p1,f1,rfl,_⟩:=eJ (W:=W) (k:=k+1) ht (hs.okC hk) (.inl (by rw [List.length_map]; omega)) (by omega)
  obtain ⟨d2,p2,f2,rfl,_⟩:=eJ (W:=W) (k:=k+1) ht (hF.okC n1) (hF.few n30) (by rw [List.length_append]; omega)
  have s2:(ps++fs).length<=SZ:=by rw [List.length_append]; unfold SZ; omega
  have e1:D.eq (.int (ps.length:Nat)) (.int (ps.length:Nat))=some true:=congrArg some (show decide ((ps.length:Int)=ps.length)=true from decide_eq_true rfl)
  clear hs hk hF ln
  generalize ps++fs=gs at *
  walk_at "ok"
 rintro ρ' o' ⟨rfl,rfl⟩
 refine dH (fun ρ' o'=>aa o' 0=some (.tab 0)/\∃ x3,ρ'=[some (.scr (aB ns)),some (.lst (prs ps)),some (.cel c),x3]) ?_ ?_
 ·walk_at "ok"
  refine ⟨by decide,ig (fun i ρ' o'=>aa o' 0=some (.tab 0)/\∃ x3,ρ'=[some (.scr (aB ns)),some (.lst (prs ps)),some (.cel c),x3]) _ ⟨ht,_,rfl⟩ ?_ ?_⟩
  ·rintro i x ρ' o2 hx ⟨ht2,x3,rfl⟩
   obtain ⟨hi,rfl⟩:=j7 hx
   refine ⟨trivial,_,rfl,?_⟩
   show Ok (execs P (call P W (k+4)) W _ [some (.scr (aB ns)),some (.lst (prs ps)),some (.cel c),some (.int (i:Nat))] o2) _
   obtain ⟨z,hz⟩:=lu (W:=W) (k:=k+3) (os:=o2) (ns:=ns) (j:=1+(i:Nat)) (by omega)
   have l0:=fP ht2
   have dr:Dr (o2++[some (.lst [.int z])]) o2.length:=⟨z,bU⟩
   have t3:aa (o2++[some (.lst [.int z])]) 0=some (.tab 0):=by rw [cC l0]; exact ht2
   have ll:(o2++[some (Cell.lst [.int z])]).length=o2.length+1:=by simp
   have ho:∀ Ψ,(∀ xs o',okC xs=false->xs.length<1000->aa o' 0=some (.tab 0)->Ψ (.lst (prs xs)) o')->Ok (call P W (k+4) 505 [.cel o2.length,.lst (prs ps)] (o2++[some (.lst [.int z])])) Ψ:=fun Ψ h=>pD (k:=k+2) dr hs hk fun xs o' a b g=>h xs o' a b ((g 0 (by omega) (by omega)).trans t3)
   clear hs hk hF ln hc hx dr t3 ll n1 n30 sz
   rw [bw]; walk_at "ok"
   refine ho _ fun xs o' h1 h2 h3 => ?_
   have rf:=hZ (W:=W) (k:=k) (os:=o') h1 h2
   clear ho hz h1 h2 ht ht2
   walk_at "ok"
   exact .inl ⟨_,rfl⟩
  ·rintro ρ' o2 ⟨ht2,x3,rfl⟩
   exact ⟨trivial,rfl,ht2,x3,rfl⟩
 rintro ρ' o2 ⟨ht2,x3,rfl⟩
 have rf:=hZ (W:=W) (k:=k) (os:=o2) (ps:=[]) rfl (by decide)
 obtain ⟨d1,p1,f1,rfl,_⟩:=eJ (W:=W) (k:=k+1) ht2 (hs.okC hk) (.inl (by rw [List.length_map]; omega)) (by omega)
 obtain ⟨p0,e0⟩:∃ p,ps[0]?=some p:=⟨_,List.getElem?_eq_getElem (by omega)⟩
 have ix0:aO ps.length 0=some 0:=gQ (by decide) (by omega)
 have g1:(prs ps)[0]?=some (.tup [.int p0.1,.int p0.2]):=by rw [List.getElem?_map,e0]; rfl
 have g2:(ps.map fun p=>D.tup [.int p.1,f1 p.1])[0]?=some (.tup [.int p0.1,f1 p0.1]):=by rw [List.getElem?_map,e0]; rfl
 have i0:aO (0+1+1) 0=some 0:=rfl
 have h1:([D.int p0.1,D.int p0.2]:List D)[0]?=some (.int p0.1):=rfl
 have h2:([D.int p0.1,f1 p0.1]:List D)[0]?=some (.int p0.1):=rfl
 have eqS:D.eq (.int p0.1) (.int p0.1)=some true:=congrArg some (show decide (p0.1=p0.1)=true from decide_eq_true rfl)
 have rf:aS o2 (call P W (k+4) 503 [.lst []] o2)=.ok (.bl true) o2:=rf
 clear hs hk hF ln hc n1 n30
 rw [bw]; walk_at "ok"
noncomputable abbrev KD:Nat:=12
noncomputable abbrev WD:Nat:=2000
theorem math (ns:List Int) (h:ns.length<=63):∃ os,I.call P WD (KD+1) 506 [.scr (ns.map .int)] [some (.tab 0)]=.ok (.bl true) os:=by
 obtain ⟨a,os,e,rfl⟩:=(tO (W:=WD) (k:=8) (by decide) ns).get
 exact ⟨os,e⟩
end K18
namespace K18
theorem bj {α:Type} {β:Type} [BEq α] [LawfulBEq α] {a:α} {b:β}:∀ {l:List (α × β)},l.lookup a=some b->(a,b)∈l
 | [],h=>by cases h
 | (x,y)::l,h=>by
  rw [List.lookup_cons] at h
  split at h
  ·rename_i e; cases h; rw [eq_of_beq e]; exact .head _
  ·exact .tail _ (bj h)
end K18
namespace K18
open PySem PyProof.Rows L2 IS
open I (D FD Pg)
noncomputable def top (i:Nat):Stmt:=PySem.Challenge.pw_seekpress_k18_no_code.main.body.getD i (.Pass ⟨0,0,0,0⟩)
noncomputable abbrev bf:Stmt:=top 19
noncomputable abbrev bW:Stmt:=top 20
noncomputable abbrev aM:Stmt:=top 23
noncomputable abbrev bx:Stmt:=top 24
noncomputable abbrev cU:Stmt:=top 26
noncomputable abbrev bY:Stmt:=top 27
noncomputable abbrev bX:Stmt:=top 28
noncomputable abbrev aZ:Stmt:=top 29
noncomputable abbrev cX:Stmt:=top 30
noncomputable abbrev bD:Stmt:=top 31
noncomputable abbrev gm:Stmt:=top 32
noncomputable def nms:List (Nat × (Str × Nat)):=[(0,("pieces_of",3)),(2,("bits_of",2)),(32,("refuse_unfit",1)),(33,("codes_of",1)),(500,("_law_take",2)),(501,("_law_purse",2)),(502,("_law_sizes",2)),(503,("_law_refused",1)),(504,("_law_full",1)),(505,("_law_spoilt",2))]
noncomputable def gns:List (Nat × Str):=[(0, "BIT"),(12, "LONGEST")]
noncomputable def ens:List (Nat × Str):=[(7, "NoCode")]
noncomputable def fln:List (Nat × Str):=[]
noncomputable def cln:List (Nat × (Str × Nat)):=[]
noncomputable def mtn:List (Nat × (Str × Nat)):=[]
noncomputable def ftb:List Str:=[("spread" : Str),("at" : Str),("storage" : Str),("data" : Str),("frames" : Str),("first_frames" : Str),("first_places" : Str),("makes" : Str),("place" : Str),("row" : Str),("begin" : Str),("next_number" : Str),("block_marks" : Str),("told_marks" : Str),("has_end" : Str),("wrong" : Str),("many" : Str),("weights" : Str),("symbols" : Str),("symbols_taken" : Str),("first_sum" : Str),("pairs" : Str),("newest" : Str),("opened" : Str),("packed" : Str),("rule" : Str),("done" : Str),("loose" : Str),("ahead" : Str),("between" : Str),("behind" : Str),("roots" : Str),("size" : Str),("height" : Str),("told_blocks" : Str),("read_text" : Str),("last_kind" : Str),("pieces" : Str),("lost" : Str),("taken_out" : Str),("telling" : Str),("four" : Str),("fetch" : Str),("end_place" : Str),("root_place" : Str),("whole" : Str),("a" : Str),("b" : Str),("fetched" : Str),("sought" : Str),("below" : Str),("ending" : Str),("keepings" : Str),("namings" : Str),("opener" : Str),("things" : Str),("numbers" : Str),("given" : Str)]
noncomputable def xmn:List (Nat × Str):=[(7, "PressError")]
noncomputable def ktn:List ((Nat × Str) × Bool):=[((7, "NoCode"),true),((7, "Broken"),false),((7, "NoBits"),false),((7, "NoBlock"),false),((7, "NoHold"),false),((7, "NoKids"),false),((7, "NoMake"),false),((7, "NoName"),false),((7, "NoPlace"),false),((7, "NoRepeat"),false),((7, "NoRow"),false),((7, "NoRule"),false),((7, "NoText"),false),((7, "NoThing"),false),((7, "Twice"),false)]
noncomputable def cx:CI where
 fn:=fun f=>nms.lookup f
 gl:=fun i=>gns.lookup i
 fl:=fun f=>fln.lookup f
 ec:=fun c=>ens.lookup c
 cl:=fun c=>cln.lookup c
 mt:=fun m=>mtn.lookup m
 kt:=fun c x=>ktn.lookup (c,x)
 xm:=fun c x=>xmn.contains (c,x)
theorem jQ:eA cx cJ ["number", "size", "many", "top"] ["number", "size", "many"] bf=true:=by decide +kernel
theorem lV:eA cx dW ["number", "width"] ["number", "width"] bW=true:=by decide +kernel
theorem gr:eA cx aT ["lengths", "ahead", "symbol", "length"] ["lengths"] aM=true:=by decide +kernel
theorem kg:eA cx de ["lengths", "bits", "code", "ahead", "symbol", "length"] ["lengths"] bx=true:=by decide +kernel
theorem o7:eA cx eY ["_law_draw", "_law_many", "_law_digit"] ["_law_draw", "_law_many"] cU=true:=by decide +kernel
theorem mF:eA cx dZ ["_law_script", "_law_k", "_law_cell", "_law_digits", "_law_mix", "_law_come", "_law_j"] ["_law_script", "_law_k"] bY=true:=by decide +kernel
theorem mq:eA cx ef ["_law_draw", "_law_most", "_law_lengths", "_law_symbol", "_law_kind", "_law_k", "_law_sizes_here", "_law_place"] ["_law_draw", "_law_most"] bX=true:=by decide +kernel
theorem j6:eA cx cG ["_law_lengths", "_law_refused_here", "_law_handed", "e"] ["_law_lengths"] aZ=true:=by decide +kernel
theorem oD:eA cx fq ["_law_lengths", "_law_room", "_law_more", "_law_symbol", "_law_length"] ["_law_lengths"] cX=true:=by decide +kernel
theorem kx:eA cx dj ["_law_draw", "_law_lengths", "_law_some", "_law_at", "_law_symbol", "_law_length", "_law_far", "_law_kind"] ["_law_draw", "_law_lengths"] bD=true:=by decide +kernel
theorem yr:eA cx qD ["_law_script", "_law_lengths", "_law_full_here", "_law_k"] ["_law_script"] gm=true:=by decide +kernel
theorem all_mk {l:PySem.W.OpenLaw} {w:World} {K:PySem.W.Frag} {h:Heap} {mg:Str->Option Value} {fa:Addr} (X:K.In h) (G:h.Ns mainGlobals mg) (hfa:mg "law" = some (.ref fa))
  {f0:Addr} {od0 an0:Option Addr} {sl0:Array (Option Value)} {oc0 kV0 dc0 pm0 cd0 ct0:Value}
  (a0:PySem.W.nsIn K mainGlobals "pieces_of" = some (some (.ref f0))) (l0:K.lookup f0=some ⟨oc0,od0,.func (PySem.W.fnOf "pieces_of" "pieces_of" (aL bf) (aD bf) (ag bf) .none kV0 dc0 pm0 an0 cd0 ct0),sl0⟩) (c0:PySem.W.codeIn K cd0 "pieces_of" = true) (k0:PySem.W.keepIn K (.ref f0)=true)
  {f1:Addr} {od1 an1:Option Addr} {sl1:Array (Option Value)} {oc1 kV1 dc1 pm1 cd1 ct1:Value}
  (a1:PySem.W.nsIn K mainGlobals "bits_of" = some (some (.ref f1))) (l1:K.lookup f1=some ⟨oc1,od1,.func (PySem.W.fnOf "bits_of" "bits_of" (aL bW) (aD bW) (ag bW) .none kV1 dc1 pm1 an1 cd1 ct1),sl1⟩) (c1:PySem.W.codeIn K cd1 "bits_of" = true) (k1:PySem.W.keepIn K (.ref f1)=true)
  {f2:Addr} {od2 an2:Option Addr} {sl2:Array (Option Value)} {oc2 kV2 dc2 pm2 cd2 ct2:Value}
  (a2:PySem.W.nsIn K mainGlobals "refuse_unfit" = some (some (.ref f2))) (l2:K.lookup f2=some ⟨oc2,od2,.func (PySem.W.fnOf "refuse_unfit" "refuse_unfit" (aL aM) (aD aM) (ag aM) .none kV2 dc2 pm2 an2 cd2 ct2),sl2⟩) (c2:PySem.W.codeIn K cd2 "refuse_unfit" = true) (k2:PySem.W.keepIn K (.ref f2)=true)
  {f3:Addr} {od3 an3:Option Addr} {sl3:Array (Option Value)} {oc3 kV3 dc3 pm3 cd3 ct3:Value}
  (a3:PySem.W.nsIn K mainGlobals "codes_of" = some (some (.ref f3))) (l3:K.lookup f3=some ⟨oc3,od3,.func (PySem.W.fnOf "codes_of" "codes_of" (aL bx) (aD bx) (ag bx) .none kV3 dc3 pm3 an3 cd3 ct3),sl3⟩) (c3:PySem.W.codeIn K cd3 "codes_of" = true) (k3:PySem.W.keepIn K (.ref f3)=true)
  {f4:Addr} {od4 an4:Option Addr} {sl4:Array (Option Value)} {oc4 kV4 dc4 pm4 cd4 ct4:Value}
  (a4:PySem.W.nsIn K mainGlobals "_law_take" = some (some (.ref f4))) (l4:K.lookup f4=some ⟨oc4,od4,.func (PySem.W.fnOf "_law_take" "_law_take" (aL cU) (aD cU) (ag cU) .none kV4 dc4 pm4 an4 cd4 ct4),sl4⟩) (c4:PySem.W.codeIn K cd4 "_law_take" = true) (k4:PySem.W.keepIn K (.ref f4)=true)
  {f5:Addr} {od5 an5:Option Addr} {sl5:Array (Option Value)} {oc5 kV5 dc5 pm5 cd5 ct5:Value}
  (a5:PySem.W.nsIn K mainGlobals "_law_purse" = some (some (.ref f5))) (l5:K.lookup f5=some ⟨oc5,od5,.func (PySem.W.fnOf "_law_purse" "_law_purse" (aL bY) (aD bY) (ag bY) .none kV5 dc5 pm5 an5 cd5 ct5),sl5⟩) (c5:PySem.W.codeIn K cd5 "_law_purse" = true) (k5:PySem.W.keepIn K (.ref f5)=true)
  {f6:Addr} {od6 an6:Option Addr} {sl6:Array (Option Value)} {oc6 kV6 dc6 pm6 cd6 ct6:Value}
  (a6:PySem.W.nsIn K mainGlobals "_law_sizes" = some (some (.ref f6))) (l6:K.lookup f6=some ⟨oc6,od6,.func (PySem.W.fnOf "_law_sizes" "_law_sizes" (aL bX) (aD bX) (ag bX) .none kV6 dc6 pm6 an6 cd6 ct6),sl6⟩) (c6:PySem.W.codeIn K cd6 "_law_sizes" = true) (k6:PySem.W.keepIn K (.ref f6)=true)
  {f7:Addr} {od7 an7:Option Addr} {sl7:Array (Option Value)} {oc7 kV7 dc7 pm7 cd7 ct7:Value}
  (a7:PySem.W.nsIn K mainGlobals "_law_refused" = some (some (.ref f7))) (l7:K.lookup f7=some ⟨oc7,od7,.func (PySem.W.fnOf "_law_refused" "_law_refused" (aL aZ) (aD aZ) (ag aZ) .none kV7 dc7 pm7 an7 cd7 ct7),sl7⟩) (c7:PySem.W.codeIn K cd7 "_law_refused" = true) (k7:PySem.W.keepIn K (.ref f7)=true)
  {f8:Addr} {od8 an8:Option Addr} {sl8:Array (Option Value)} {oc8 kV8 dc8 pm8 cd8 ct8:Value}
  (a8:PySem.W.nsIn K mainGlobals "_law_full" = some (some (.ref f8))) (l8:K.lookup f8=some ⟨oc8,od8,.func (PySem.W.fnOf "_law_full" "_law_full" (aL cX) (aD cX) (ag cX) .none kV8 dc8 pm8 an8 cd8 ct8),sl8⟩) (c8:PySem.W.codeIn K cd8 "_law_full" = true) (k8:PySem.W.keepIn K (.ref f8)=true)
  {f9:Addr} {od9 an9:Option Addr} {sl9:Array (Option Value)} {oc9 kV9 dc9 pm9 cd9 ct9:Value}
  (a9:PySem.W.nsIn K mainGlobals "_law_spoilt" = some (some (.ref f9))) (l9:K.lookup f9=some ⟨oc9,od9,.func (PySem.W.fnOf "_law_spoilt" "_law_spoilt" (aL bD) (aD bD) (ag bD) .none kV9 dc9 pm9 an9 cd9 ct9),sl9⟩) (c9:PySem.W.codeIn K cd9 "_law_spoilt" = true) (k9:PySem.W.keepIn K (.ref f9)=true)
  {f10:Addr} {od10 an10:Option Addr} {sl10:Array (Option Value)} {oc10 kV10 dc10 pm10 cd10 ct10:Value}
  (a10:PySem.W.nsIn K mainGlobals "law" = some (some (.ref f10))) (l10:K.lookup f10=some ⟨oc10,od10,.func (PySem.W.fnOf "law" "law" (aL gm) (aD gm) (ag gm) .none kV10 dc10 pm10 an10 cd10 ct10),sl10⟩) (c10:PySem.W.codeIn K cd10 "law" = true) (k10:PySem.W.keepIn K (.ref f10)=true)
  {ts:List Addr}
  {cc0:Addr} (tc0:cd3=.ref cc0) (th0:PySem.W.codeHdIn K cc0 (ts.getD 0 0)=true)
  (tl:ts.length=1) (tn:ts.Nodup)
  (z_len:PySem.W.nsIn K mainGlobals "len" = some none)
  (z_list:PySem.W.nsIn K mainGlobals "list" = some none)
  (z_tuple:PySem.W.nsIn K mainGlobals "tuple" = some none)
  (z_min:PySem.W.nsIn K mainGlobals "min" = some none)
  (z_max:PySem.W.nsIn K mainGlobals "max" = some none)
  (z_range:PySem.W.nsIn K mainGlobals "range" = some none)
  (z_enumerate:PySem.W.nsIn K mainGlobals "enumerate" = some none)
  (z_isinstance:PySem.W.nsIn K mainGlobals "isinstance" = some none)
  (z_int:PySem.W.nsIn K mainGlobals "int" = some none)
  (z_bool:PySem.W.nsIn K mainGlobals "bool" = some none)
  (z_str:PySem.W.nsIn K mainGlobals "str" = some none)
  (z_sum:PySem.W.nsIn K mainGlobals "sum" = some none)
  (z_all:PySem.W.nsIn K mainGlobals "all" = some none)
  (z_any:PySem.W.nsIn K mainGlobals "any" = some none)
  (z_sorted:PySem.W.nsIn K mainGlobals "sorted" = some none)
  (z_zip:PySem.W.nsIn K mainGlobals "zip" = some none)
  (z_reversed:PySem.W.nsIn K mainGlobals "reversed" = some none)
  (z_dict:PySem.W.nsIn K mainGlobals "dict" = some none)
  (z_set:PySem.W.nsIn K mainGlobals "set" = some none)
  (z_ValueError:PySem.W.nsIn K mainGlobals "ValueError" = some none)
  {tBIT:Tok} (zBIT:PySem.W.nsIn K mainGlobals "BIT" = some (some (.int 1 tBIT)))
  {tLONGEST:Tok} (zLONGEST:PySem.W.nsIn K mainGlobals "LONGEST" = some (some (.int 60 tLONGEST)))
  {eNoCode:Addr} (yNoCode:PySem.W.nsIn K mainGlobals "NoCode" = some (some (.ref eNoCode)))
  (xNoCode:PySem.W.excIn K eNoCode [.type "ValueError",.type "Exception",.type "BaseException",.type "object"] "ValueError.__new__" = true)
  {eBroken:Addr} (yBroken:PySem.W.nsIn K mainGlobals "Broken" = some (some (.ref eBroken)))
  {eNoBits:Addr} (yNoBits:PySem.W.nsIn K mainGlobals "NoBits" = some (some (.ref eNoBits)))
  {eNoBlock:Addr} (yNoBlock:PySem.W.nsIn K mainGlobals "NoBlock" = some (some (.ref eNoBlock)))
  {eNoHold:Addr} (yNoHold:PySem.W.nsIn K mainGlobals "NoHold" = some (some (.ref eNoHold)))
  {eNoKids:Addr} (yNoKids:PySem.W.nsIn K mainGlobals "NoKids" = some (some (.ref eNoKids)))
  {eNoMake:Addr} (yNoMake:PySem.W.nsIn K mainGlobals "NoMake" = some (some (.ref eNoMake)))
  {eNoName:Addr} (yNoName:PySem.W.nsIn K mainGlobals "NoName" = some (some (.ref eNoName)))
  {eNoPlace:Addr} (yNoPlace:PySem.W.nsIn K mainGlobals "NoPlace" = some (some (.ref eNoPlace)))
  {eNoRepeat:Addr} (yNoRepeat:PySem.W.nsIn K mainGlobals "NoRepeat" = some (some (.ref eNoRepeat)))
  {eNoRow:Addr} (yNoRow:PySem.W.nsIn K mainGlobals "NoRow" = some (some (.ref eNoRow)))
  {eNoRule:Addr} (yNoRule:PySem.W.nsIn K mainGlobals "NoRule" = some (some (.ref eNoRule)))
  {eNoText:Addr} (yNoText:PySem.W.nsIn K mainGlobals "NoText" = some (some (.ref eNoText)))
  {eNoThing:Addr} (yNoThing:PySem.W.nsIn K mainGlobals "NoThing" = some (some (.ref eNoThing)))
  {ePressError:Addr} (yPressError:PySem.W.nsIn K mainGlobals "PressError" = some (some (.ref ePressError)))
  {eTwice:Addr} (yTwice:PySem.W.nsIn K mainGlobals "Twice" = some (some (.ref eTwice)))
  (clNoCode:(PySem.W.clsIn K eNoCode).isSome=true)
  (gaNoCode:PySem.W.findIn K (.ref eNoCode) "__getattribute__" = some (some (.builtin "BaseException.__getattribute__")))
  (gtNoCode:PySem.W.findIn K (.ref eNoCode) "__getattr__" = some none)
  (klNoCode:PySem.W.findIn K (.ref eNoCode) "__class__" = some (some (.builtin "object.__class__")))
  (moNoCode:PySem.W.mroIn K eNoCode (.type "object")=some true)
  (mbNoCode:PySem.W.mroIn K eNoCode (.type "BaseException")=some true)
  (vkNoCode:PySem.W.kitOne K (.ref eNoCode) (.type "ValueError")=some true)
  (emNoCode_PressError:PySem.W.exmOne K (.ref eNoCode) (.ref ePressError)=some true)
  (ktNoCode_NoCode:PySem.W.kitOne K (.ref eNoCode) (.ref eNoCode)=some true)
  (ktNoCode_Broken:PySem.W.kitOne K (.ref eNoCode) (.ref eBroken)=some false)
  (ktNoCode_NoBits:PySem.W.kitOne K (.ref eNoCode) (.ref eNoBits)=some false)
  (ktNoCode_NoBlock:PySem.W.kitOne K (.ref eNoCode) (.ref eNoBlock)=some false)
  (ktNoCode_NoHold:PySem.W.kitOne K (.ref eNoCode) (.ref eNoHold)=some false)
  (ktNoCode_NoKids:PySem.W.kitOne K (.ref eNoCode) (.ref eNoKids)=some false)
  (ktNoCode_NoMake:PySem.W.kitOne K (.ref eNoCode) (.ref eNoMake)=some false)
  (ktNoCode_NoName:PySem.W.kitOne K (.ref eNoCode) (.ref eNoName)=some false)
  (ktNoCode_NoPlace:PySem.W.kitOne K (.ref eNoCode) (.ref eNoPlace)=some false)
  (ktNoCode_NoRepeat:PySem.W.kitOne K (.ref eNoCode) (.ref eNoRepeat)=some false)
  (ktNoCode_NoRow:PySem.W.kitOne K (.ref eNoCode) (.ref eNoRow)=some false)
  (ktNoCode_NoRule:PySem.W.kitOne K (.ref eNoCode) (.ref eNoRule)=some false)
  (ktNoCode_NoText:PySem.W.kitOne K (.ref eNoCode) (.ref eNoText)=some false)
  (ktNoCode_NoThing:PySem.W.kitOne K (.ref eNoCode) (.ref eNoThing)=some false)
  (ktNoCode_Twice:PySem.W.kitOne K (.ref eNoCode) (.ref eTwice)=some false)
  : (∀ P∈ts,∃ c,PySem.W.codeHdIn K c P=true)/\∃ fd:FuncData,(∀ (s:Shared) (v:Value),BindsTo s fd ⟨[v],[]⟩ [("_law_script",v)])/\∀ base:Heap,K.In base->base.Ns mainGlobals mg->BMd mg base->cV l.prog w K mg base (CXE l.prog w) (2 * (KD+1)) fa fd ["_law_script"] (j1 63 K (fun t=>ts.getD t 0) ts.length):=by
 have e:=hfa.symm.trans (PySem.W.mg_of X G a10)
 cases e
 have F0:=cj (st:=bf) l0 c0 k0
 have b0:=F0.binds (ps:=["number", "size", "many"]) fun _ _ _ _ _ _ us hl=>match us,hl with | [_,_,_],_=>rfl
 have F1:=cj (st:=bW) l1 c1 k1
 have b1:=F1.binds (ps:=["number", "width"]) fun _ _ _ _ _ _ us hl=>match us,hl with | [_,_],_=>rfl
 have F2:=cj (st:=aM) l2 c2 k2
 have b2:=F2.binds (ps:=["lengths"]) fun _ _ _ _ _ _ us hl=>match us,hl with | [_],_=>rfl
 have F3:=cj (st:=bx) l3 c3 k3
 have b3:=F3.binds (ps:=["lengths"]) fun _ _ _ _ _ _ us hl=>match us,hl with | [_],_=>rfl
 have F4:=cj (st:=cU) l4 c4 k4
 have b4:=F4.binds (ps:=["_law_draw", "_law_many"]) fun _ _ _ _ _ _ us hl=>match us,hl with | [_,_],_=>rfl
 have F5:=cj (st:=bY) l5 c5 k5
 have b5:=F5.binds (ps:=["_law_script", "_law_k"]) fun _ _ _ _ _ _ us hl=>match us,hl with | [_,_],_=>rfl
 have F6:=cj (st:=bX) l6 c6 k6
 have b6:=F6.binds (ps:=["_law_draw", "_law_most"]) fun _ _ _ _ _ _ us hl=>match us,hl with | [_,_],_=>rfl
 have F7:=cj (st:=aZ) l7 c7 k7
 have b7:=F7.binds (ps:=["_law_lengths"]) fun _ _ _ _ _ _ us hl=>match us,hl with | [_],_=>rfl
 have F8:=cj (st:=cX) l8 c8 k8
 have b8:=F8.binds (ps:=["_law_lengths"]) fun _ _ _ _ _ _ us hl=>match us,hl with | [_],_=>rfl
 have F9:=cj (st:=bD) l9 c9 k9
 have b9:=F9.binds (ps:=["_law_draw", "_law_lengths"]) fun _ _ _ _ _ _ us hl=>match us,hl with | [_,_],_=>rfl
 have F10:=cj (st:=gm) l10 c10 k10
 refine ⟨fun P hP => ?_,?_⟩
 ·match ts,tl,hP,th0 with
  | [P0],_,hP,th0 =>
   rcases List.mem_cons.mp hP with rfl | hP
   ·exact ⟨cc0,th0⟩
   cases hP
 refine ⟨PySem.W.fnOf "law" "law" (aL gm) (aD gm) (ag gm) .none kV10 dc10 pm10 an10 cd10 ct10,fun s v=>.of_eq rfl,fun base kb nb hBM => ?_⟩
 let GG:GI:=⟨l.prog,w,K,mg,base,fun c=>if c=7 then eNoCode else 0,lT ftb,fun c=>False,fun t=>ts.getD t 0,fun t=>(["codes_of.<locals>.<lambda>"]:List Str).getD t (rG 0)⟩
 have T:TF0 GG P cx:=by
  refine ⟨fun f x n hh => ?_,fun i x hh => ?_,fun x hx => ?_,fun c x hh => ?_,fun c x n hh => ?_,fun c m f hh x n hx => ?_,⟨qa (by decide +kernel) (by decide +kernel),fun c hc => ?_,fun f x hh => ?_,fun m x n hh f => ?_⟩,⟨fun c x hh => ?_,fun c x b hh => ?_⟩⟩
  ·have hm:=bj (l:=nms) hh
   simp only [nms,List.mem_cons,List.not_mem_nil,or_false,Prod.mk.injEq] at hm
   rcases hm with ⟨rfl,rfl,rfl⟩ | ⟨rfl,rfl,rfl⟩ | ⟨rfl,rfl,rfl⟩ | ⟨rfl,rfl,rfl⟩ | ⟨rfl,rfl,rfl⟩ | ⟨rfl,rfl,rfl⟩ | ⟨rfl,rfl,rfl⟩ | ⟨rfl,rfl,rfl⟩ | ⟨rfl,rfl,rfl⟩ | ⟨rfl,rfl,rfl⟩
   ·exact ⟨⟨f0,_, "pieces_of",["number", "size", "many"],["number", "size", "many", "top"],bf,cJ,PySem.W.mg_of X G a0,b0,F0,rfl,p_0,jQ,fun _ h=>by cases h⟩⟩
   ·exact ⟨⟨f1,_, "bits_of",["number", "width"],["number", "width"],bW,dW,PySem.W.mg_of X G a1,b1,F1,rfl,p_2,lV,fun _ h=>by cases h⟩⟩
   ·exact ⟨⟨f2,_, "refuse_unfit",["lengths"],["lengths", "ahead", "symbol", "length"],aM,aT,PySem.W.mg_of X G a2,b2,F2,rfl,Ca,gr,fun _ h=>by cases h⟩⟩
   ·exact ⟨⟨f3,_, "codes_of",["lengths"],["lengths", "bits", "code", "ahead", "symbol", "length"],bx,de,PySem.W.mg_of X G a3,b3,F3,rfl,xY,kg,fun t h=>by cases h; exact ⟨cc0,tc0,PySem.W.codeHd_of_K kb th0,(show (Str.ofString "codes_of" ++ Str.ofString ".<locals>." ++ Str.ofString "<lambda>" : Str)=Str.ofString "codes_of.<locals>.<lambda>" by decide +kernel),hBM⟩⟩⟩
   ·exact ⟨⟨f4,_, "_law_take",["_law_draw", "_law_many"],["_law_draw", "_law_many", "_law_digit"],cU,eY,PySem.W.mg_of X G a4,b4,F4,rfl,xb,o7,fun _ h=>by cases h⟩⟩
   ·exact ⟨⟨f5,_, "_law_purse",["_law_script", "_law_k"],["_law_script", "_law_k", "_law_cell", "_law_digits", "_law_mix", "_law_come", "_law_j"],bY,dZ,PySem.W.mg_of X G a5,b5,F5,rfl,wO,mF,fun _ h=>by cases h⟩⟩
   ·exact ⟨⟨f6,_, "_law_sizes",["_law_draw", "_law_most"],["_law_draw", "_law_most", "_law_lengths", "_law_symbol", "_law_kind", "_law_k", "_law_sizes_here", "_law_place"],bX,ef,PySem.W.mg_of X G a6,b6,F6,rfl,wK,mq,fun _ h=>by cases h⟩⟩
   ·exact ⟨⟨f7,_, "_law_refused",["_law_lengths"],["_law_lengths", "_law_refused_here", "_law_handed", "e"],aZ,cG,PySem.W.mg_of X G a7,b7,F7,rfl,wm,j6,fun _ h=>by cases h⟩⟩
   ·exact ⟨⟨f8,_, "_law_full",["_law_lengths"],["_law_lengths", "_law_room", "_law_more", "_law_symbol", "_law_length"],cX,fq,PySem.W.mg_of X G a8,b8,F8,rfl,w4,oD,fun _ h=>by cases h⟩⟩
   ·exact ⟨⟨f9,_, "_law_spoilt",["_law_draw", "_law_lengths"],["_law_draw", "_law_lengths", "_law_some", "_law_at", "_law_symbol", "_law_length", "_law_far", "_law_kind"],bD,dj,PySem.W.mg_of X G a9,b9,F9,rfl,wq,kx,fun _ h=>by cases h⟩⟩
  ·have hm:=bj (a:=i) (l:=gns) hh
   simp only [gns,List.mem_cons,List.not_mem_nil,or_false,Prod.mk.injEq] at hm
   rcases hm with ⟨rfl,rfl⟩ | ⟨rfl,rfl⟩
   ·exact ⟨_,.int 1,PySem.W.mg_of X G zBIT,⟨_,rfl⟩,fun ι Hf=>by rw [g_0]; exact .int _⟩
   ·exact ⟨_,.int 60,PySem.W.mg_of X G zLONGEST,⟨_,rfl⟩,fun ι Hf=>by rw [zu]; exact .int _⟩
  ·simp only [jv,List.mem_cons,List.not_mem_nil,or_false] at hx
   rcases hx with rfl | rfl | rfl | rfl | rfl | rfl | rfl | rfl | rfl | rfl | rfl | rfl | rfl | rfl | rfl | rfl | rfl | rfl | rfl | rfl
   ·exact PySem.W.mg_none_of X G z_len
   ·exact PySem.W.mg_none_of X G z_list
   ·exact PySem.W.mg_none_of X G z_tuple
   ·exact PySem.W.mg_none_of X G z_min
   ·exact PySem.W.mg_none_of X G z_max
   ·exact PySem.W.mg_none_of X G z_range
   ·exact PySem.W.mg_none_of X G z_enumerate
   ·exact PySem.W.mg_none_of X G z_isinstance
   ·exact PySem.W.mg_none_of X G z_int
   ·exact PySem.W.mg_none_of X G z_bool
   ·exact PySem.W.mg_none_of X G z_str
   ·exact PySem.W.mg_none_of X G z_sum
   ·exact PySem.W.mg_none_of X G z_all
   ·exact PySem.W.mg_none_of X G z_any
   ·exact PySem.W.mg_none_of X G z_sorted
   ·exact PySem.W.mg_none_of X G z_zip
   ·exact PySem.W.mg_none_of X G z_reversed
   ·exact PySem.W.mg_none_of X G z_dict
   ·exact PySem.W.mg_none_of X G z_set
   ·exact PySem.W.mg_none_of X G z_ValueError
  ·have hm:=bj (a:=c) (l:=ens) hh
   simp only [ens,List.mem_cons,List.not_mem_nil,or_false,Prod.mk.injEq] at hm
   rcases hm with ⟨rfl,rfl⟩
   ·exact ⟨PySem.W.mg_of X G yNoCode,xNoCode⟩
  ·have hm:=bj (a:=c) (l:=cln) hh
   simp only [cln,List.mem_cons,List.not_mem_nil,or_false,Prod.mk.injEq] at hm
  ·have hm:=bj (a:=(c,m)) (l:=xh) hh
   simp only [xh,List.mem_cons,List.not_mem_nil,or_false,Prod.mk.injEq] at hm
  ·exact False.elim hc
  ·have hm:=bj (a:=f) (l:=fln) hh
   simp only [fln,List.mem_cons,List.not_mem_nil,or_false,Prod.mk.injEq] at hm
  ·have hm:=bj (a:=m) (l:=mtn) hh
   simp only [mtn,List.mem_cons,List.not_mem_nil,or_false,Prod.mk.injEq] at hm
  ·have hm:(c,x)∈xmn:=List.contains_iff_mem.mp hh
   simp only [xmn,List.mem_cons,List.not_mem_nil,or_false,Prod.mk.injEq] at hm
   rcases hm with ⟨rfl,rfl⟩
   ·exact ⟨⟨_,PySem.W.mg_of X G yPressError,emNoCode_PressError⟩,⟨clNoCode,gaNoCode,gtNoCode,klNoCode,moNoCode,mbNoCode⟩,vkNoCode⟩
  ·have hm:=bj (a:=(c,x)) (l:=ktn) hh
   simp only [ktn,List.mem_cons,List.not_mem_nil,or_false,Prod.mk.injEq] at hm
   rcases hm with ⟨⟨rfl,rfl⟩,rfl⟩ | ⟨⟨rfl,rfl⟩,rfl⟩ | ⟨⟨rfl,rfl⟩,rfl⟩ | ⟨⟨rfl,rfl⟩,rfl⟩ | ⟨⟨rfl,rfl⟩,rfl⟩ | ⟨⟨rfl,rfl⟩,rfl⟩ | ⟨⟨rfl,rfl⟩,rfl⟩ | ⟨⟨rfl,rfl⟩,rfl⟩ | ⟨⟨rfl,rfl⟩,rfl⟩ | ⟨⟨rfl,rfl⟩,rfl⟩ | ⟨⟨rfl,rfl⟩,rfl⟩ | ⟨⟨rfl,rfl⟩,rfl⟩ | ⟨⟨rfl,rfl⟩,rfl⟩ | ⟨⟨rfl,rfl⟩,rfl⟩ | ⟨⟨rfl,rfl⟩,rfl⟩
   ·exact ⟨_,PySem.W.mg_of X G yNoCode,ktNoCode_NoCode⟩
   ·exact ⟨_,PySem.W.mg_of X G yBroken,ktNoCode_Broken⟩
   ·exact ⟨_,PySem.W.mg_of X G yNoBits,ktNoCode_NoBits⟩
   ·exact ⟨_,PySem.W.mg_of X G yNoBlock,ktNoCode_NoBlock⟩
   ·exact ⟨_,PySem.W.mg_of X G yNoHold,ktNoCode_NoHold⟩
   ·exact ⟨_,PySem.W.mg_of X G yNoKids,ktNoCode_NoKids⟩
   ·exact ⟨_,PySem.W.mg_of X G yNoMake,ktNoCode_NoMake⟩
   ·exact ⟨_,PySem.W.mg_of X G yNoName,ktNoCode_NoName⟩
   ·exact ⟨_,PySem.W.mg_of X G yNoPlace,ktNoCode_NoPlace⟩
   ·exact ⟨_,PySem.W.mg_of X G yNoRepeat,ktNoCode_NoRepeat⟩
   ·exact ⟨_,PySem.W.mg_of X G yNoRow,ktNoCode_NoRow⟩
   ·exact ⟨_,PySem.W.mg_of X G yNoRule,ktNoCode_NoRule⟩
   ·exact ⟨_,PySem.W.mg_of X G yNoText,ktNoCode_NoText⟩
   ·exact ⟨_,PySem.W.mg_of X G yNoThing,ktNoCode_NoThing⟩
   ·exact ⟨_,PySem.W.mg_of X G yTwice,ktNoCode_Twice⟩
 exact uf (G:=GG) (W:=WD) (k:=KD) (f:=506) (nT:=ts.length) T (by decide) F10 rfl wH yr (fun _ h=>by cases h) (zo tn) (by rw [tl]; exact math)
end K18
namespace PySem.W.Fast
theorem tw1449729395972194304:True:=trivial
theorem tw12444748949196719136:True:=trivial
theorem tw293315933155091584:True:=trivial
theorem tw11634628670622917856:True:=trivial
theorem tw12496782416313454944:True:=trivial
theorem tw1510645246739127744:True:=trivial
theorem tw7466412320442721824:True:=trivial
theorem tw3678270817575538272:True:=trivial
theorem tw16146447114515794592:True:=trivial
theorem tw3154476244687719104:True:=trivial
theorem tw14476629823861578464:True:=trivial
theorem tw9641617249039999712:True:=trivial
theorem tw4546876993986549504:True:=trivial
theorem tw9582217925030899520:True:=trivial
theorem tw11453423037942211424:True:=trivial
theorem tw5194988052569608128:True:=trivial
theorem tw17300506153669925953:True:=trivial
theorem tw6818228854143921217:True:=trivial
theorem tw11345259138685459617:True:=trivial
theorem tw715431182592233729:True:=trivial
theorem tw1540055392115073313:True:=trivial
theorem tw11230736109127309985:True:=trivial
theorem tw6305892554506127041:True:=trivial
theorem tw6352805017276466913:True:=trivial
theorem tw3157882136998890209:True:=trivial
theorem tw16235269208166985505:True:=trivial
theorem tw6511944340414766913:True:=trivial
theorem tw8634521916033964929:True:=trivial
theorem tw17798171180292039617:True:=trivial
theorem tw15639186068035143714:True:=trivial
theorem tw893210169102077986:True:=trivial
theorem tw17419093722887442690:True:=trivial
theorem tw6357403799687681346:True:=trivial
theorem tw15165900543244913026:True:=trivial
theorem tw10133862667766791554:True:=trivial
theorem tw4052946471915602338:True:=trivial
theorem tw13791662969070327330:True:=trivial
theorem tw2094601432256059938:True:=trivial
theorem tw9778588557343509154:True:=trivial
theorem tw6168825220963777314:True:=trivial
theorem tw4723406531529871266:True:=trivial
theorem tw4635161502839032770:True:=trivial
theorem tw11911226233481929731:True:=trivial
theorem tw13711157398356680931:True:=trivial
theorem tw2230975445657576675:True:=trivial
theorem tw1457458984393821603:True:=trivial
theorem tw13966877611996667523:True:=trivial
theorem tw2992164409924521635:True:=trivial
theorem tw3077440018144219875:True:=trivial
theorem tw2635129853390751619:True:=trivial
theorem tw6791769775268657380:True:=trivial
theorem tw12995983515091162372:True:=trivial
theorem tw13523589419509994788:True:=trivial
theorem tw16460615195855270212:True:=trivial
theorem tw188214764704972196:True:=trivial
theorem tw8937465367934159332:True:=trivial
theorem tw10153817900935379588:True:=trivial
theorem tw14048841885003479748:True:=trivial
theorem tw17178577609388425156:True:=trivial
theorem tw16627206673620213765:True:=trivial
theorem tw16714981587010152453:True:=trivial
theorem tw10770203896744348741:True:=trivial
theorem tw9745861641845750853:True:=trivial
theorem tw3165317711790986373:True:=trivial
theorem tw8474759814664159397:True:=trivial
theorem tw5201772148980144293:True:=trivial
theorem tw16235906076766869701:True:=trivial
theorem tw7420461558779225349:True:=trivial
theorem tw10223885512157825349:True:=trivial
theorem tw15871570581970399621:True:=trivial
theorem tw1889478699116904869:True:=trivial
theorem tw3372349608754351557:True:=trivial
theorem tw2337235362446170629:True:=trivial
theorem tw12280196503689894437:True:=trivial
theorem tw14789750625736787525:True:=trivial
theorem tw3637807632960515717:True:=trivial
theorem tw6620224794970477253:True:=trivial
theorem tw2358453390819599141:True:=trivial
theorem tw5446637452372831109:True:=trivial
theorem tw14976348471034688485:True:=trivial
theorem tw17046415713172582534:True:=trivial
theorem tw7488207763335833894:True:=trivial
theorem tw12537772089862352198:True:=trivial
theorem tw8159013056583914886:True:=trivial
theorem tw15440133102571897254:True:=trivial
theorem tw16360790856821237254:True:=trivial
theorem tw8523159135707972230:True:=trivial
theorem tw4416210512161674086:True:=trivial
theorem tw4049358980996997030:True:=trivial
theorem tw12812541136794091430:True:=trivial
theorem tw9427063405546240998:True:=trivial
theorem tw14568557009698520135:True:=trivial
theorem tw10173953588475211015:True:=trivial
theorem tw16976598693254151815:True:=trivial
theorem tw12650574695854891080:True:=trivial
theorem tw7241628321376936232:True:=trivial
theorem tw2099893113337065896:True:=trivial
theorem tw11051279055233957288:True:=trivial
theorem tw7499496480644081096:True:=trivial
theorem tw3457846269356743144:True:=trivial
theorem tw8043008628214988296:True:=trivial
theorem tw15709464368436484712:True:=trivial
theorem tw4588424455374602888:True:=trivial
theorem tw7120428937979209480:True:=trivial
theorem tw405353766893672200:True:=trivial
theorem tw8153157561552633800:True:=trivial
theorem tw4699755191956438217:True:=trivial
theorem tw7388409615344162281:True:=trivial
theorem tw3840199972812470793:True:=trivial
theorem tw3257243886387040809:True:=trivial
theorem tw2563394927141136969:True:=trivial
theorem tw4046042945590303369:True:=trivial
theorem tw17745324007130549161:True:=trivial
theorem tw9416209206826688425:True:=trivial
theorem tw13077631995571482666:True:=trivial
theorem tw6364174836688599146:True:=trivial
theorem tw7353737163975878762:True:=trivial
theorem tw11266021826248773866:True:=trivial
theorem tw15411130714441576746:True:=trivial
theorem tw16736641034288154954:True:=trivial
theorem tw10820643174552283626:True:=trivial
theorem tw14301629288799757834:True:=trivial
theorem tw14311991261954136618:True:=trivial
theorem tw1579931038399477354:True:=trivial
theorem tw5218716856142451402:True:=trivial
theorem tw2070256608566315850:True:=trivial
theorem tw13470301002047467370:True:=trivial
theorem tw115434600087182282:True:=trivial
theorem tw8349979384682668010:True:=trivial
theorem tw10771135689072327723:True:=trivial
theorem tw1594463005299271787:True:=trivial
theorem tw8393665567162019979:True:=trivial
theorem tw3865710213316395211:True:=trivial
theorem tw3832592008194993643:True:=trivial
theorem tw4203283619346296363:True:=trivial
theorem tw16849331671147715147:True:=trivial
theorem tw11388404261065644619:True:=trivial
theorem tw14376318687128066667:True:=trivial
theorem tw18126523456248002187:True:=trivial
theorem tw9040546288098802443:True:=trivial
theorem tw17737362391494043435:True:=trivial
theorem tw13056768542915475596:True:=trivial
theorem tw7438699518197677196:True:=trivial
theorem tw14893704452972844236:True:=trivial
theorem tw6124865971823982796:True:=trivial
theorem tw10237868882743513324:True:=trivial
theorem tw7573089815481041324:True:=trivial
theorem tw17707684366439395788:True:=trivial
theorem tw15994783645778595404:True:=trivial
theorem tw7923398647462231692:True:=trivial
theorem tw8256854255572340428:True:=trivial
theorem tw4538475037857628397:True:=trivial
theorem tw6959308208692414765:True:=trivial
theorem tw14525193479861652909:True:=trivial
theorem tw6213382566588636589:True:=trivial
theorem tw7067818506017184269:True:=trivial
theorem tw4655827166258883213:True:=trivial
theorem tw9089014848095198957:True:=trivial
theorem tw8417856666901940013:True:=trivial
theorem tw11883716321382231949:True:=trivial
theorem tw216637629276199853:True:=trivial
theorem tw16477014358302692366:True:=trivial
theorem tw4076000111541017614:True:=trivial
theorem tw18171343205266231342:True:=trivial
theorem tw14515781217611146414:True:=trivial
theorem tw10330125078505739566:True:=trivial
theorem tw4826115463990955342:True:=trivial
theorem tw11871065621157919086:True:=trivial
theorem tw7804345481421814222:True:=trivial
theorem tw16291799533834121710:True:=trivial
theorem tw10286577663236230766:True:=trivial
theorem tw969799281322281614:True:=trivial
theorem tw2526225164316847054:True:=trivial
theorem tw2356287124687018958:True:=trivial
theorem tw9758326770688262094:True:=trivial
theorem tw7382150794201121071:True:=trivial
theorem tw1995796367177730479:True:=trivial
theorem tw11216394233557323311:True:=trivial
theorem tw16640270980407776815:True:=trivial
theorem tw15738964402723187311:True:=trivial
theorem tw6805008870483442575:True:=trivial
theorem tw15430737093357657136:True:=trivial
theorem tw1624807670714841232:True:=trivial
theorem tw9392168142063999280:True:=trivial
theorem tw1292197248243568016:True:=trivial
theorem tw16394802760066649520:True:=trivial
theorem tw18090291581837751792:True:=trivial
theorem tw2014391763475384080:True:=trivial
theorem tw13182937213151216432:True:=trivial
theorem tw15543747857304985424:True:=trivial
theorem tw3109073997666132049:True:=trivial
theorem tw1485784738904512721:True:=trivial
theorem tw12205619455847515345:True:=trivial
theorem tw1643422386898050321:True:=trivial
theorem tw155545580091219249:True:=trivial
theorem tw12348723755542295985:True:=trivial
theorem tw7047864982547513777:True:=trivial
theorem tw4453502046810621361:True:=trivial
theorem tw16196088025966333521:True:=trivial
theorem tw4236059667425248945:True:=trivial
theorem tw585106541764863761:True:=trivial
theorem tw3291872172464222001:True:=trivial
theorem tw14154984900158935154:True:=trivial
theorem tw10250697374479892658:True:=trivial
theorem tw7377035944919594194:True:=trivial
theorem tw130709496658710802:True:=trivial
theorem tw8340959640047879506:True:=trivial
theorem tw6349248244078118258:True:=trivial
theorem tw16211790039837254066:True:=trivial
theorem tw11459417344076773906:True:=trivial
theorem tw7768077618774699570:True:=trivial
theorem tw7974108724140318386:True:=trivial
theorem tw139760384289941234:True:=trivial
theorem tw12411601272727770034:True:=trivial
theorem tw4465801903009780690:True:=trivial
theorem tw16708441169261235186:True:=trivial
theorem tw1794457973673129970:True:=trivial
theorem tw10131957706039656467:True:=trivial
theorem tw15240426858985540659:True:=trivial
theorem tw7568547952185406515:True:=trivial
theorem tw5129656552149617811:True:=trivial
theorem tw18419219132037278867:True:=trivial
theorem tw8131968561132352723:True:=trivial
theorem tw9370847134199833875:True:=trivial
theorem tw2239035839531071827:True:=trivial
theorem tw11148083405473844691:True:=trivial
theorem tw9096540625370420691:True:=trivial
theorem tw14553553134761310675:True:=trivial
theorem tw4165450090218324499:True:=trivial
theorem tw17190436125379456531:True:=trivial
theorem tw5626195616386194995:True:=trivial
theorem tw18333191270521406131:True:=trivial
theorem tw13298953319689262771:True:=trivial
theorem tw872521615609694003:True:=trivial
theorem tw6815232171528436531:True:=trivial
theorem tw5726763513467502451:True:=trivial
theorem tw7437075348769275795:True:=trivial
theorem tw4528399652376051667:True:=trivial
theorem tw3864339276035648499:True:=trivial
theorem tw13057919007932195988:True:=trivial
theorem tw5830565239761543348:True:=trivial
theorem tw6046097178170805492:True:=trivial
theorem tw6203989995191777588:True:=trivial
theorem tw10283837931361230388:True:=trivial
theorem tw121900634829016660:True:=trivial
theorem tw17914364150788209396:True:=trivial
theorem tw6155635719070529364:True:=trivial
theorem tw1497496562520256372:True:=trivial
theorem tw1218844488956507060:True:=trivial
theorem tw15758349221668355157:True:=trivial
theorem tw3384526710892293429:True:=trivial
theorem tw5598408935557417461:True:=trivial
theorem tw830578328896255509:True:=trivial
theorem tw902062120027806229:True:=trivial
theorem tw570384140595187253:True:=trivial
theorem tw3882464823317932693:True:=trivial
theorem tw4087371350259932949:True:=trivial
theorem tw11596563121128607573:True:=trivial
theorem tw17125197770340777174:True:=trivial
theorem tw8736535062845219094:True:=trivial
theorem tw15468650815169443158:True:=trivial
theorem tw15772881529921995286:True:=trivial
theorem tw1145385956896525942:True:=trivial
theorem tw11134083117097047830:True:=trivial
theorem tw9054770206873782102:True:=trivial
theorem tw11017456794764271478:True:=trivial
theorem tw3132712468795340951:True:=trivial
theorem tw6905613126906876119:True:=trivial
theorem tw8460544434315813079:True:=trivial
theorem tw6140147031886314807:True:=trivial
theorem tw5271932492905670231:True:=trivial
theorem tw16677016926060900119:True:=trivial
theorem tw16441576007795481495:True:=trivial
theorem tw9542015787798164375:True:=trivial
theorem tw5909523055016022040:True:=trivial
theorem tw13469022254359907416:True:=trivial
theorem tw17668714581220161656:True:=trivial
theorem tw16340243380737073304:True:=trivial
theorem tw1739431567054537304:True:=trivial
theorem tw11658479087242070968:True:=trivial
theorem tw7186368489511072857:True:=trivial
theorem tw15368108291659470969:True:=trivial
theorem tw2588411602566954265:True:=trivial
theorem tw5179416899870805273:True:=trivial
theorem tw6068839196729821497:True:=trivial
theorem tw15990063363473310105:True:=trivial
theorem tw5189109609403795961:True:=trivial
theorem tw3927384697042060857:True:=trivial
theorem tw4247767730988106521:True:=trivial
theorem tw14316446615292308345:True:=trivial
theorem tw3309506219902177562:True:=trivial
theorem tw6274340804041613626:True:=trivial
theorem tw9089290595086414170:True:=trivial
theorem tw6891024185734705530:True:=trivial
theorem tw15412663616115704314:True:=trivial
theorem tw6702179264393388570:True:=trivial
theorem tw3469234434974821914:True:=trivial
theorem tw5668430120146653754:True:=trivial
theorem tw4104416054604716762:True:=trivial
theorem tw8624256883078300442:True:=trivial
theorem tw1807252061204319098:True:=trivial
theorem tw15474826358038329242:True:=trivial
theorem tw17844220625265999834:True:=trivial
theorem tw9034081882670076955:True:=trivial
theorem tw8419439842184974459:True:=trivial
theorem tw15253270522198996187:True:=trivial
theorem tw5780418518116830619:True:=trivial
theorem tw8997315657202761115:True:=trivial
theorem tw12845852609514110491:True:=trivial
theorem tw17846521957682222651:True:=trivial
theorem tw4645308874947976795:True:=trivial
theorem tw1331656232951312987:True:=trivial
theorem tw1948040724013203195:True:=trivial
theorem tw9588373411193360251:True:=trivial
theorem tw18395871204649663483:True:=trivial
theorem tw3137250258265906236:True:=trivial
theorem tw497428975118081372:True:=trivial
theorem tw6724177795137689276:True:=trivial
theorem tw15013689594400339676:True:=trivial
theorem tw7970452862021206876:True:=trivial
theorem tw12079374576099473340:True:=trivial
theorem tw3202359885346109372:True:=trivial
theorem tw15137476916848443421:True:=trivial
theorem tw10062509589638382973:True:=trivial
theorem tw6199757839087469053:True:=trivial
theorem tw10269606357897487933:True:=trivial
theorem tw11126393948790491741:True:=trivial
theorem tw12209199045758288541:True:=trivial
theorem tw14571438520229245725:True:=trivial
theorem tw12771120372793035677:True:=trivial
theorem tw11423475845588463646:True:=trivial
theorem tw5437163051318852862:True:=trivial
theorem tw1568041117299889438:True:=trivial
theorem tw8061247046008370526:True:=trivial
theorem tw8300980251269386654:True:=trivial
theorem tw1481880292115639774:True:=trivial
theorem tw14062574506169341438:True:=trivial
theorem tw3264129799419891262:True:=trivial
theorem tw6482415184658540126:True:=trivial
theorem tw1720639919020037758:True:=trivial
theorem tw6095987117283621662:True:=trivial
theorem tw18336777568690408350:True:=trivial
theorem tw10642807624655282078:True:=trivial
theorem tw6146553429007450046:True:=trivial
theorem tw16639497790725805087:True:=trivial
theorem tw5702372835228558591:True:=trivial
theorem tw17109458886729740575:True:=trivial
theorem tw11212568782602331423:True:=trivial
theorem tw9534737027225742623:True:=trivial
theorem tw1079849430078955839:True:=trivial
theorem tw5769806819254365663:True:=trivial
theorem tw947703831033247199:True:=trivial
theorem tw15122500431975299583:True:=trivial
theorem tw16453771899841079839:True:=trivial
theorem tw11796174188559197791:True:=trivial
theorem tw8035681194297863839:True:=trivial
theorem tw8463451152905386655:True:=trivial
theorem tw15374545814197128991:True:=trivial
theorem tw4377966402306257727:True:=trivial
theorem tw8215372722339295231:True:=trivial
theorem tw14133008829257865667:True:=trivial
theorem tw16202286571829378465:True:=trivial
end PySem.W.Fast
open PySem PySem.W PyProof.Rows
set_option maxRecDepth 100000 in
set_option maxHeartbeats 0 in
theorem PySem.Challenge.cw_seekpress_k18_no_code_holds : PySem.Challenge.rw_seekpress_k18_no_code.Holds := by
 w_on; o_law; km_head; (case hw=>w_witness2)
 k_fill
 refine IS.Bh (l:=PySem.Challenge.rw_seekpress_k18_no_code) (n:=63) (k:=2 * (K18.KD+1)) (x := "_law_script") rfl (by decide) rfl ⟨rfl,by decide,by decide⟩ (fun w h Y=>⟨PySem.W.km_in_of Y,PySem.W.km_tabs_of Y⟩) (fun w=>by kernel_rfl) ?F
 case F =>
  intro w mg fa h KX G hmg
  refine' K18.all_mk KX G hmg ?a0 ?l0 ?c0 ?k0 ?a1 ?l1 ?c1 ?k1 ?a2 ?l2 ?c2 ?k2 ?a3 ?l3 ?c3 ?k3 ?a4 ?l4 ?c4 ?k4 ?a5 ?l5 ?c5 ?k5 ?a6 ?l6 ?c6 ?k6 ?a7 ?l7 ?c7 ?k7 ?a8 ?l8 ?c8 ?k8 ?a9 ?l9 ?c9 ?k9 ?a10 ?l10 ?c10 ?k10 ?tc0 ?th0 ?tl ?tn ?z_len ?z_list ?z_tuple ?z_min ?z_max ?z_range ?z_enumerate ?z_isinstance ?z_int ?z_bool ?z_str ?z_sum ?z_all ?z_any ?z_sorted ?z_zip ?z_reversed ?z_dict ?z_set ?z_ValueError ?zBIT ?zLONGEST ?yNoCode ?xNoCode ?yBroken ?yNoBits ?yNoBlock ?yNoHold ?yNoKids ?yNoMake ?yNoName ?yNoPlace ?yNoRepeat ?yNoRow ?yNoRule ?yNoText ?yNoThing ?yPressError ?yTwice ?clNoCode ?gaNoCode ?gtNoCode ?klNoCode ?moNoCode ?mbNoCode ?vkNoCode ?emNoCode_PressError ?ktNoCode_NoCode ?ktNoCode_Broken ?ktNoCode_NoBits ?ktNoCode_NoBlock ?ktNoCode_NoHold ?ktNoCode_NoKids ?ktNoCode_NoMake ?ktNoCode_NoName ?ktNoCode_NoPlace ?ktNoCode_NoRepeat ?ktNoCode_NoRow ?ktNoCode_NoRule ?ktNoCode_NoText ?ktNoCode_NoThing ?ktNoCode_Twice
  (case a0=>first | k_is | kernel_rfl)
  (case l0=>first | k_is | kernel_rfl)
  (case c0=>first | k_is | kernel_rfl)
  (case k0=>first | k_is | kernel_rfl)
  (case a1=>first | k_is | kernel_rfl)
  (case l1=>first | k_is | kernel_rfl)
  (case c1=>first | k_is | kernel_rfl)
  (case k1=>first | k_is | kernel_rfl)
  (case a2=>first | k_is | kernel_rfl)
  (case l2=>first | k_is | kernel_rfl)
  (case c2=>first | k_is | kernel_rfl)
  (case k2=>first | k_is | kernel_rfl)
  (case a3=>first | k_is | kernel_rfl)
  (case l3=>first | k_is | kernel_rfl)
  (case c3=>first | k_is | kernel_rfl)
  (case k3=>first | k_is | kernel_rfl)
  (case a4=>first | k_is | kernel_rfl)
  (case l4=>first | k_is | kernel_rfl)
  (case c4=>first | k_is | kernel_rfl)
  (case k4=>first | k_is | kernel_rfl)
  (case a5=>first | k_is | kernel_rfl)
  (case l5=>first | k_is | kernel_rfl)
  (case c5=>first | k_is | kernel_rfl)
  (case k5=>first | k_is | kernel_rfl)
  (case a6=>first | k_is | kernel_rfl)
  (case l6=>first | k_is | kernel_rfl)
  (case c6=>first | k_is | kernel_rfl)
  (case k6=>first | k_is | kernel_rfl)
  (case a7=>first | k_is | kernel_rfl)
  (case l7=>first | k_is | kernel_rfl)
  (case c7=>first | k_is | kernel_rfl)
  (case k7=>first | k_is | kernel_rfl)
  (case a8=>first | k_is | kernel_rfl)
  (case l8=>first | k_is | kernel_rfl)
  (case c8=>first | k_is | kernel_rfl)
  (case k8=>first | k_is | kernel_rfl)
  (case a9=>first | k_is | kernel_rfl)
  (case l9=>first | k_is | kernel_rfl)
  (case c9=>first | k_is | kernel_rfl)
  (case k9=>first | k_is | kernel_rfl)
  (case a10=>first | k_is | kernel_rfl)
  (case l10=>first | k_is | kernel_rfl)
  (case c10=>first | k_is | kernel_rfl)
  (case k10=>first | k_is | kernel_rfl)
  (case tc0=>first | exact rfl | k_is | kernel_rfl)
  (case th0=>first | k_is | kernel_rfl)
  (case tl=>first | k_is | kernel_rfl)
  (case tn=>first | k_is | kernel_rfl | decide)
  (case z_len=>first | k_is | kernel_rfl)
  (case z_list=>first | k_is | kernel_rfl)
  (case z_tuple=>first | k_is | kernel_rfl)
  (case z_min=>first | k_is | kernel_rfl)
  (case z_max=>first | k_is | kernel_rfl)
  (case z_range=>first | k_is | kernel_rfl)
  (case z_enumerate=>first | k_is | kernel_rfl)
  (case z_isinstance=>first | k_is | kernel_rfl)
  (case z_int=>first | k_is | kernel_rfl)
  (case z_bool=>first | k_is | kernel_rfl)
  (case z_str=>first | k_is | kernel_rfl)
  (case z_sum=>first | k_is | kernel_rfl)
  (case z_all=>first | k_is | kernel_rfl)
  (case z_any=>first | k_is | kernel_rfl)
  (case z_sorted=>first | k_is | kernel_rfl)
  (case z_zip=>first | k_is | kernel_rfl)
  (case z_reversed=>first | k_is | kernel_rfl)
  (case z_dict=>first | k_is | kernel_rfl)
  (case z_set=>first | k_is | kernel_rfl)
  (case z_ValueError=>first | k_is | kernel_rfl)
  (case zBIT=>first | k_is | kernel_rfl)
  (case zLONGEST=>first | k_is | kernel_rfl)
  (case yNoCode=>first | k_is | kernel_rfl)
  (case xNoCode=>first | k_is | kernel_rfl)
  (case yBroken=>first | k_is | kernel_rfl)
  (case yNoBits=>first | k_is | kernel_rfl)
  (case yNoBlock=>first | k_is | kernel_rfl)
  (case yNoHold=>first | k_is | kernel_rfl)
  (case yNoKids=>first | k_is | kernel_rfl)
  (case yNoMake=>first | k_is | kernel_rfl)
  (case yNoName=>first | k_is | kernel_rfl)
  (case yNoPlace=>first | k_is | kernel_rfl)
  (case yNoRepeat=>first | k_is | kernel_rfl)
  (case yNoRow=>first | k_is | kernel_rfl)
  (case yNoRule=>first | k_is | kernel_rfl)
  (case yNoText=>first | k_is | kernel_rfl)
  (case yNoThing=>first | k_is | kernel_rfl)
  (case yPressError=>first | k_is | kernel_rfl)
  (case yTwice=>first | k_is | kernel_rfl)
  (case clNoCode=>first | k_is | kernel_rfl)
  (case gaNoCode=>first | k_is | kernel_rfl)
  (case gtNoCode=>first | k_is | kernel_rfl)
  (case klNoCode=>first | k_is | kernel_rfl)
  (case moNoCode=>first | k_is | kernel_rfl)
  (case mbNoCode=>first | k_is | kernel_rfl)
  (case vkNoCode=>first | k_is | kernel_rfl)
  (case emNoCode_PressError=>first | k_is | kernel_rfl)
  (case ktNoCode_NoCode=>first | k_is | kernel_rfl)
  (case ktNoCode_Broken=>first | k_is | kernel_rfl)
  (case ktNoCode_NoBits=>first | k_is | kernel_rfl)
  (case ktNoCode_NoBlock=>first | k_is | kernel_rfl)
  (case ktNoCode_NoHold=>first | k_is | kernel_rfl)
  (case ktNoCode_NoKids=>first | k_is | kernel_rfl)
  (case ktNoCode_NoMake=>first | k_is | kernel_rfl)
  (case ktNoCode_NoName=>first | k_is | kernel_rfl)
  (case ktNoCode_NoPlace=>first | k_is | kernel_rfl)
  (case ktNoCode_NoRepeat=>first | k_is | kernel_rfl)
  (case ktNoCode_NoRow=>first | k_is | kernel_rfl)
  (case ktNoCode_NoRule=>first | k_is | kernel_rfl)
  (case ktNoCode_NoText=>first | k_is | kernel_rfl)
  (case ktNoCode_NoThing=>first | k_is | kernel_rfl)
  (case ktNoCode_Twice=>first | k_is | kernel_rfl)

