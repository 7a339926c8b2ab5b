import PyProof.Rows.All
import Wide.All
import OpenK.AllK
import Wide.FinOn
import Lean
import PyProof.EqAt
import PyProof.EqKinds
import PyProof.TupleCall
import KE.IntBitsLaws
import KE.KBits
import KE.KEqSeq
import KE.KRevIter
import KE.KTryMore
import OpenK.KOwn
import PyProof.ExcArgsOwn
import PyProof.ExcAttrAll.ValueError
import PyProof.ExcBaseAll.ValueError
import PyProof.EqAt
import PyProof.NsDelKeeps
import PyProof.Rows.StrInSeq3
import KE.KDictOf
import KE.KDictLaws
import KE.KMinBuiltin
import KE.KNestM
import KE.KLam
import KE.KSortTup
import PyProof.ListRange
import PyProof.SumAny
import KE.KSortedM
import PyProof.Rows.SortWalk
import PyProof.SeqI3
import PyProof.IsRules
import KE.KIntText
import KE.KxText
import KE.KxSplit
import PyProof.StrLoop
import PyProof.StrWalks
import PyProof.FString5
import PySem.Challenge.RW_seekpress_k57_texts_refused
set_option Elab.async false
set_option linter.all false
set_option maxRecDepth 100000
namespace L2
open PySem PySem.Spec PyProof.Rows
noncomputable abbrev Key:=Sum Int Str
noncomputable def keyIs:Key→Value→Bool
 | .inl k,v=>Value.isInt k v
 | .inr x,v=>Value.isStrOf x v
noncomputable def keyH (w:World):Key→Int
 | .inl k=>hashInt k
 | .inr x=>hashStr w x
theorem keyIs_shape:∀ {k:Key} {v:Value},keyIs k v=true→(∃ i t,k=Sum.inl i∧v=Value.int i t)∨(∃ x t,k=Sum.inr x∧v=Value.str x t)
 | .inl i,v,h=>by
  obtain ⟨t,e⟩:=Value.isInt_shape (k:=i) (v:=v) h
  exact .inl ⟨i,t,rfl,e⟩
 | .inr x,v,h=>by
  obtain ⟨t,e⟩:=Value.isStrOf_shape (x:=x) (v:=v) h
  exact .inr ⟨x,t,rfl,e⟩
theorem keyIs_int (i:Int) (t:Tok):keyIs (.inl i) (.int i t)=true:=by simp [keyIs,Value.isInt]
theorem keyIs_str (x:Str) (t:Tok):keyIs (.inr x) (.str x t)=true:=by simp [keyIs,Value.isStrOf]
theorem key_ll (a b:Int):decide ((Sum.inl a:Key)=Sum.inl b)=(a == b):=by
 by_cases e:a=b
 ·subst e; simp
 ·have h:¬ (Sum.inl a:Key)=Sum.inl b:=fun q=>e (Sum.inl.inj q)
  rw [decide_eq_false h]
  exact (beq_eq_false_iff_ne.mpr e).symm
theorem key_rr (a b:Str):decide ((Sum.inr a:Key)=Sum.inr b)=decide (a=b):=by
 by_cases e:a=b
 ·subst e; simp
 ·have h:¬ (Sum.inr a:Key)=Sum.inr b:=fun q=>e (Sum.inr.inj q)
  rw [decide_eq_false h,decide_eq_false e]
theorem key_lr (a:Int) (b:Str):decide ((Sum.inl a:Key)=Sum.inr b)=false:=decide_eq_false (fun q=>nomatch q)
theorem key_rl (a:Str) (b:Int):decide ((Sum.inr a:Key)=Sum.inl b)=false:=decide_eq_false (fun q=>nomatch q)
noncomputable def mixKind (prog:Program) (w:World):PySem.KeyKind prog w Key where
 is:=keyIs
 hash:=keyH w
 inj:=fun v a b ha hb=>by
  rcases keyIs_shape ha with ⟨i,t,rfl,rfl⟩ | ⟨x,t,rfl,rfl⟩
  ·rcases keyIs_shape hb with ⟨j,u,rfl,e⟩ | ⟨y,u,rfl,e⟩
   ·injection e with e1 _; rw [e1]
   ·exact nomatch e
  ·rcases keyIs_shape hb with ⟨j,u,rfl,e⟩ | ⟨y,u,rfl,e⟩
   ·exact nomatch e
   ·injection e with e1 _; rw [e1]
 byValue:=fun k v h=>by
  rcases keyIs_shape h with ⟨i,t,rfl,rfl⟩ | ⟨x,t,rfl,rfl⟩ <;> rfl
 pyHash:=fun hv h=>by
  rcases keyIs_shape hv with ⟨i,t,rfl,rfl⟩ | ⟨x,t,rfl,rfl⟩
  ·exact wpAny_pyHash_int h
  ·exact wpAny_pyHash_str h
 eqBool:=fun hu hv h=>by
  rcases keyIs_shape hu with ⟨i,t,rfl,rfl⟩ | ⟨x,t,rfl,rfl⟩
  ·rcases keyIs_shape hv with ⟨j,u,rfl,rfl⟩ | ⟨y,u,rfl,rfl⟩
   ·rw [key_ll] at h; exact wpAny_eqBool_int h
   ·rw [key_lr] at h; exact SeqAt.EqAt.int_str i t y u _ _ _ _ h
  ·rcases keyIs_shape hv with ⟨j,u,rfl,rfl⟩ | ⟨y,u,rfl,rfl⟩
   ·rw [key_rl] at h; exact SeqAt.EqAt.str_int x t j u _ _ _ _ h
   ·rw [key_rr] at h; exact wpAny_eqBool_str h
 «strs» := fun k x t v h=>by
  rcases keyIs_shape h with ⟨i,u,rfl,e⟩ | ⟨y,u,rfl,e⟩
  ·exact nomatch e
  ·injection e with e1 _
   subst e1
   cases v <;> rfl
theorem mixKind_int (prog:Program) (w:World) (i:Int) (t:Tok):(mixKind prog w).is (.inl i) (.int i t)=true:=keyIs_int i t
theorem mixKind_str (prog:Program) (w:World) (x:Str) (t:Tok):(mixKind prog w).is (.inr x) (.str x t)=true:=keyIs_str x t
end L2
namespace L2
open PySem PySem.Spec PyProof.Rows
inductive V where
 | non | bl (b:Bool) | int (i:Int) | str (x:Str) | byt (b:Array UInt8) | flt (b:UInt64) | ref (a:Addr) | ty (n:String)
 deriving DecidableEq
noncomputable def RelV:V→Value→Prop
 | .non,u=>u=Value.none
 | .bl b,u=>u=Value.bool b
 | .int i,u=>∃ t,u=Value.int i t
 | .str x,u=>∃ t,u=Value.str x t
 | .byt b,u=>∃ t,u=Value.bytes b t
 | .flt b,u=>∃ t,u=Value.float b t
 | .ref a,u=>u=Value.ref a
 | .ty n,u=>u=Value.type n
noncomputable abbrev Vals:List V→List Value→Prop:=Paired RelV
theorem Vals.length {xs:List V} {us:List Value} (r:Vals xs us):xs.length=us.length:=Paired.length r
theorem Vals.get:∀ {xs:List V} {us:List Value} {i:Nat} {x:V},Vals xs us→xs[i]?=some x→∃ u,us[i]?=some u∧RelV x u
 | _,_,_,_,.nil,e=>by simp at e
 | _,_,0,_,.cons r _,e=>by simp at e; subst e; exact ⟨_,rfl,r⟩
 | _,_,i+1,x,.cons _ t,e=>by
  obtain ⟨u,h1,h2⟩:=Vals.get (i:=i) (x:=x) t (by simpa using e)
  exact ⟨u,by simpa using h1,h2⟩
theorem Vals.set {x:V} {u:Value} (r:RelV x u):∀ {xs:List V} {us:List Value} (i:Nat),Vals xs us→Vals (xs.set i x) (us.set i u)
 | _,_,_,.nil=>.nil
 | _,_,0,.cons _ t=>.cons r t
 | _,_,i+1,.cons q t=>.cons q (Vals.set r i t)
theorem Vals.append:∀ {xs ys:List V} {us ws:List Value},Vals xs us→Vals ys ws→Vals (xs++ys) (us++ws)
 | _,_,_,_,.nil,s=>s
 | _,_,_,_,.cons r t,s=>.cons r (Vals.append t s)
theorem Vals.take:∀ {xs:List V} {us:List Value} (n:Nat),Vals xs us→Vals (xs.take n) (us.take n)
 | _,_,0,_=>.nil
 | _,_,_+1,.nil=>.nil
 | _,_,n+1,.cons r t=>.cons r (Vals.take n t)
theorem Vals.drop:∀ {xs:List V} {us:List Value} (n:Nat),Vals xs us→Vals (xs.drop n) (us.drop n)
 | _,_,0,r=>r
 | _,_,_+1,.nil=>.nil
 | _,_,n+1,.cons _ t=>Vals.drop n t
noncomputable def RelO:Option V→Option Value→Prop
 | some v,some u=>RelV v u
 | none,none=>True
 | _,_=>False
noncomputable def KV {κ:Type}:List (κ × V)→List (κ × Value)→Prop:=Paired fun (p:κ × V) (q:κ × Value)=>p.1=q.1∧RelV p.2 q.2
noncomputable def kV:Key→V
 | .inl i=>.int i
 | .inr x=>.str x
inductive HO where
 | lst (xs:List V)
 | tup (xs:List V)
 | dK (kvs:List (Key × V)) | dT (kvs:List (List Key × V))
 | set (S:Int→Bool) (n:Nat)
 | ins (C dx:Addr) (fs:List (Str × V))
 | own (x:Addr)
 | xd (fs:List (Str × V))
 | met (f x:Addr)
 | rng (lo hi:Int)
 | frz (o:Obj) (u:HO)
 | tbl (ps:Array Value)
 | ext (φ:Heap→Prop)
noncomputable abbrev Hp:=Addr→Option HO
noncomputable def upd (H:Hp) (a:Addr) (o:HO):Hp:=fun b=>if b=a then some o else H b
theorem upd_same {H:Hp} {a:Addr} {o:HO}:upd H a o a=some o:=by unfold upd; rw [if_pos rfl]
theorem upd_ne {H:Hp} {a b:Addr} {o:HO} (h:b≠a):upd H a o b=H b:=by unfold upd; rw [if_neg h]
theorem ne_of {H:Hp} {a b:Addr} {o u:HO} (h:H a=some o) (h':H b=some u) (d:o≠u):a≠b:=by
 intro e; subst e; rw [h] at h'; exact d (Option.some.inj h')
theorem ne_of_none {H:Hp} {a b:Addr} {o:HO} (h:H a=some o) (h':H b=none):a≠b:=by
 intro e; subst e; rw [h] at h'; cases h'
section
variable (P:Program) (w:World)
noncomputable def ObjOk (H:Hp) (h:Heap) (a:Addr):HO→Prop
 | .lst xs=>xs.length≤sizeLine∧∃ (its:List Value) (n:Nat),Vals xs its∧h.get? a=some { cls:=.type "list",data:=.seq its.toArray n }
 | .tup xs=>xs.length≤sizeLine∧∃ its:List Value,Vals xs its∧IsTup h a its.toArray
 | .dK kvs=>kvs.length≤sizeLine∧(a == sysModules)=false∧∃ vs,KV kvs vs∧h.DictOf (mixKind P w) a vs
 | .dT kvs=>kvs.length≤sizeLine∧(a == sysModules)=false∧∃ xs:List (List Key × Addr × Value),
   Paired (fun (p:List Key × V) (q:List Key × Addr × Value)=>p.1=q.1∧H q.2.1=some (.tup (p.1.map kV))∧RelV p.2 q.2.2) kvs xs ∧
   ∃ o es ep,h.get? a=some o∧o.ExactDict∧o.data=.dict es ep∧es.toList=xs.map (entryOfKey (tupleKind (mixKind P w)))∧(xs.map (·.1)).Nodup
 | .set S n=>h.SetOf (intKind P w) a S n
 | .ins C dx fs=>H dx=some (.own a)∧fs.length≤1000∧dx≠a∧h.get? a=some (PySem.W.instObj C dx) ∧
   ∃ mA,h.Ns1 dx mA∧(∀ f,RelO (fs.lookup f) (mA f))∧PySem.Within mA (fs.map (·.1))
 | .own _=>∃ o,h.get? a=some o
 | .xd fs=>∃ mA,h.Ns1 a mA∧∀ f,RelO (fs.lookup f) (mA f)
 | .rng lo hi=>∃ t u v,h.get? a=some { cls:=.type "range",data:=.fields #[.int lo t,.int hi u,.int 1 v] }
 | .frz o u=>h.get? a=some o∧ObjOk H h a u
 | .tbl ps=>h.get? a=some { cls:=.none,data:=.fields ps }
 | .met f x=>h.get? a=some (PySem.W.methodObj (.ref f) (.ref x))
 | .ext φ=>φ h∧(∃ o,h.get? a=some o)∧∀ h1 h2:Heap,φ h1→(∀ o,h1.get? a=some o→h2.get? a=some o)→φ h2
noncomputable def HOk (H:Hp) (h:Heap):Prop:=∀ a o,H a=some o→ObjOk P w H h a o
end
section
variable {P:Program} {w:World} {H H':Hp} {h h':Heap} {a:Addr} {o:HO}
theorem ObjOk.lt (x:ObjOk P w H h a o):a<h.objs.size:=by
 cases o with
 | lst xs=>obtain ⟨_,_,_,_,e⟩:=x; exact Heap.lt_size e
 | tup xs=>obtain ⟨_,_,_,p⟩:=x; exact p.lt
 | dK kvs=>obtain ⟨_,_,_,_,o,_,_,e,_⟩:=x; exact Heap.lt_size e
 | dT kvs=>obtain ⟨_,_,_,_,o,_,_,e,_⟩:=x; exact Heap.lt_size e
 | set S n=>obtain ⟨o,_,_,_,e,_⟩:=x; exact Heap.lt_size e
 | ins C dx fs=>obtain ⟨_,_,_,e,_⟩:=x; exact Heap.lt_size e
 | own y=>obtain ⟨_,e⟩:=x; exact Heap.lt_size e
 | xd fs=>obtain ⟨_,⟨_,_,_,e,_⟩,_⟩:=x; exact Heap.lt_size e
 | rng lo hi=>obtain ⟨_,_,_,e⟩:=x; exact Heap.lt_size e
 | frz ob u=>obtain ⟨e,_⟩:=x; exact Heap.lt_size e
 | tbl ps=>exact Heap.lt_size (show h.get? a=some _ from x)
 | met f y=>exact Heap.lt_size (show h.get? a=some _ from x)
 | ext φ=>obtain ⟨_,⟨_,e⟩,_⟩:=x; exact Heap.lt_size e
theorem Paired.mapP {α β:Type} {F G:α→β→Prop}:∀ {l₁:List α} {l₂:List β},Paired F l₁ l₂→(∀ a b,F a b→G a b)→Paired G l₁ l₂
 | _,_,.nil,_=>.nil
 | _,_,.cons r t,f=>.cons (f _ _ r) (Paired.mapP t f)
theorem ObjOk.stay (x:ObjOk P w H h a o) (k:∀ b u,(b=a∨H b=some (.own a))→h.get? b=some u→h'.get? b=some u)
  (ho:∀ b,H b=some (.own a)→H' b=some (.own a)) (ht:∀ b xs,H b=some (.tup xs)→H' b=some (.tup xs)):ObjOk P w H' h' a o:=by
 induction o with
 | lst xs=>obtain ⟨z,its,n,r,e⟩:=x; exact ⟨z,its,n,r,k _ _ (.inl rfl) e⟩
 | tup xs=>obtain ⟨z,its,r,ob,e,c⟩:=x; exact ⟨z,its,r,ob,k _ _ (.inl rfl) e,c⟩
 | dK kvs=>obtain ⟨z,y,vs,r,ob,es,ep,e,c⟩:=x; exact ⟨z,y,vs,r,ob,es,ep,k _ _ (.inl rfl) e,c⟩
 | dT kvs =>
  obtain ⟨z,y,xs,r,ob,es,ep,e,c⟩:=x
  exact ⟨z,y,xs,Paired.mapP r fun p q z=>⟨z.1,ht _ _ z.2.1,z.2.2⟩,ob,es,ep,k _ _ (.inl rfl) e,c⟩
 | set S n=>obtain ⟨ob,es,ep,t,e,c⟩:=x; exact ⟨ob,es,ep,t,k _ _ (.inl rfl) e,c⟩
 | ins C dx fs =>
  obtain ⟨d,z,ne,e,mA,⟨od,es,ep,e2,c⟩,r⟩:=x
  exact ⟨ho _ d,z,ne,k _ _ (.inl rfl) e,mA,⟨od,es,ep,k _ _ (.inr d) e2,c⟩,r⟩
 | own y=>obtain ⟨ob,e⟩:=x; exact ⟨ob,k _ _ (.inl rfl) e⟩
 | xd fs=>obtain ⟨mA,⟨od,es,ep,e,c⟩,r⟩:=x; exact ⟨mA,⟨od,es,ep,k _ _ (.inl rfl) e,c⟩,r⟩
 | rng lo hi=>obtain ⟨t,u,v,e⟩:=x; exact ⟨t,u,v,k _ _ (.inl rfl) e⟩
 | frz ob u ih=>obtain ⟨e,q⟩:=x; exact ⟨k _ _ (.inl rfl) e,ih q⟩
 | tbl ps =>
  have e:h.get? a=some { cls:=.none,data:=.fields ps }:=x
  show h'.get? a=some { cls:=.none,data:=.fields ps }
  exact k a _ (.inl rfl) e
 | met f y =>
  have e:h.get? a=some (PySem.W.methodObj (.ref f) (.ref y)):=x
  show h'.get? a=some (PySem.W.methodObj (.ref f) (.ref y))
  exact k a _ (.inl rfl) e
 | ext φ=>obtain ⟨p,⟨o,e⟩,st⟩:=x; exact ⟨st _ _ p fun o q=>k _ _ (.inl rfl) q,⟨o,k _ _ (.inl rfl) e⟩,st⟩
theorem HOk.lt (x:HOk P w H h) (e:H a=some o):a<h.objs.size:=(x a o e).lt
theorem HOk.fresh (x:HOk P w H h) (e:h.objs.size≤a):H a=none:=by
 cases q:H a with
 | none=>rfl
 | some u=>exact absurd (Nat.lt_of_lt_of_le (x.lt q) e) (Nat.lt_irrefl _)
theorem HOk.kept (x:HOk P w H h) (k:∀ b u,h.get? b=some u→h'.get? b=some u):HOk P w H h':=fun a o e =>
 (x a o e).stay (fun b u _ q=>k b u q) (fun _ q=>q) fun _ _ q=>q
theorem HOk.laid (x:HOk P w H h) (k:∀ b u,h.get? b=some u→h'.get? b=some u) (hp:h.objs.size≤a) (new:ObjOk P w (upd H a o) h' a o):HOk P w (upd H a o) h':=fun b u e=>by
 have hn:=x.fresh hp
 by_cases hb:b=a
 ·subst hb; rw [upd_same] at e; cases e; exact new
 ·rw [upd_ne hb] at e
  exact (x b u e).stay (fun c v _ q=>k c v q) (fun c q=>by rw [upd_ne (ne_of_none q hn)]; exact q) fun c xs q=>by rw [upd_ne (ne_of_none q hn)]; exact q
end
noncomputable def Rd (H:Hp) (a:Addr) (u:HO):Prop:=H a=some u∨∃ o,H a=some (.frz o u)
theorem Rd.ok {P:Program} {w:World} {H:Hp} {h:Heap} {a:Addr} {u:HO} (r:Rd H a u) (x:HOk P w H h):ObjOk P w H h a u:=by
 rcases r with r | ⟨o,r⟩
 ·exact x a u r
 ·obtain ⟨_,q⟩:=x a _ r
  exact q
noncomputable def Mut:Option HO→Prop
 | some (.lst _)=>True
 | some (.dK _)=>True
 | some (.dT _)=>True
 | some (.set _ _)=>True
 | some (.ins _ _ _)=>True
 | some (.ext _)=>True
 | _=>False
section
variable {P:Program} {w:World} {H:Hp} {h h':Heap} {x e:Addr} {o':HO}
theorem HOk.write (ok:HOk P w H h) (mu:Mut (H x)) (he:e=x∨H e=some (.own x)) (k:∀ b u,b≠e→h.get? b=some u→h'.get? b=some u) (heo:∃ u,h'.get? e=some u)
  (new:ObjOk P w (upd H x o') h' x o'):HOk P w (upd H x o') h':=fun b u q=>by
 have nown:∀ c y,H c=some (.own y)→c≠x:=fun c y r z=>by subst z; rw [r] at mu; exact mu
 have ntup:∀ c xs,H c=some (.tup xs)→c≠x:=fun c xs r z=>by subst z; rw [r] at mu; exact mu
 by_cases hb:b=x
 ·subst hb; rw [upd_same] at q; cases q; exact new
 ·rw [upd_ne hb] at q
  by_cases hbe:b=e
  ·have q':H b=some (.own x):=by
    rcases he with z | z
    ·exact absurd (hbe.trans z) hb
    ·rw [hbe]; exact z
   rw [q] at q'; cases q'
   obtain ⟨v,hv⟩:=heo
   exact ⟨v,by rw [hbe]; exact hv⟩
  ·refine (ok b u q).stay (fun c v hc r=>k c v ?_ r) (fun c r=>by rw [upd_ne (nown c b r)]; exact r) fun c xs r=>by rw [upd_ne (ntup c xs r)]; exact r
   rcases hc with rfl | hc
   ·exact hbe
   ·rintro rfl
    rcases he with z | z
    ·exact nown c b hc z
    ·rw [hc] at z; cases z; exact hb rfl
end
structure Un (fs ex:List Addr) (H H':Hp) (h h':Heap):Prop where
 keep:∀ b o,h.get? b=some o→H b=none→b ∉ fs→b ∉ ex→h'.get? b=some o
 slot:∀ b o,h.get? b=some o→H b=none→b∈fs→b ∉ ex→∃ sl,h'.get? b=some { o with slots:=sl }
 free:∀ b o,h.get? b=some o→H b=none→b ∉ ex→H' b=none
 there:∀ b o,h.get? b=some o→b ∉ ex→∃ o',h'.get? b=some o'
 tups:∀ b xs,H b=some (.tup xs)→H' b=some (.tup xs)
 frzs:∀ b o u,H b=some (.frz o u)→H' b=some (.frz o u)
 tbls:∀ b ps,H b=some (.tbl ps)→∃ more,H' b=some (.tbl (ps++more))
section
variable {fs fs' ex ex':List Addr} {H H1 H2:Hp} {h h1 h2 h':Heap} {a x e:Addr} {o:HO}
theorem Un.any (u:Un fs ex H H1 h h1) {b:Addr} {ob:Obj} (q:h.get? b=some ob) (n:H b=none) (hx:b ∉ ex):∃ sl,h1.get? b=some { ob with slots:=sl }:=by
 by_cases hb:b∈fs
 ·exact u.slot b ob q n hb hx
 ·exact ⟨ob.slots,u.keep b ob q n hb hx⟩
theorem Un.kept (k:∀ b u,h.get? b=some u→h'.get? b=some u):Un fs ex H H h h' :=
 ⟨fun b ob q _ _ _=>k b ob q,fun b ob q _ _ _=>⟨ob.slots,k b ob q⟩,fun _ _ _ n _=>n,fun b ob q _=>⟨ob,k b ob q⟩,fun _ _ q=>q,fun _ _ _ q=>q,fun _ ps q=>⟨#[],by rw [q]; simp⟩⟩
theorem Un.refl:Un fs ex H H h h:=Un.kept fun _ _ q=>q
theorem Un.laid (k:∀ b u,h.get? b=some u→h'.get? b=some u) (hp:h.objs.size≤a) (hn:H a=none):Un fs ex H (upd H a o) h h' where
 keep:=fun b u q _ _ _=>k b u q
 slot:=fun b u q _ _ _=>⟨u.slots,k b u q⟩
 free:=fun b u q n _=>by rw [upd_ne (Nat.ne_of_lt (Nat.lt_of_lt_of_le (Heap.lt_size q) hp))]; exact n
 there:=fun b u q _=>⟨u,k b u q⟩
 tups:=fun b xs q=>by rw [upd_ne (ne_of_none q hn)]; exact q
 frzs:=fun b u xs q=>by rw [upd_ne (ne_of_none q hn)]; exact q
 tbls:=fun b ps q=>⟨#[],by rw [upd_ne (ne_of_none q hn),q]; simp⟩
theorem Un.write (mu:Mut (H x)) (he:e=x∨H e=some (.own x)) (k:∀ b u,b≠e→h.get? b=some u→h'.get? b=some u) (heo:∃ u,h'.get? e=some u):Un fs ex H (upd H x o) h h':=by
 have hx:∀ b,H b=none→b≠x:=fun b n z=>by subst z; rw [n] at mu; exact mu
 have hb:∀ b,H b=none→b≠e:=fun b n z=>by
  subst z
  rcases he with r | r
  ·exact hx b n r
  ·rw [n] at r; cases r
 have hm:∀ b u,H b=some u→¬ Mut (some u)→b≠x:=fun b u q nm z=>by subst z; rw [q] at mu; exact nm mu
 refine ⟨fun b u q n _ _=>k b u (hb b n) q,fun b u q n _ _=>⟨u.slots,k b u (hb b n) q⟩,fun b u q n _=>by rw [upd_ne (hx b n)]; exact n,fun b u q _ => ?_,
  fun b xs q=>by rw [upd_ne (hm b _ q fun z=>z)]; exact q,fun b u xs q=>by rw [upd_ne (hm b _ q fun z=>z)]; exact q,fun b ps q=>⟨#[],by rw [upd_ne (hm b _ q fun z=>z),q]; simp⟩⟩
 by_cases hbe:b=e
 ·subst hbe; exact heo
 ·exact ⟨u,k b u hbe q⟩
end
noncomputable def trk (h:Heap) (H:Hp):List Addr:=(List.range h.objs.size).filter fun a=>(H a).isSome
noncomputable def hidT (h:Heap) (H:Hp):Heap:=PySem.W.hideAll h (trk h H)
theorem hidT_size (h:Heap) (H:Hp):(hidT h H).objs.size=h.objs.size:=PySem.W.hideAll_size _ _
theorem hidT_get {h:Heap} {H:Hp} {b:Addr} {o:Obj} (e:h.get? b=some o) (n:H b=none):(hidT h H).get? b=some o :=
 PySem.W.hideAll_get _ e fun hm=>by
  have q:(H b).isSome=true:=(List.mem_filter.mp hm).2
  rw [n] at q; simp at q
theorem of_hidT {h:Heap} {H:Hp} {b:Addr} {o:Obj} (e:(hidT h H).get? b=some o):h.get? b=some o∧H b=none:=by
 have e':h.get? b=some o:=PySem.W.of_hideAll (trk h H) e
 refine ⟨e',?_⟩
 cases q:H b with
 | none=>rfl
 | some x =>
  have hm:b∈trk h H:=List.mem_filter.mpr ⟨List.mem_range.mpr (Heap.lt_size e'),by simp [q]⟩
  have z:(hidT h H).get? b=none:=PySem.W.hideAll_none (trk h H) hm
  rw [z] at e; cases e
end L2
namespace L2
open PySem PySem.Spec PyProof.Rows
structure Mod (K:PySem.W.Frag) (mg:Str→Option Value) (base:Heap):Prop where
 kin:K.In base
 glob:base.Ns mainGlobals mg
 blt:∃ mb,base.Ns builtinsNs mb∧∀ x:Str,x ≠ "__name__"→mb x=bootBuiltins x
 nolimit:base.NoLimit
structure Cx where
 prog:Program
 w:World
 K:PySem.W.Frag
 mg:Str→Option Value
 base:Heap
 A:Around
 N:List Str
 s₀:Shared
 H₀:Hp
 env:Env
 outer:List Env
 stack:List Env
 ex:List Addr
 fn:Str→Bool
 calm:Bool
 pn:List (Addr × Obj)
 xe:Value→Shared→Prop
noncomputable def frs (l:List Env):List Addr:=l.filterMap (·.frame)
noncomputable abbrev Cx.fs (X:Cx):List Addr:=frs X.outer
noncomputable def Vis (sc:Scope) (x:Str):Prop:=sc.names.lookup x=some .local∨sc.names.lookup x=some .cell∨sc.names.lookup x=some .free
noncomputable def Loc (sc:Scope) (x:Str):Prop:=sc.names.lookup x=some .local∨sc.names.lookup x=some .cell
noncomputable def Look (env:Env) (h:Heap) (m:Str→Option Value) (x:Str) (u:Value):Prop :=
 (env.kindOf x=some .local∧m x=some u)∨((env.kindOf x=some .cell∨env.kindOf x=some .free)∧∃ c,env.cells.lookup x=some c∧h.IsCell c (some u))
structure Cx.Ok (X:Cx):Prop where
 mod:Mod X.K X.mg X.base
 kind:X.env.scope.kind=.function
 glob:X.env.globals=mainGlobals
 blt:X.env.builtins=builtinsNs
 above:X.s₀.heap.objs.size≤X.env.locals
 inj:∀ x y c,X.env.cells.lookup x=some c→X.env.cells.lookup y=some c→x=y
 has:∀ x,(X.env.kindOf x=some .cell∨X.env.kindOf x=some .free)→∃ c,X.env.cells.lookup x=some c
 cab:∀ x c,X.fn x=true→X.env.cells.lookup x=some c→X.s₀.heap.objs.size≤c
 hd:X.calm=true→X.A.handled=none
 frames:X.A.frames=some X.stack
 stk:X.stack=X.outer∨(X.stack=X.env::X.outer∧X.env.frame=some X.env.locals)
 exf:∀ b∈X.ex,b≠X.env.locals∧∀ x c,X.env.cells.lookup x=some c→c≠b
 bs:∀ b o,X.base.get? b=some o→X.s₀.heap.get? b=some o∧X.H₀ b=none
 bsz:X.base.objs.size≤X.s₀.heap.objs.size
 noex:∀ b o,X.base.get? b=some o→b ∉ X.ex
 exfs:∀ b∈X.ex,b ∉ X.fs
 funs:X.s₀.heap.FunFrames X.base X.outer
 frf:∀ b∈X.fs,X.H₀ b=none
structure Inv (X:Cx) (pins:List (Addr × Obj)) (σ:List (Option V)) (H:Hp) (s:Shared):Prop where
 ok:X.Ok
 os:s.os=X.s₀.os
 bare:AllBare s.gens
 base:Un X.fs X.ex X.H₀ H X.s₀.heap s.heap
 loc:∃ m,s.heap.Ns X.env.locals m∧∀ (i:Nat) (x:Str) (v:V),X.N[i]?=some x→σ[i]?=some (some v)→Vis X.env.scope x→∃ u,RelV v u∧Look X.env s.heap m x u
 cell:∀ x c,X.env.cells.lookup x=some c→∃ v,s.heap.IsCell c v
 free:H X.env.locals=none
 freeC:∀ x c,X.env.cells.lookup x=some c→H c=none
 pin:∀ p∈X.pn++pins,s.heap.get? p.1=some p.2∧H p.1=none∧p.1≠X.env.locals∧p.1 ∉ X.fs∧∀ v,p.2.data≠.cell v
 hok:HOk X.prog X.w H s.heap
 len:σ.length=X.N.length
section
variable {X:Cx} {pins:List (Addr × Obj)} {σ:List (Option V)} {H H':Hp} {s:Shared} {h':Heap}
theorem Cx.Ok.nofr (ok:X.Ok) {b:Addr} {o:Obj} (e:X.base.get? b=some o):b ∉ X.fs:=fun hb=>by
 have:=(ok.funs.mem hb).1
 rw [e] at this; cases this
theorem Inv.bs (I:Inv X pins σ H s):∀ b o,X.base.get? b=some o→s.heap.get? b=some o∧H b=none:=fun b o e =>
 ⟨I.base.keep b o (I.ok.bs b o e).1 (I.ok.bs b o e).2 (I.ok.nofr e) (I.ok.noex b o e),I.base.free b o (I.ok.bs b o e).1 (I.ok.bs b o e).2 (I.ok.noex b o e)⟩
theorem Inv.bk (I:Inv X pins σ H s):∀ b o,X.base.get? b=some o→s.heap.get? b=some o:=fun b o e=>(I.bs b o e).1
theorem Inv.mod (I:Inv X pins σ H s):Mod X.K X.mg X.base:=I.ok.mod
theorem Inv.kIn (I:Inv X pins σ H s):X.K.In s.heap:=I.ok.mod.kin.keeps I.bk
theorem Inv.lt (I:Inv X pins σ H s):X.env.locals<s.heap.objs.size:=let ⟨_,hn,_⟩:=I.loc; hn.lt
theorem Inv.sz (I:Inv X pins σ H s):X.s₀.heap.objs.size≤s.heap.objs.size:=Nat.le_trans I.ok.above (Nat.le_of_lt I.lt)
theorem Inv.nofs (I:Inv X pins σ H s) {a:Addr} (h:s.heap.objs.size≤a):a ∉ X.fs:=fun hb=>by
 obtain ⟨_,o,ho,_⟩:=I.ok.funs.mem hb
 exact absurd (Nat.lt_of_lt_of_le (Heap.lt_size ho) (Nat.le_trans I.sz h)) (Nat.lt_irrefl _)
theorem Inv.cne (I:Inv X pins σ H s):∀ x c,X.env.cells.lookup x=some c→c≠X.env.locals:=fun x c e z=>by
 obtain ⟨v,o,ho,hd⟩:=I.cell x c e
 obtain ⟨m,⟨o',es,ep,ho',hd',_⟩,_⟩:=I.loc
 rw [z,ho'] at ho; cases ho; rw [hd'] at hd; cases hd
theorem Inv.funs (I:Inv X pins σ H s):s.heap.FunFrames X.base X.outer:=by
 have all:∀ (l:List Env),(∀ b∈frs l,b∈X.fs)→X.s₀.heap.FunFrames X.base l→s.heap.FunFrames X.base l:=by
  intro l
  induction l with
  | nil=>intro _ _; trivial
  | cons env r ih =>
   intro hs hl
   obtain ⟨hk,⟨L,o,hf,hn,ho,hd⟩,hr⟩:=hl
   have hL:L∈X.fs:=hs L (by unfold frs; rw [List.filterMap_cons,hf]; exact List.mem_cons_self)
   obtain ⟨sl,e⟩:=I.base.slot L o ho (I.ok.frf L hL) hL fun z=>I.ok.exfs L z hL
   exact ⟨hk,⟨L,_,hf,hn,e,hd⟩,ih (fun b hb=>hs b (by unfold frs; rw [List.filterMap_cons,hf]; exact List.mem_cons_of_mem _ hb)) hr⟩
 exact all X.outer (fun _ hb=>hb) I.ok.funs
theorem Inv.stack (I:Inv X pins σ H s):s.heap.FunFrames X.base X.stack:=by
 rcases I.ok.stk with e | ⟨e,hf⟩
 ·rw [e]; exact I.funs
 ·rw [e]
  obtain ⟨m,hn,_⟩:=I.loc
  refine .cons (by rw [I.ok.kind]; decide) hf hn ?_ I.funs
  exact Heap.get?_none_of_le (Nat.le_trans I.ok.bsz I.ok.above)
theorem Inv.stkSub (I:Inv X pins σ H s):∀ b∈frs X.stack,b∈X.env.locals::X.fs:=fun b hb=>by
 rcases I.ok.stk with e | ⟨e,hf⟩
 ·rw [e] at hb; exact List.mem_cons_of_mem _ hb
 ·rw [e] at hb
  unfold frs at hb
  rw [List.filterMap_cons,hf] at hb
  exact hb
theorem Inv.stkFree (I:Inv X pins σ H s):∀ b∈frs X.stack,H b=none:=fun b hb=>by
 rcases List.mem_cons.mp (I.stkSub b hb) with e | hb
 ·rw [e]; exact I.free
 ·obtain ⟨_,o,ho,_⟩:=I.ok.funs.mem hb
  exact I.base.free b o ho (I.ok.frf b hb) fun z=>I.ok.exfs b z hb
theorem Inv.step {g':Array GenState} {t':Nat} {d':Drawn} {ch:List Addr} (I:Inv X pins σ H s)
  (hch:∀ b∈ch,(b∈X.ex∨X.s₀.heap.objs.size≤b)∧b≠X.env.locals∧(∀ x c,X.env.cells.lookup x=some c→c≠b)∧∀ p∈X.pn++pins,p.1≠b)
  (keep:∀ b o,b≠X.env.locals→b ∉ X.fs→b ∉ ch→s.heap.get? b=some o→H b=none→h'.get? b=some o)
  (slot:∀ b o,b≠X.env.locals→b∈X.fs→b ∉ ch→s.heap.get? b=some o→H b=none→∃ sl,h'.get? b=some { o with slots:=sl }) (free:∀ b o,b ∉ ch→s.heap.get? b=some o→H b=none→H' b=none)
  (there:∀ b o,b ∉ ch→s.heap.get? b=some o→∃ o',h'.get? b=some o')
  (tups:∀ b xs,H b=some (.tup xs)→H' b=some (.tup xs)) (frzs:∀ b o u,H b=some (.frz o u)→H' b=some (.frz o u)) (tbls:∀ b ps,H b=some (.tbl ps)→∃ more,H' b=some (.tbl (ps++more)))
  (ns:∀ m,s.heap.Ns X.env.locals m→h'.Ns X.env.locals m) (hok:HOk X.prog X.w H' h') (hg:AllBare g') :
  Inv X pins σ H' { s with heap:=h',gens:=g',drawn:=d',toks:=t' }:=by
 have neL:∀ b o,X.s₀.heap.get? b=some o→b≠X.env.locals:=fun b o e=>Nat.ne_of_lt (Nat.lt_of_lt_of_le (Heap.lt_size e) I.ok.above)
 have neC:∀ b o,X.s₀.heap.get? b=some o→b ∉ X.ex→b ∉ ch:=fun b o e hx hb=>by
  rcases (hch b hb).1 with z | z
  ·exact hx z
  ·exact absurd (Nat.lt_of_lt_of_le (Heap.lt_size e) z) (Nat.lt_irrefl _)
 have cellK:∀ x c,X.env.cells.lookup x=some c→∀ v,s.heap.IsCell c v→h'.IsCell c v:=fun x c e v ⟨o,ho,hd⟩=>by
  have nch:c ∉ ch:=fun z=>(hch c z).2.2.1 x c e rfl
  by_cases hc:c∈X.fs
  ·obtain ⟨sl,q⟩:=slot c o (I.cne x c e) hc nch ho (I.freeC x c e)
   exact ⟨_,q,hd⟩
  ·exact ⟨o,keep c o (I.cne x c e) hc nch ho (I.freeC x c e),hd⟩
 refine ⟨I.ok,I.os,hg,⟨fun b o e n hb hx => ?_,fun b o e n hb hx => ?_,fun b o e n hx => ?_,fun b o e hx => ?_,fun b xs e=>tups b xs (I.base.tups b xs e),fun b o xs e=>frzs b o xs (I.base.frzs b o xs e),fun b ps e => ?_⟩,?_,fun x c e => ?_,?_,fun x c e => ?_,fun p hp => ?_,hok,I.len⟩
 ·exact keep b o (neL b o e) hb (neC b o e hx) (I.base.keep b o e n hb hx) (I.base.free b o e n hx)
 ·obtain ⟨sl,e1⟩:=I.base.slot b o e n hb hx
  obtain ⟨sl',e2⟩:=slot b _ (neL b o e) hb (neC b o e hx) e1 (I.base.free b o e n hx)
  exact ⟨sl',e2⟩
 ·obtain ⟨o',e1⟩:=I.base.there b o e hx
  exact free b o' (neC b o e hx) e1 (I.base.free b o e n hx)
 ·obtain ⟨o',e1⟩:=I.base.there b o e hx
  exact there b o' (neC b o e hx) e1
 ·obtain ⟨m1,e1⟩:=I.base.tbls b ps e
  obtain ⟨m2,e2⟩:=tbls b _ e1
  exact ⟨m1++m2,by rw [e2,Array.append_assoc]⟩
 ·obtain ⟨m,hn,hl⟩:=I.loc
  refine ⟨m,ns m hn,fun i x v e1 e2 e3 => ?_⟩
  obtain ⟨u,r,l⟩:=hl i x v e1 e2 e3
  refine ⟨u,r,?_⟩
  rcases l with l | ⟨k,c,e,z⟩
  ·exact .inl l
  ·exact .inr ⟨k,c,e,cellK x c e _ z⟩
 ·obtain ⟨v,z⟩:=I.cell x c e
  exact ⟨v,cellK x c e v z⟩
 ·obtain ⟨m,⟨o,_,_,ho,_⟩,_⟩:=I.loc
  exact free _ o (fun z=>(hch _ z).2.1 rfl) ho I.free
 ·obtain ⟨v,o,ho,hd⟩:=I.cell x c e
  exact free c o (fun z=>(hch c z).2.2.1 x c e rfl) ho (I.freeC x c e)
 ·obtain ⟨e,n,ne,nf,d⟩:=I.pin p hp
  have nch:p.1 ∉ ch:=fun z=>(hch p.1 z).2.2.2 p hp rfl
  exact ⟨keep p.1 p.2 ne nf nch e n,free p.1 p.2 nch e n,ne,nf,d⟩
theorem Inv.un {t':Nat} (I:Inv X pins σ H s) (u:Un X.fs [] H H' s.heap h') (hok:HOk X.prog X.w H' h'):Inv X pins σ H' { s with heap:=h',toks:=t' }:=by
 obtain ⟨m,⟨o,es,ep,ho,r⟩,_⟩:=id I.loc
 obtain ⟨sl,hL⟩:=u.any ho I.free (by simp)
 exact I.step (g':=s.gens) (d':=s.drawn) (ch:=[]) (fun _ z=>nomatch z) (fun b o _ hb _ e n=>u.keep b o e n hb (by simp)) (fun b o _ hb _ e n=>u.slot b o e n hb (by simp)) (fun b o _ e n=>u.free b o e n (by simp)) (fun b o _ e=>u.there b o e (by simp)) u.tups u.frzs u.tbls (fun m' hm=>by
  obtain ⟨o',es',ep',ho',r'⟩:=hm
  rw [ho] at ho'; cases ho'
  exact ⟨_,es',ep',hL,r'⟩) hok I.bare
theorem Inv.call {g':Array GenState} {t':Nat} {d':Drawn} {ch:List Addr} (I:Inv X pins σ H s) (u:Un (frs X.stack) ch H H' s.heap h') (hok:HOk X.prog X.w H' h') (hg:AllBare g')
  (hch:∀ b∈ch,(b∈X.ex∨X.s₀.heap.objs.size≤b)∧b≠X.env.locals∧(∀ x c,X.env.cells.lookup x=some c→c≠b)∧∀ p∈X.pn++pins,p.1≠b) :
  Inv X pins σ H' { s with heap:=h',gens:=g',drawn:=d',toks:=t' }:=by
 obtain ⟨m,⟨o,es,ep,ho,r⟩,_⟩:=id I.loc
 obtain ⟨sl,hL⟩:=u.any ho I.free fun z=>(hch _ z).2.1 rfl
 exact I.step (ch:=ch) hch (fun b o hL hb hc e n=>u.keep b o e n (fun z=>(List.mem_cons.mp (I.stkSub b z)).elim hL hb) hc) (fun b o _ _ hc e n=>u.any e n hc) (fun b o hc e n=>u.free b o e n hc) (fun b o hc e=>u.there b o e hc) u.tups u.frzs u.tbls (fun m' hm=>by
  obtain ⟨o',es',ep',ho',r'⟩:=hm
  rw [ho] at ho'; cases ho'
  exact ⟨_,es',ep',hL,r'⟩) hok hg
theorem Inv.turned {t':Nat} {it:Addr} (I:Inv X pins σ H s) (k:∀ b o,b≠it→s.heap.get? b=some o→h'.get? b=some o) (hn:H it=none) (hL:it≠X.env.locals)
  (h1:it∈X.ex∨X.s₀.heap.objs.size≤it) (h2:∀ x c,X.env.cells.lookup x=some c→c≠it) (h3:∀ p∈X.pn++pins,p.1≠it):Inv X pins σ H { s with heap:=h',toks:=t' }:=by
 have nit:∀ b u,H b=some u→b≠it:=fun b u e z=>by rw [z,hn] at e; cases e
 refine I.step (g':=s.gens) (d':=s.drawn) (ch:=[it]) (fun b hb => ?_) (fun b o _ _ hc e _=>k b o (fun z=>hc (by simp [z])) e) (fun b o _ _ hc e _=>⟨o.slots,k b o (fun z=>hc (by simp [z])) e⟩) (fun _ _ _ _ n=>n)
  (fun b o hc e=>⟨o,k b o (fun z=>hc (by simp [z])) e⟩) (fun _ _ e=>e) (fun _ _ _ e=>e) (fun b ps e=>⟨#[],by rw [e]; simp⟩) (fun m hm => ?_) (fun b u e => ?_) I.bare
 ·have e:b=it:=by simpa using hb
  subst e
  exact ⟨h1,hL,h2,h3⟩
 ·obtain ⟨o,es,ep,ho,r⟩:=hm
  exact ⟨o,es,ep,k _ o (Ne.symm hL) ho,r⟩
 ·refine (I.hok b u e).stay (fun c v hc q=>k c v ?_ q) (fun _ q=>q) fun _ _ q=>q
  rcases hc with z | z
  ·rw [z]; exact nit b u e
  ·exact nit c _ z
theorem Inv.tok (I:Inv X pins σ H s) (t:Nat):Inv X pins σ H { s with toks:=t }:=I.un (h':=s.heap) (t':=t) Un.refl I.hok
theorem Inv.kept {t':Nat} (I:Inv X pins σ H s) (k:∀ b u,s.heap.get? b=some u→h'.get? b=some u):Inv X pins σ H { s with heap:=h',toks:=t' }:=I.un (Un.kept k) (I.hok.kept k)
theorem Inv.laid {a:Addr} {o:HO} {t':Nat} (I:Inv X pins σ H s) (k:∀ b u,s.heap.get? b=some u→h'.get? b=some u) (hp:s.heap.objs.size≤a) (new:ObjOk X.prog X.w (upd H a o) h' a o) :
  Inv X pins σ (upd H a o) { s with heap:=h',toks:=t' }:=I.un (Un.laid k hp (I.hok.fresh hp)) (I.hok.laid k hp new)
theorem Inv.write {x e:Addr} {o:HO} {t':Nat} (I:Inv X pins σ H s) (mu:Mut (H x)) (he:e=x∨H e=some (.own x)) (k:∀ b u,b≠e→s.heap.get? b=some u→h'.get? b=some u) (heo:∃ u,h'.get? e=some u)
  (new:ObjOk X.prog X.w (upd H x o) h' x o):Inv X pins σ (upd H x o) { s with heap:=h',toks:=t' }:=I.un (Un.write mu he k heo) (I.hok.write mu he k heo new)
theorem Inv.pins_of {pins':List (Addr × Obj)} (I:Inv X pins σ H s) (h:∀ p∈pins',s.heap.get? p.1=some p.2∧H p.1=none∧p.1≠X.env.locals∧p.1 ∉ X.fs∧∀ v,p.2.data≠.cell v):Inv X pins' σ H s :=
 ⟨I.ok,I.os,I.bare,I.base,I.loc,I.cell,I.free,I.freeC,fun p hp=>(List.mem_append.mp hp).elim (fun z=>I.pin p (List.mem_append_left _ z)) (h p),I.hok,I.len⟩
theorem nodup_ix {N:List Str} (hN:N.Nodup) {i j:Nat} {x:Str} (a:N[i]?=some x) (b:N[j]?=some x):i=j:=by
 obtain ⟨h1,e1⟩:=List.getElem?_eq_some_iff.mp a
 obtain ⟨h2,e2⟩:=List.getElem?_eq_some_iff.mp b
 exact (List.getElem_inj hN).mp (e1.trans e2.symm)
theorem store_ok2 {M:Model} {A:Around} {E:Value→Shared→Prop} {i:Nat} {x:Str} {v:V} {u:Value} {Q:Unit→Shared→Prop} (I:Inv X pins σ H s) (hN:X.N.Nodup) (hi:X.N[i]?=some x) (hx:Loc X.env.scope x) (r:RelV v u)
  (h:∀ s',Inv X pins (σ.set i (some v)) H s'→(∃ a,Heap.SameBut a s.heap s'.heap∧(a=X.env.locals∨X.env.cells.lookup x=some a))→Q () s') (hf:X.fn x=true∨X.env.scope.names.lookup x=some .local:=by first | exact .inl rfl | exact .inr rfl | assumption):wpAny M A (storeName X.env x u) Q E s:=by
 obtain ⟨m,hn,hl⟩:=id I.loc
 have hcls:(X.env.scope.kind == .class||(X.env.scope.kind == .module&&X.env.locals != X.env.globals))=false:=by rw [I.ok.kind]; rfl
 have hiσ:i<σ.length:=by rw [I.len]; exact (List.getElem?_eq_some_iff.mp hi).1
 have cne:=I.cne
 have tracked:∀ {a:Addr} {h':Heap},(∃ o,s.heap.get? a=some o∧H a=none)→Heap.SameBut a s.heap h'→HOk X.prog X.w H h':=fun {a h'} ha hs b ob e=>by
  obtain ⟨_,_,hfree⟩:=ha
  refine (I.hok b ob e).stay (fun c w' hc q=>(hs.2 c ?_).trans q) (fun _ q=>q) fun _ _ q=>q
  rintro rfl
  rcases hc with rfl | hc
  ·rw [hfree] at e; cases e
  ·rw [hfree] at hc; cases hc
 rcases hx with hk | hk
 ·refine wpAny_storeName_local hk hn (fun h' hn' hs => ?_) hcls
  obtain ⟨oL,_,_,hoL,_⟩:=id hn
  refine h _ ⟨I.ok,I.os,I.bare,⟨fun b o e n hb hx => ?_,fun b o e n hb hx => ?_,I.base.free,fun b o e hx => ?_,I.base.tups,I.base.frzs,I.base.tbls⟩,⟨_,hn',fun j y v' e1 e2 e3 => ?_⟩,fun y c e => ?_,I.free,I.freeC,fun p hp => ?_,tracked ⟨oL,hoL,I.free⟩ hs,by simpa using I.len⟩ ⟨_,hs,.inl rfl⟩
  ·exact (hs.2 b (Nat.ne_of_lt (Nat.lt_of_lt_of_le (Heap.lt_size e) I.ok.above))).trans (I.base.keep b o e n hb hx)
  ·obtain ⟨sl,e1⟩:=I.base.slot b o e n hb hx
   exact ⟨sl,(hs.2 b (Nat.ne_of_lt (Nat.lt_of_lt_of_le (Heap.lt_size e) I.ok.above))).trans e1⟩
  ·obtain ⟨o',e1⟩:=I.base.there b o e hx
   exact ⟨o',(hs.2 b (Nat.ne_of_lt (Nat.lt_of_lt_of_le (Heap.lt_size e) I.ok.above))).trans e1⟩
  ·by_cases hj:j=i
   ·subst hj
    rw [hi] at e1; cases e1
    rw [List.getElem?_set_self hiσ] at e2
    cases e2
    exact ⟨u,r,.inl ⟨hk,by simp⟩⟩
   ·rw [List.getElem?_set_ne (Ne.symm hj)] at e2
    obtain ⟨u',r',q⟩:=hl j y v' e1 e2 e3
    refine ⟨u',r',?_⟩
    rcases q with ⟨k,e⟩ | ⟨k,c,e,z⟩
    ·refine .inl ⟨k,?_⟩
     have:y≠x:=fun e=>hj (nodup_ix hN e1 (e ▸ hi))
     simp [this,e]
    ·exact .inr ⟨k,c,e,z.sameBut hs (cne y c e)⟩
  ·obtain ⟨w',z⟩:=I.cell y c e
   exact ⟨w',z.sameBut hs (cne y c e)⟩
  ·obtain ⟨e,n,ne,nf,d⟩:=I.pin p hp
   exact ⟨(hs.2 p.1 ne).trans e,n,ne,nf,d⟩
 ·have hfn:X.fn x=true:=by
   rcases hf with z | z
   ·exact z
   ·rw [z] at hk; cases hk
  obtain ⟨c,hc⟩:=I.ok.has x (.inl hk)
  obtain ⟨w',z⟩:=I.cell x c hc
  refine wpAny_storeName_cell I.ok.kind hk hc z (fun h' hc' hs => ?_)
  obtain ⟨oc,hoc,hocd⟩:=id z
  refine h { s with heap:=h' } ⟨I.ok,I.os,I.bare,⟨fun b o e n hb hx => ?_,fun b o e n hb hx => ?_,I.base.free,fun b o e hx => ?_,I.base.tups,I.base.frzs,I.base.tbls⟩,⟨m,hn.sameBut hs (Ne.symm (cne x c hc)),fun j y v' e1 e2 e3 => ?_⟩,fun y c' e => ?_,I.free,I.freeC,fun p hp => ?_,tracked ⟨oc,hoc,I.freeC x c hc⟩ hs,by simpa using I.len⟩ ⟨c,hs,.inr hc⟩
  ·exact (hs.2 b (Nat.ne_of_lt (Nat.lt_of_lt_of_le (Heap.lt_size e) (I.ok.cab x c hfn hc)))).trans (I.base.keep b o e n hb hx)
  ·obtain ⟨sl,e1⟩:=I.base.slot b o e n hb hx
   exact ⟨sl,(hs.2 b (Nat.ne_of_lt (Nat.lt_of_lt_of_le (Heap.lt_size e) (I.ok.cab x c hfn hc)))).trans e1⟩
  ·obtain ⟨o',e1⟩:=I.base.there b o e hx
   exact ⟨o',(hs.2 b (Nat.ne_of_lt (Nat.lt_of_lt_of_le (Heap.lt_size e) (I.ok.cab x c hfn hc)))).trans e1⟩
  ·by_cases hj:j=i
   ·subst hj
    rw [hi] at e1; cases e1
    rw [List.getElem?_set_self hiσ] at e2
    cases e2
    exact ⟨u,r,.inr ⟨.inl hk,c,hc,hc'⟩⟩
   ·rw [List.getElem?_set_ne (Ne.symm hj)] at e2
    obtain ⟨u',r',q⟩:=hl j y v' e1 e2 e3
    refine ⟨u',r',?_⟩
    rcases q with q | ⟨k,c',e,z'⟩
    ·exact .inl q
    ·refine .inr ⟨k,c',e,z'.sameBut hs ?_⟩
     rintro rfl
     exact hj (nodup_ix hN e1 (I.ok.inj _ _ _ e hc ▸ hi))
  ·by_cases hcc:c'=c
   ·subst hcc; exact ⟨_,hc'⟩
   ·obtain ⟨w2,z2⟩:=I.cell y c' e
    exact ⟨w2,z2.sameBut hs hcc⟩
  ·obtain ⟨e,n,ne,nf,d⟩:=I.pin p hp
   refine ⟨(hs.2 p.1 ?_).trans e,n,ne,nf,d⟩
   intro q
   rw [q,hoc] at e
   have q':oc=p.2:=Option.some.inj e
   exact d w' (by rw [← q']; exact hocd)
theorem store_ok {M:Model} {A:Around} {E:Value→Shared→Prop} {i:Nat} {x:Str} {v:V} {u:Value} {Q:Unit→Shared→Prop} (I:Inv X pins σ H s) (hN:X.N.Nodup) (hi:X.N[i]?=some x) (hx:Loc X.env.scope x) (r:RelV v u)
  (h:∀ s',Inv X pins (σ.set i (some v)) H s'→Q () s') (hf:X.fn x=true∨X.env.scope.names.lookup x=some .local:=by first | exact .inl rfl | exact .inr rfl | assumption):wpAny M A (storeName X.env x u) Q E s :=
 store_ok2 I hN hi hx r (fun s' I' _=>h s' I') hf
theorem Inv.call' {s':Shared} {ch:List Addr} (I:Inv X pins σ H s) (ho:s'.os=s.os) (u:Un (frs X.stack) ch H H' s.heap s'.heap) (hok:HOk X.prog X.w H' s'.heap) (hg:AllBare s'.gens)
  (hch:∀ b∈ch,(b∈X.ex∨X.s₀.heap.objs.size≤b)∧b≠X.env.locals∧(∀ x c,X.env.cells.lookup x=some c→c≠b)∧∀ p∈X.pn++pins,p.1≠b):Inv X pins σ H' s':=by
 obtain ⟨h',g',d',t',o'⟩:=s'
 have e:o'=s.os:=ho
 subst e
 exact I.call (g':=g') (t':=t') (d':=d') u hok hg hch
end
noncomputable abbrev XK:=Value→Option Addr→Hp→Prop
noncomputable abbrev St:=List (Option V)
noncomputable abbrev VK:=V→Hp→Prop
noncomputable abbrev TE:=St→Hp→VK→Prop
noncomputable abbrev TT:=St→Hp→(Bool→Hp→Prop)→Prop
noncomputable abbrev TA:=St→Hp→(List V→Hp→Prop)→Prop
structure Ends where
 nx:St→Hp→Prop
 rt:VK
 bk:St→Hp→Prop:=fun _ _=>False
 ct:St→Hp→Prop:=fun _ _=>False
noncomputable abbrev TS:=Ends→St→Hp→Prop
noncomputable def EP (X:Cx) (pins:List (Addr × Obj)) (σ:St) (Q:VK) (u:Value) (s':Shared):Prop:=∃ v H',Inv X pins σ H' s'∧RelV v u∧Q v H'
noncomputable def TP (X:Cx) (pins:List (Addr × Obj)) (σ:St) (Q:Bool→Hp→Prop) (b:Bool) (s':Shared):Prop:=∃ H',Inv X pins σ H' s'∧Q b H'
noncomputable def AP (X:Cx) (pins:List (Addr × Obj)) (σ:St) (Q:List V→Hp→Prop) (us:List Value) (s':Shared):Prop:=∃ vs H',Inv X pins σ H' s'∧Vals vs us∧Q vs H'
noncomputable def SP (X:Cx) (pins:List (Addr × Obj)) (D:Ends) (f:Flow) (s':Shared):Prop :=
 match f with
 | .next=>∃ σ' H',Inv X pins σ' H' s'∧D.nx σ' H'
 | .brk=>∃ σ' H',Inv X pins σ' H' s'∧D.bk σ' H'
 | .cont=>∃ σ' H',Inv X pins σ' H' s'∧D.ct σ' H'
 | .ret u=>∃ v σ' H',Inv X pins σ' H' s'∧RelV v u∧D.rt v H'
noncomputable def PE (X:Cx) (e:Expr) (t:TE):Prop :=
 ∀ (pins:List (Addr × Obj)) (s:Shared) (σ:St) (H:Hp) (Q:VK),Inv X pins σ H s→t σ H Q→wpAny (model X.prog X.w) X.A (eval e X.env) (EP X pins σ Q) X.xe s
noncomputable def PT (X:Cx) (e:Expr) (t:TT):Prop :=
 ∀ (pins:List (Addr × Obj)) (s:Shared) (σ:St) (H:Hp) (Q:Bool→Hp→Prop),Inv X pins σ H s→t σ H Q→wpAny (model X.prog X.w) X.A (isTrue e X.env (eval e X.env)) (TP X pins σ Q) X.xe s
noncomputable def PW (X:Cx) (e:Expr) (t:TT):Prop :=
 ∀ (whole:Sem Value) (pins:List (Addr × Obj)) (s:Shared) (σ:St) (H:Hp) (Q:Bool→Hp→Prop),Inv X pins σ H s→t σ H Q→wpAny (model X.prog X.w) X.A (isTrue e X.env whole) (TP X pins σ Q) X.xe s
theorem PW.pt {X:Cx} {e:Expr} {t:TT} (h:PW X e t):PT X e t:=h _
noncomputable def PA (X:Cx) (es:List Expr) (t:TA):Prop :=
 ∀ (pos:Pos) (pins:List (Addr × Obj)) (s:Shared) (σ:St) (H:Hp) (Q:List V→Hp→Prop),Inv X pins σ H s→t σ H Q→wpAny (model X.prog X.w) X.A (spliced (backTo pos (starEach es X.env))) (AP X pins σ Q) X.xe s
noncomputable def PS (X:Cx) (st:Stmt) (t:TS):Prop :=
 ∀ (pins:List (Addr × Obj)) (s:Shared) (σ:St) (H:Hp) (D:Ends),Inv X pins σ H s→t D σ H→wpAny (model X.prog X.w) X.A (exec st X.env) (SP X pins D) X.xe s
noncomputable def PSs (X:Cx) (st:List Stmt) (t:TS):Prop :=
 ∀ (pins:List (Addr × Obj)) (s:Shared) (σ:St) (H:Hp) (D:Ends),Inv X pins σ H s→t D σ H→wpAny (model X.prog X.w) X.A (execs st X.env) (SP X pins D) X.xe s
theorem thn {α:Type} {t:Sem α} {Q Q':α→Shared→Prop} {M:Model} {A:Around} {E:Value→Shared→Prop} {s:Shared} (h:wpAny M A t Q E s) (hQ:∀ a s,Q a s→Q' a s):wpAny M A t Q' E s:=wpAny_mono h hQ fun _ _ x=>x
end L2
namespace L2
open PySem PySem.Spec PyProof.Rows
section
variable {X:Cx}
noncomputable def tVar (i:Nat):TE:=fun σ H Q=>∃ v,σ[i]?=some (some v)∧Q v H
noncomputable def tC (v:V):TE:=fun _ H Q=>Q v H
theorem pe_var {i:Nat} {x:Str} {pos:Pos} (hN:X.N[i]?=some x) (hv:Vis X.env.scope x) (hd:(x == ("__debug__" : Str))=false:=by decide) (hcd:(x == ("__classdict__" : Str))=false:=by decide):PE X (.Name x pos) (tVar i):=by
 intro pins s σ H Q I h
 obtain ⟨v,e,h⟩:=h
 obtain ⟨m,hn,hl⟩:=I.loc
 obtain ⟨u,r,l⟩:=hl i x v hN e hv
 have fin:EP X pins σ Q u s:=⟨v,H,I,r,h⟩
 rcases l with ⟨hk,hm⟩ | ⟨hk,c,hc,hcell⟩
 ·exact wpAny_Name (wpAny_loadName_local I.ok.kind hk hn hm fin) hd
 ·rcases hk with hk | hk
  ·exact wpAny_Name (wpAny_loadName_cell I.ok.kind hk hc hcell fin) hd
  ·exact wpAny_Name (wpAny_loadName_free I.ok.kind hk hc hcell fin hcd) hd
theorem pe_int {i j pos}:PE X (.Constant (.int i) j pos) (tC (.int i)):=fun _ _ _ H _ I h=>wpAny_Constant_int ⟨.int i,H,I.tok _,⟨_,rfl⟩,h⟩
theorem pe_bl {b j pos}:PE X (.Constant (.bool b) j pos) (tC (.bl b)):=fun _ _ _ H _ I h=>Constant_bool ⟨.bl b,H,I,rfl,h⟩
theorem pe_non {j pos}:PE X (.Constant .none j pos) (tC .non):=fun _ _ _ H _ I h=>Constant_none ⟨.non,H,I,rfl,h⟩
theorem pe_str {x j pos}:PE X (.Constant (.str x) j pos) (tC (.str x)):=fun _ _ _ H _ I h=>Calls.Constant_str ⟨.str x,H,I.tok _,⟨_,rfl⟩,h⟩
noncomputable def Gl (X:Cx) (x:Str):Prop:=X.env.kindOf x=some .globalImplicit
theorem ld_glob {E:Value→Shared→Prop} {pins:List (Addr × Obj)} {s:Shared} {σ:St} {H:Hp} {x:Str} {u:Value} {pos:Pos} {Q:Value→Shared→Prop} (I:Inv X pins σ H s) (hg:Gl X x) (hm:X.mg x=some u) (h:Q u s)
  (hd:(x == ("__debug__" : Str))=false:=by decide):wpAny (model X.prog X.w) X.A (eval (.Name x pos) X.env) Q E s :=
 Calls.Name_function_global I.ok.kind hg (Calls.loadGlobal_global (by rw [I.ok.glob]; exact I.mod.glob.keeps I.bk) hm h) hd
theorem ld_blt {E:Value→Shared→Prop} {pins:List (Addr × Obj)} {s:Shared} {σ:St} {H:Hp} {x:Str} {u:Value} {pos:Pos} {Q:Value→Shared→Prop} (I:Inv X pins σ H s) (hg:Gl X x) (hm:X.mg x=none) (hv:bootBuiltins x=some u) (h:Q u s)
  (hn:x ≠ "__name__" := by decide) (hd:(x == ("__debug__" : Str))=false:=by decide):wpAny (model X.prog X.w) X.A (eval (.Name x pos) X.env) Q E s:=by
 obtain ⟨mb,h1,h2⟩:=I.mod.blt
 exact Calls.Name_function_global I.ok.kind hg (Calls.loadGlobal_builtin (by rw [I.ok.glob]; exact I.mod.glob.keeps I.bk) hm (by rw [I.ok.blt]; exact h1.keeps I.bk) ((h2 x hn).trans hv) h) hd
theorem pe_glob {x:Str} {v:V} {u:Value} {pos:Pos} (hg:Gl X x) (hm:X.mg x=some u) (r:RelV v u) (hd:(x == ("__debug__" : Str))=false:=by decide):PE X (.Name x pos) (tC v) :=
 fun _ _ _ H _ I h=>ld_glob I hg hm ⟨v,H,I,r,h⟩ hd
theorem pe_bltn {x:Str} {v:V} {u:Value} {pos:Pos} (hg:Gl X x) (hm:X.mg x=none) (hv:bootBuiltins x=some u) (r:RelV v u) (hn:x ≠ "__name__" := by decide) (hd:(x == ("__debug__" : Str))=false:=by decide):PE X (.Name x pos) (tC v) :=
 fun _ _ _ H _ I h=>ld_blt I hg hm hv ⟨v,H,I,r,h⟩ hn hd
variable {a b:Expr} {ta tb:TE} {pos:Pos}
noncomputable def tB (t:TE):TT:=fun σ H Q=>t σ H fun x H1=>∃ c,x=.bl c∧Q c H1
theorem pt_val {e:Expr} {t:TE} (h:PE X e t) (he:∀ whole,isTrue e X.env whole=(do let v ← whole; standAt e.pos; holding [v] (truthy v)):=by intro _; rfl):PT X e (tB t):=by
 intro pins s σ H Q I hw
 refine isTrue_plain (thn (h pins s σ H _ I hw) fun v s1 ⟨x,H1,I1,r1,q1⟩ => ?_) (he _)
 obtain ⟨d,rfl,q⟩:=q1
 cases r1
 exact wpAny_truthy_bool ⟨H1,I1,q⟩
variable {tA tB':TT} {rest:List Expr}
noncomputable def tAnd (t u:TT):TT:=fun σ H Q=>t σ H fun c H1=>if c=true then u σ H1 Q else Q false H1
noncomputable def tOr (t u:TT):TT:=fun σ H Q=>t σ H fun c H1=>if c=true then Q true H1 else u σ H1 Q
noncomputable def tNot (t:TT):TT:=fun σ H Q=>t σ H fun c H1=>Q (!c) H1
theorem pw_and1 (ha:PT X a tA):PW X (.BoolOp .And [a] pos) tA:=by
 intro wh pins s σ H Q I h
 refine isTrue_and (thn (ha pins s σ H Q I h) fun c s1 e => ?_)
 cases c with
 | true=>exact isTrue_and_nil e
 | false=>exact e
theorem pw_or1 (ha:PT X a tA):PW X (.BoolOp .Or [a] pos) tA:=by
 intro wh pins s σ H Q I h
 refine isTrue_or (thn (ha pins s σ H Q I h) fun c s1 e => ?_)
 cases c with
 | false=>exact isTrue_or_nil e
 | true=>exact e
theorem pw_and (ha:PT X a tA) (hb:PW X (.BoolOp .And (b::rest) pos) tB'):PW X (.BoolOp .And (a::b::rest) pos) (tAnd tA tB'):=by
 intro wh pins s σ H Q I h
 refine isTrue_and (thn (ha pins s σ H _ I h) fun c s1 ⟨H1,I1,q1⟩ => ?_)
 cases c with
 | true=>exact hb wh pins s1 σ H1 Q I1 q1
 | false=>exact ⟨H1,I1,q1⟩
theorem pw_or (ha:PT X a tA) (hb:PW X (.BoolOp .Or (b::rest) pos) tB'):PW X (.BoolOp .Or (a::b::rest) pos) (tOr tA tB'):=by
 intro wh pins s σ H Q I h
 refine isTrue_or (thn (ha pins s σ H _ I h) fun c s1 ⟨H1,I1,q1⟩ => ?_)
 cases c with
 | true=>exact ⟨H1,I1,q1⟩
 | false=>exact hb wh pins s1 σ H1 Q I1 q1
theorem pt_not (ha:PT X a tA):PT X (.UnaryOp .Not a pos) (tNot tA):=by
 intro pins s σ H Q I h
 exact isTrue_not (ha pins s σ H (fun c H1=>Q (!c) H1) I h)
noncomputable def tAndV (ta tb:TE):TE:=fun σ H Q=>ta σ H fun x H1=>∃ c,x=.bl c∧if c=true then tb σ H1 Q else Q (.bl false) H1
noncomputable def tOrV (ta tb:TE):TE:=fun σ H Q=>ta σ H fun x H1=>∃ c,x=.bl c∧if c=true then Q (.bl true) H1 else tb σ H1 Q
noncomputable def tNotV (ta:TE):TE:=fun σ H Q=>ta σ H fun x H1=>∃ c,x=.bl c∧Q (.bl (!c)) H1
theorem pe_one {op} {t:TE} (h:PE X a t):PE X (.BoolOp op [a] pos) t:=fun pins s σ H Q I hw=>BoolOp_one (h pins s σ H Q I hw)
theorem pe_and (ha:PE X a ta) (hb:PE X (.BoolOp .And (b::rest) pos) tb):PE X (.BoolOp .And (a::b::rest) pos) (tAndV ta tb):=by
 intro pins s σ H Q I h
 refine BoolOp_and (thn (ha pins s σ H _ I h) fun v s1 ⟨x,H1,I1,r1,q1⟩ => ?_)
 obtain ⟨c,rfl,q1⟩:=q1
 cases r1
 refine wpAny_truthy_bool ?_
 cases c with
 | true=>exact hb pins s1 σ H1 Q I1 q1
 | false=>exact ⟨.bl false,H1,I1,rfl,q1⟩
theorem pe_or (ha:PE X a ta) (hb:PE X (.BoolOp .Or (b::rest) pos) tb):PE X (.BoolOp .Or (a::b::rest) pos) (tOrV ta tb):=by
 intro pins s σ H Q I h
 refine BoolOp_or (thn (ha pins s σ H _ I h) fun v s1 ⟨x,H1,I1,r1,q1⟩ => ?_)
 obtain ⟨c,rfl,q1⟩:=q1
 cases r1
 refine wpAny_truthy_bool ?_
 cases c with
 | false=>exact hb pins s1 σ H1 Q I1 q1
 | true=>exact ⟨.bl true,H1,I1,rfl,q1⟩
theorem pe_not (ha:PE X a ta):PE X (.UnaryOp .Not a pos) (tNotV ta):=by
 intro pins s σ H Q I h
 refine UnaryOp_ (thn (ha pins s σ H _ I h) fun v s1 ⟨x,H1,I1,r1,q1⟩ => ?_)
 obtain ⟨c,rfl,q1⟩:=q1
 cases r1
 exact not_of (wpAny_truthy_bool ⟨.bl (!c),H1,I1,rfl,q1⟩)
noncomputable def tIf (t:TT) (ta tb:TE):TE:=fun σ H Q=>t σ H fun c H1=>if c=true then ta σ H1 Q else tb σ H1 Q
theorem pe_ifExp {c:Expr} (hc:PT X c tA) (ha:PE X a ta) (hb:PE X b tb):PE X (.IfExp c a b pos) (tIf tA ta tb):=by
 intro pins s σ H Q I h
 refine wpAny_IfExp (thn (hc pins s σ H _ I h) fun d s1 ⟨H1,I1,q1⟩ => ?_)
 cases d with
 | true=>exact ha pins s1 σ H1 Q I1 q1
 | false=>exact hb pins s1 σ H1 Q I1 q1
end
end L2
namespace L2
open PySem PySem.Spec PyProof.Rows
noncomputable def SqL (K:PySem.W.Frag) (H:Hp) (a:Addr) (xs:List V):Prop :=
 Rd H a (.lst xs) ∨
  ∃ (o:Obj) (its:Array Value) (n:Nat),K.lookup a=some o∧o.cls=.type "list"∧o.dict=none∧o.data=.seq its n∧its.size≤sizeLine∧Vals xs its.toList
noncomputable def SqT (K:PySem.W.Frag) (H:Hp) (a:Addr) (xs:List V):Prop :=
 Rd H a (.tup xs) ∨
  ∃ (o:Obj) (its:Array Value) (n:Nat),K.lookup a=some o∧o.cls=.type "tuple"∧o.data=.seq its n∧its.size≤sizeLine∧Vals xs its.toList
noncomputable def absV:Value→Option V
 | .none=>some .non
 | .bool b=>some (.bl b)
 | .int i _=>some (.int i)
 | .str x _=>some (.str x)
 | .bytes b _=>some (.byt b)
 | .float b _=>some (.flt b)
 | .ref a=>some (.ref a)
 | .type n=>some (.ty n)
 | _=>none
theorem RelV.abs {x:V} {u:Value} (r:RelV x u):absV u=some x:=by
 cases x with
 | non=>cases r; rfl
 | bl _=>cases r; rfl
 | int _=>obtain ⟨t,rfl⟩:=r; rfl
 | str _=>obtain ⟨t,rfl⟩:=r; rfl
 | byt _=>obtain ⟨t,rfl⟩:=r; rfl
 | flt _=>obtain ⟨t,rfl⟩:=r; rfl
 | ref _=>cases r; rfl
 | ty _=>cases r; rfl
theorem RelV.inj {x y:V} {u:Value} (r:RelV x u) (q:RelV y u):x=y:=Option.some.inj (r.abs.symm.trans q.abs)
theorem Vals.inj:∀ {xs ys:List V} {us:List Value},Vals xs us→Vals ys us→xs=ys
 | _,_,_,.nil,.nil=>rfl
 | _,_,_,.cons r t,.cons r' t'=>by rw [r.inj r',Vals.inj t t']
section
variable {X:Cx} {pins:List (Addr × Obj)} {σ:St} {H:Hp} {s:Shared} {a:Addr} {xs ys:List V}
theorem SqL.of {K:PySem.W.Frag} (h:H a=some (.lst xs)):SqL K H a xs:=.inl (.inl h)
theorem SqT.of {K:PySem.W.Frag} (h:H a=some (.tup xs)):SqT K H a xs:=.inl (.inl h)
theorem Inv.list (I:Inv X pins σ H s) (h:SqL X.K H a xs):∃ its:List Value,Vals xs its∧PlainL s.heap a its.toArray∧xs.length≤sizeLine:=by
 rcases h with h | ⟨o,its,n,hk,hc,hd,hs,hz,r⟩
 ·obtain ⟨z,its,n,r,e⟩:=h.ok I.hok
  exact ⟨its,r,⟨_,n,e,rfl,rfl,rfl⟩,z⟩
 ·refine ⟨its.toList,r,⟨o,n,I.kIn a o hk,hc,hd,by simpa using hs⟩,?_⟩
  have e:=r.length
  simp only [Array.length_toList] at e
  omega
theorem Inv.tuple (I:Inv X pins σ H s) (h:SqT X.K H a xs):∃ its:List Value,Vals xs its∧IsTup s.heap a its.toArray∧xs.length≤sizeLine:=by
 rcases h with h | ⟨o,its,n,hk,hc,hs,hz,r⟩
 ·obtain ⟨z,its,r,p⟩:=h.ok I.hok
  exact ⟨its,r,p,z⟩
 ·refine ⟨its.toList,r,⟨o,I.kIn a o hk,hc,n,by simpa using hs⟩,?_⟩
  have e:=r.length
  simp only [Array.length_toList] at e
  omega
theorem Inv.list_inj (I:Inv X pins σ H s) (h:SqL X.K H a xs) (h':SqL X.K H a ys):xs=ys:=by
 obtain ⟨its,r,⟨o,n,e,_,_,d⟩,_⟩:=I.list h
 obtain ⟨its',r',⟨o',n',e',_,_,d'⟩,_⟩:=I.list h'
 rw [e] at e'; cases e'
 rw [d] at d'
 injection d' with d1 _
 have:its=its':=by simpa using congrArg Array.toList d1
 subst this
 exact r.inj r'
theorem Inv.tuple_inj (I:Inv X pins σ H s) (h:SqT X.K H a xs) (h':SqT X.K H a ys):xs=ys:=by
 obtain ⟨its,r,⟨o,e,_,n,d⟩,_⟩:=I.tuple h
 obtain ⟨its',r',⟨o',e',_,n',d'⟩,_⟩:=I.tuple h'
 rw [e] at e'; cases e'
 rw [d] at d'
 injection d' with d1 _
 have:its=its':=by simpa using congrArg Array.toList d1
 subst this
 exact r.inj r'
end
section
variable {X:Cx} {pins:List (Addr × Obj)} {σ:St} {H:Hp} {s:Shared} {E:Value→Shared→Prop}
end
section
variable {X:Cx} {st:Stmt} {rest:List Stmt} {t u:TS} {e:Expr} {te:TE} {pos:Pos}
noncomputable def tNext:TS:=fun D σ H=>D.nx σ H
noncomputable def tSeq (t u:TS):TS:=fun D σ H=>t { D with nx:=u D } σ H
theorem pss_nil:PSs X [] tNext:=fun _ _ σ H _ I h=>wpAny_execs_nil ⟨σ,H,I,h⟩
theorem pss_cons (h1:PS X st t) (h2:PSs X rest u):PSs X (st::rest) (tSeq t u):=by
 intro pins s σ H D I h
 refine wpAny_execs_cons (thn (h1 pins s σ H { D with nx:=u D } I h) fun f s1 q => ?_)
 cases f with
 | next =>
  obtain ⟨σ',H',I',q⟩:=q
  exact h2 pins s1 σ' H' D I' q
 | ret v=>exact q
 | brk=>exact q
 | cont=>exact q
theorem Inv.quiet {pins:List (Addr × Obj)} {σ:St} {H:Hp} {s:Shared} (I:Inv X pins σ H s):interactive X.env=false:=by simp [interactive,I.ok.kind]
noncomputable def tDrop (te:TE):TS:=fun D σ H=>te σ H fun _ H1=>D.nx σ H1
theorem ps_expr (he:PE X e te) (hs:swapsWith e none pos.line X.env=pure false:=by rfl):PS X (.Expr e pos) (tDrop te):=by
 intro pins s σ H D I h
 exact wpAny_Expr_any (thn (he pins s σ H _ I h) fun v s1 ⟨x,H1,I1,r1,q1⟩=>⟨σ,H1,I1,q1⟩) I.quiet hs
noncomputable def tRet (te:TE):TS:=fun D σ H=>te σ H D.rt
theorem ps_ret (he:PE X e te):PS X (.Return (some e) pos) (tRet te):=by
 intro pins s σ H D I h
 exact wpAny_Return_some (thn (he pins s σ H _ I h) fun v s1 ⟨x,H1,I1,r1,q1⟩=>⟨x,σ,H1,I1,r1,q1⟩)
noncomputable def tIfS (c:TT) (t u:TS):TS:=fun D σ H=>c σ H fun b H1=>if b=true then t D σ H1 else u D σ H1
theorem ps_if {c:Expr} {a b:List Stmt} {tc:TT} (hc:PT X c tc) (ha:PSs X a t) (hb:PSs X b u):PS X (.If c a b pos) (tIfS tc t u):=by
 intro pins s σ H D I h
 refine wpAny_If (thn (hc pins s σ H _ I h) fun d s1 ⟨H1,I1,q1⟩ => ?_)
 cases d with
 | true=>exact ha pins s1 σ H1 D I1 q1
 | false=>exact hb pins s1 σ H1 D I1 q1
end
noncomputable abbrev TG:=V→St→Hp→(St→Hp→Prop)→Prop
noncomputable abbrev TGs:=List V→St→Hp→(St→Hp→Prop)→Prop
noncomputable def PG (X:Cx) (target:Expr) (t:TG):Prop :=
 ∀ (pins:List (Addr × Obj)) (s:Shared) (σ:St) (H:Hp) (v:V) (u:Value) (Q:St→Hp→Prop),Inv X pins σ H s→RelV v u→t v σ H Q →
  wpAny (model X.prog X.w) X.A (assign target X.env u) (fun _ s'=>∃ σ' H',Inv X pins σ' H' s'∧Q σ' H') X.xe s
noncomputable def PGs (X:Cx) (ts:List Expr) (t:TGs):Prop :=
 ∀ (pins:List (Addr × Obj)) (s:Shared) (σ:St) (H:Hp) (vs:List V) (us:List Value) (Q:St→Hp→Prop),Inv X pins σ H s→Vals vs us→t vs σ H Q →
  wpAny (model X.prog X.w) X.A (assignInOrder ((assignEach ts X.env).map (·.2)) us) (fun _ s'=>∃ σ' H',Inv X pins σ' H' s'∧Q σ' H') X.xe s
noncomputable abbrev TSet:=V→V→V→Hp→(Hp→Prop)→Prop
noncomputable def PSet (X:Cx) (t:TSet):Prop :=
 ∀ (pins:List (Addr × Obj)) (s:Shared) (σ:St) (H:Hp) (o i v:V) (ov iv u:Value) (Q:Hp→Prop),Inv X pins σ H s→RelV o ov→RelV i iv→RelV v u→t o i v H Q →
  wpAny (model X.prog X.w) X.A (setItem ov iv u) (fun _ s'=>∃ H',Inv X pins σ H' s'∧Q H') X.xe s
section
variable {X:Cx} {pos:Pos}
noncomputable def gName (i:Nat):TG:=fun v σ H Q=>Q (σ.set i (some v)) H
theorem pg_name {i:Nat} {x:Str} (hN:X.N.Nodup) (hi:X.N[i]?=some x) (hx:Loc X.env.scope x) (hf:X.fn x=true∨X.env.scope.names.lookup x=some .local:=by first | exact .inl rfl | exact .inr rfl | assumption):PG X (.Name x pos) (gName i):=by
 intro pins s σ H v u Q I r h
 exact wpAny_assign_Name (store_ok I hN hi hx r (fun s' I'=>⟨_,H,I',h⟩) hf)
noncomputable def gNil:TGs:=fun vs σ H Q=>vs=[]∧Q σ H
noncomputable def gCons (t:TG) (u:TGs):TGs:=fun vs σ H Q=>∃ v r,vs=v::r∧t v σ H fun σ' H'=>u r σ' H' Q
theorem pgs_nil:PGs X [] gNil:=by
 intro pins s σ H vs us Q I r h
 obtain ⟨e,h⟩:=h
 subst e
 cases r
 exact assignInOrder_nil ⟨σ,H,I,h⟩
theorem pgs_cons {e:Expr} {es:List Expr} {t:TG} {u:TGs} (h1:PG X e t) (h2:PGs X es u)
  (hs:(assignEach (e::es) X.env).map (·.2)=assign e X.env::(assignEach es X.env).map (·.2):=by rfl):PGs X (e::es) (gCons t u):=by
 intro pins s σ H vs us Q I r h
 obtain ⟨v,vr,e1,h⟩:=h
 subst e1
 cases r with
 | cons r rr =>
  rw [hs]
  refine assignInOrder_cons (thn (h1 pins s σ H _ _ _ I r h) fun _ s1 ⟨σ1,H1,I1,q1⟩ => ?_)
  exact h2 pins s1 σ1 H1 _ _ Q I1 rr q1
noncomputable def gTup (K:PySem.W.Frag) (n:Nat) (t:TGs):TG:=fun v σ H Q=>∃ a xs,v=.ref a∧SqT K H a xs∧xs.length=n∧t xs σ H Q
theorem pg_tup {es:List Expr} {k:Nat} {t:TGs} {n:Nat} (hc:X.calm=true) (h:PGs X es t)
  (hn:(assignEach es X.env).length=n:=by rfl) (hst:(assignEach es X.env).findIdx? (·.1)=none:=by rfl):PG X (.Tuple es k pos) (gTup X.K n t):=by
 intro pins s σ H v u Q I r hw
 obtain ⟨a,xs,e1,hq,hl,hw⟩:=hw
 subst e1
 cases r
 obtain ⟨its,rv,ht,hz⟩:=I.tuple hq
 refine assign_Tuple_tuple (I.ok.hd hc) ht (by simp [hn,← hl,rv.length]) hst fun h' hx => ?_
 have I1:Inv X pins σ H { s with heap:=h' }:=I.kept (t':=s.toks) fun b o e=>hx b o (Nat.ne_of_lt (Heap.lt_size e)) e
 exact h pins _ σ H xs _ Q I1 (by simpa using rv) hw
noncomputable def gSub (to ti:TE) (t:TSet):TG:=fun v σ H Q=>to σ H fun o H1=>ti σ H1 fun i H2=>t o i v H2 fun H3=>Q σ H3
theorem pg_sub {o i:Expr} {to ti:TE} {t:TSet} (ho:PE X o to) (hi:PE X i ti) (hs:PSet X t)
  (ha:∀ v,assign (.Subscript o i pos) X.env v=(do
   let ov ← holding [v] (eval o X.env)
   let iv ← holding [v,ov] (eval i X.env)
   standAt pos
   holding [v,ov,iv] (setItem ov iv v)
   release [v,ov,iv] []):=by intro _; rfl):PG X (.Subscript o i pos) (gSub to ti t):=by
 intro pins s σ H v u Q I r h
 rw [ha]
 refine wpAny_bind (wpAny_holding (thn (ho pins s σ H _ I h) fun ov s1 ⟨x,H1,I1,r1,q1⟩ => ?_))
 refine wpAny_bind (wpAny_holding (thn (hi pins s1 σ H1 _ I1 q1) fun iv s2 ⟨y,H2,I2,r2,q2⟩ => ?_))
 refine wpAny_bind (wpAny_standAt (wpAny_bind (wpAny_holding (thn (hs pins s2 σ H2 x y v ov iv u _ I2 r1 r2 r q2) fun _ s3 ⟨H3,I3,q3⟩ => ?_))))
 exact wpAny_release ⟨σ,H3,I3,q3⟩
noncomputable def tAsg (te:TE) (g:TG):TS:=fun D σ H=>te σ H fun x H1=>g x σ H1 D.nx
theorem ps_asg {tg e:Expr} {te:TE} {g:TG} (he:PE X e te) (hg:PG X tg g) (hs:swapsWithSole [tg] e pos.line X.env=pure false:=by rfl) (hw:swappedStores [tg] e X.env=pure none:=by rfl)
  (h1:(assignEach [tg] X.env).map (·.2)=[assign tg X.env]:=by rfl):PS X (.Assign [tg] e pos) (tAsg te g):=by
 intro pins s σ H D I h
 refine wpAny_Assign_stores (thn (he pins s σ H _ I h) fun v s1 ⟨x,H1,I1,r1,q1⟩ => ?_) hs hw
 rw [h1]
 exact thn (hg pins s1 σ H1 x v _ I1 r1 q1) fun _ s2 q=>q
theorem ps_set {i:Nat} {x:Str} {e:Expr} {te:TE} {pos':Pos} (hN:X.N.Nodup) (hi:X.N[i]?=some x) (hx:Loc X.env.scope x) (he:PE X e te) (hs:swapsWith e (some (.Name x pos')) pos.line X.env=pure false:=by rfl) (hf:X.fn x=true∨X.env.scope.names.lookup x=some .local:=by first | exact .inl rfl | exact .inr rfl | assumption) :
  PS X (.Assign [.Name x pos'] e pos) (tAsg te (gName i)):=by
 intro pins s σ H D I h
 refine wpAny_Assign_Name (thn (he pins s σ H _ I h) fun v s1 ⟨y,H1,I1,r1,q1⟩ => ?_) hs
 exact store_ok I1 hN hi hx r1 (fun s2 I2=>⟨_,H1,I2,q1⟩) hf
end
section
variable {X:Cx} {pos:Pos}
end
structure It where
 go:Nat→Hp→Prop
 yld:Nat→Hp→V→Hp→Prop
 stop:Nat→Hp→Prop
noncomputable def FpOk (X:Cx) (pins:List (Addr × Obj)) (H:Hp) (b:Addr):Prop :=
 H b=none∧b≠X.env.locals∧b ∉ X.fs∧(b∈X.ex∨X.s₀.heap.objs.size≤b)∧(∀ x c,X.env.cells.lookup x=some c→c≠b)∧∀ p∈X.pn++pins,p.1≠b
theorem Inv.fpOk {X:Cx} {pins:List (Addr × Obj)} {σ:St} {H H':Hp} {s:Shared} {b:Addr} (I:Inv X pins σ H s) (hb:s.heap.objs.size≤b) (hn:H' b=none):FpOk X pins H' b:=by
 refine ⟨hn,Nat.ne_of_gt (Nat.lt_of_lt_of_le I.lt hb),I.nofs hb,.inr (Nat.le_trans I.sz hb),fun x c e z => ?_,fun p hp z => ?_⟩
 ·obtain ⟨v,q⟩:=I.cell x c e
  exact absurd (Nat.lt_of_lt_of_le q.lt (by rw [z]; exact hb)) (Nat.lt_irrefl _)
 ·exact absurd (Nat.lt_of_lt_of_le (Heap.lt_size (I.pin p hp).1) (by rw [z]; exact hb)) (Nat.lt_irrefl _)
structure Turn (P:Program) (w:World) (K:PySem.W.Frag) (tg:Expr) (J:It) (fp:List Addr) (it:Addr) (tn:Nat→Heap→Prop):Prop where
 mem:it∈fp
 obj:∀ i h,tn i h→∀ b∈fp,∃ o,h.get? b=some o∧∀ v,o.data≠.cell v
 keep:∀ i h h',tn i h→(∀ b∈fp,∀ o,h.get? b=some o→h'.get? b=some o)→tn i h'
 item:∀ (X:Cx),X.prog=P→X.w=w→X.K=K→X.calm=true→∀ (i:Nat) (pins:List (Addr × Obj)) (s:Shared) (σ:St) (H:Hp) (E:Value→Shared→Prop),Inv X pins σ H s→(∀ b∈fp,FpOk X pins H b)→tn i s.heap→J.go i H →
  wpAny (model P w) X.A (pyNext (.ref it)) (fun r s1=>∃ u,r=some u ∧
   wpAny (model P w) X.A (letOwnedTupleGo tg (.ref it) u) (fun _ s2=>∃ x H',Inv X pins σ H' s2∧RelV x u∧J.yld i H x H'∧tn (i+1) s2.heap∧∀ b∈fp,H' b=none) E s1) E s
 done:∀ (X:Cx),X.prog=P→X.w=w→X.K=K→X.calm=true→∀ (i:Nat) (pins:List (Addr × Obj)) (s:Shared) (σ:St) (H:Hp) (E:Value→Shared→Prop),Inv X pins σ H s→(∀ b∈fp,FpOk X pins H b)→tn i s.heap→J.stop i H →
  wpAny (model P w) X.A (pyNext (.ref it)) (fun r s1=>r=none∧Inv X pins σ H s1) E s
 self:∀ (A:Around) (i:Nat) (s:Shared) (Q:Value→Shared→Prop) (E:Value→Shared→Prop),tn i s.heap→Q (.ref it) s→wpAny (model P w) A (pyIter (.ref it)) Q E s
noncomputable abbrev TI:=St→Hp→(It→Hp→Prop)→Prop
noncomputable def PIE (X:Cx) (pins:List (Addr × Obj)) (σ:St) (tg:Expr) (R:It→Hp→Prop) (itv:Value) (s2:Shared):Prop :=
 ∃ (it:Addr) (fp:List Addr) (tn:Nat→Heap→Prop) (J:It) (H':Hp),itv=.ref it∧Inv X pins σ H' s2∧Turn X.prog X.w X.K tg J fp it tn∧tn 0 s2.heap∧(∀ b∈fp,FpOk X pins H' b)∧R J H'
noncomputable def PI (X:Cx) (tg iter:Expr) (wi:TI):Prop :=
 ∀ (pins:List (Addr × Obj)) (s:Shared) (σ:St) (H:Hp) (R:It→Hp→Prop),Inv X pins σ H s→wi σ H R →
  wpAny (model X.prog X.w) X.A (eval iter X.env) (fun v s1=>wpAny (model X.prog X.w) X.A (pyIter v) (PIE X pins σ tg R) X.xe s1) X.xe s
theorem go_of {M:Model} {A:Around} {E:Value→Shared→Prop} {s:Shared} {tg:Expr} {it:Addr} {u:Value} {o:Obj} {n:String} {vs:Array Value} {Q:Unit→Shared→Prop} (ho:s.heap.get? it=some o) (hc:o.cls=.type n) (hd:o.data=.fields vs)
  (hn:["enumerate", "zip", "dict_itemiterator", "dict_reverseitemiterator", "odict_iterator", "itertools.zip_longest", "itertools.pairwise"].contains n=false) (hQ:Q () s):wpAny M A (letOwnedTupleGo tg (.ref it) u) Q E s:=by
 unfold letOwnedTupleGo
 cases tg <;> first
  | exact wpAny_pure hQ
  | (cases u <;> first
    | exact wpAny_pure hQ
    | (refine wpAny_bind (wpAny_load ho ?_)
       rw [hc,hd]
       show wpAny M A (if (["enumerate", "zip", "dict_itemiterator", "dict_reverseitemiterator", "odict_iterator", "itertools.zip_longest", "itertools.pairwise"].contains n&&vs[0]? == some (rawInt _))=true then _ else _) Q E s
       rw [if_neg (by intro h; rw [hn,Bool.false_and] at h; cases h)]
       exact wpAny_pure hQ))
noncomputable def Itl (K:PySem.W.Frag) (a:Addr):It :=
 ⟨fun i H=>∃ xs x,SqL K H a xs∧xs[i]?=some x,fun i H x H'=>H'=H∧∀ xs,SqL K H a xs→xs[i]?=some x,fun i H=>∃ xs,SqL K H a xs∧xs.length≤i⟩
noncomputable def Itt (K:PySem.W.Frag) (a:Addr):It :=
 ⟨fun i H=>∃ xs x,SqT K H a xs∧xs[i]?=some x,fun i H x H'=>H'=H∧∀ xs,SqT K H a xs→xs[i]?=some x,fun i H=>∃ xs,SqT K H a xs∧xs.length≤i⟩
noncomputable def Itr (lo:Int) (n:Nat):It:=⟨fun i _=>i<n,fun i H x H'=>H'=H∧x=.int (lo+i),fun i _=>n≤i⟩
theorem turn_list {P:Program} {w:World} {K:PySem.W.Frag} {tg:Expr} (a it:Addr):Turn P w K tg (Itl K a) [it] it (fun i h=>h.IsListIter it a i) where
 mem:=by simp
 obj:=fun i h st b hb=>by
  have e:b=it:=by simpa using hb
  subst e
  obtain ⟨o,e,c,d⟩:=st
  exact ⟨o,e,fun v z=>by rw [d] at z; cases z⟩
 keep:=fun i h h' st k=>st.at fun o e=>k it (by simp) o e
 item:=by
  intro X hP hw hK hc i pins s σ H E I hf st hg
  subst hP hw hK
  obtain ⟨xs,x,hq,hx⟩:=hg
  obtain ⟨its,rv,p,hz⟩:=I.list hq
  obtain ⟨u,hu,ru⟩:=rv.get hx
  obtain ⟨f0,f1,f2,f3,f4,f5⟩:=hf it (by simp)
  refine wpAny_pyNext_list_item st p.isList (x:=u) (by simpa using hu) fun h' st' sb => ?_
  have I1:Inv X pins σ H { s with heap:=h' }:=I.turned (t':=s.toks) (fun b o hb e=>(sb.2 b hb).trans e) f0 f1 f3 f4 f5
  obtain ⟨o,e,c,d⟩:=id st'
  exact ⟨u,rfl,go_of (s:={ s with heap:=h' }) e c d (by decide) ⟨x,H,I1,ru,⟨rfl,fun ys hy=>by rw [I.list_inj hy hq]; exact hx⟩,st',fun b hb=>(hf b hb).1⟩⟩
 done:=by
  intro X hP hw hK hc i pins s σ H E I hf st hg
  subst hP hw hK
  obtain ⟨xs,hq,hx⟩:=hg
  obtain ⟨its,rv,p,hz⟩:=I.list hq
  obtain ⟨f0,f1,f2,f3,f4,f5⟩:=hf it (by simp)
  have hl:=rv.length
  exact wpAny_pyNext_list_end (I.ok.hd hc) st p.isList (by simp; omega) fun h' eb=>⟨rfl,I.turned (t':=s.toks) (fun b o hb e=>eb b o hb e) f0 f1 f3 f4 f5⟩
 self:=fun _ _ _ _ _ st h=>wpAny_pyIter_listiter st h
theorem turn_tuple {P:Program} {w:World} {K:PySem.W.Frag} {tg:Expr} (a it:Addr):Turn P w K tg (Itt K a) [it] it (fun i h=>h.IsTupleIter it a i) where
 mem:=by simp
 obj:=fun i h st b hb=>by
  have e:b=it:=by simpa using hb
  subst e
  obtain ⟨o,e,c,d⟩:=st
  exact ⟨o,e,fun v z=>by rw [d] at z; cases z⟩
 keep:=fun i h h' st k=>st.at fun o e=>k it (by simp) o e
 item:=by
  intro X hP hw hK hc i pins s σ H E I hf st hg
  subst hP hw hK
  obtain ⟨xs,x,hq,hx⟩:=hg
  obtain ⟨its,rv,p,hz⟩:=I.tuple hq
  obtain ⟨u,hu,ru⟩:=rv.get hx
  obtain ⟨f0,f1,f2,f3,f4,f5⟩:=hf it (by simp)
  refine wpAny_pyNext_tuple_item st (show s.heap.IsTuple a its.toArray from p) (x:=u) (by simpa using hu) fun h' st' sb => ?_
  have I1:Inv X pins σ H { s with heap:=h' }:=I.turned (t':=s.toks) (fun b o hb e=>(sb.2 b hb).trans e) f0 f1 f3 f4 f5
  obtain ⟨o,e,c,d⟩:=id st'
  exact ⟨u,rfl,go_of (s:={ s with heap:=h' }) e c d (by decide) ⟨x,H,I1,ru,⟨rfl,fun ys hy=>by rw [I.tuple_inj hy hq]; exact hx⟩,st',fun b hb=>(hf b hb).1⟩⟩
 done:=by
  intro X hP hw hK hc i pins s σ H E I hf st hg
  subst hP hw hK
  obtain ⟨xs,hq,hx⟩:=hg
  obtain ⟨its,rv,p,hz⟩:=I.tuple hq
  obtain ⟨f0,f1,f2,f3,f4,f5⟩:=hf it (by simp)
  have hl:=rv.length
  exact wpAny_pyNext_tuple_end (I.ok.hd hc) st (show s.heap.IsTuple a its.toArray from p) (by simp; omega) fun h' eb=>⟨rfl,I.turned (t':=s.toks) (fun b o hb e=>eb b o hb e) f0 f1 f3 f4 f5⟩
 self:=fun _ _ _ _ _ st h=>wpAny_pyIter_tupleiter st h
theorem turn_range {P:Program} {w:World} {K:PySem.W.Frag} {tg:Expr} (it:Addr) (lo:Int) (n:Nat):Turn P w K tg (Itr lo n) [it] it (fun i h=>IsRangeIter h it (lo+(i:Nat) * 1) ((n:Int) - (i:Nat)) 1) where
 mem:=by simp
 obj:=fun i h st b hb=>by
  have e:b=it:=by simpa using hb
  subst e
  exact ⟨_,st,fun v z=>by
   have z':Data.fields _=Data.cell v:=z
   cases z'⟩
 keep:=fun i h h' st k=>k it (by simp) _ st
 item:=by
  intro X hP hw hK hc i pins s σ H E I hf st hg
  subst hP hw hK
  obtain ⟨f0,f1,f2,f3,f4,f5⟩:=hf it (by simp)
  have W:=Walks.range (prog:=X.prog) (w:=X.w) (I.ok.hd hc) it lo 1 n
  refine W.item i s _ _ hg st fun v h' tk hv st' kk => ?_
  obtain ⟨t,rfl⟩:=hv
  have I1:Inv X pins σ H { s with heap:=h',toks:=tk }:=I.turned (fun b o hb e=>kk b o (by simpa using hb) e) f0 f1 f3 f4 f5
  refine ⟨_,rfl,go_of (s:={ s with heap:=h',toks:=tk }) (n := "range_iterator") st' rfl rfl (by decide) ⟨.int (lo+i),H,I1,⟨t,?_⟩,⟨rfl,rfl⟩,st',fun b hb=>(hf b hb).1⟩⟩
  rw [Int.mul_one]
 done:=by
  intro X hP hw hK hc i pins s σ H E I hf st hg
  subst hP hw hK
  obtain ⟨f0,f1,f2,f3,f4,f5⟩:=hf it (by simp)
  exact wpAny_pyNext_range_end (I.ok.hd hc) st (by have:n≤i:=hg; omega) fun h' eb=>⟨rfl,I.turned (t':=s.toks) (fun b o hb e=>eb b o hb e) f0 f1 f3 f4 f5⟩
 self:=fun _ _ _ _ _ st h=>wpAny_pyIter_rangeiter st h
end L2
namespace L2
open PySem PySem.Spec PyProof.Rows
section
variable {X:Cx} {tg:Expr}
theorem range_it {pins:List (Addr × Obj)} {σ:St} {H:Hp} {s:Shared} {R:It→Hp→Prop} {E:Value→Shared→Prop} {lo hi:Int} {t u v:Tok} {tk:Nat} (I:Inv X pins σ H s) (h1:-(2 ^ 62)≤lo) (h2:lo<2 ^ 62) (h3:-(2 ^ 62)≤hi) (h4:hi<2 ^ 62)
  (q:R (Itr lo (hi - lo).toNat) H):wpAny (model X.prog X.w) X.A (pyIter (.ref s.heap.objs.size)) (PIE X pins σ tg R) E { s with heap:=s.heap.push { cls:=.type "range",data:=.fields #[.int lo t,.int hi u,.int 1 v] },toks:=tk }:=by
 refine wpAny_pyIter_range (IsRange.new ..) (small_one h1 h2 h3 h4) ?_
 have I1:Inv X pins σ H { s with heap:=s.heap.push { cls:=.type "range",data:=.fields #[.int lo t,.int hi u,.int 1 v] },toks:=tk }:=I.kept fun b o e=>Heap.get?_push_of_some _ e
 refine ⟨(s.heap.push { cls:=.type "range",data:=.fields #[.int lo t,.int hi u,.int 1 v] }).objs.size,[(s.heap.push { cls:=.type "range",data:=.fields #[.int lo t,.int hi u,.int 1 v] }).objs.size],_,_,H,rfl,
  I1.kept (t':=tk) fun b o e=>Heap.get?_push_of_some _ e,turn_range _ lo (hi - lo).toNat,?_,fun b hb => ?_,q⟩
 ·have e1:lo+((0:Nat):Int) * 1=lo:=by simp
  have e2:(((hi - lo).toNat:Nat):Int) - ((0:Nat):Int)=Builtin.Range.rangeSize lo hi 1:=by rw [rangeSize_one]; split <;> omega
  show IsRangeIter _ _ (lo+((0:Nat):Int) * 1) ((((hi - lo).toNat:Nat):Int) - ((0:Nat):Int)) 1
  rw [e1,e2]
  exact Heap.get?_push_size _ rfl
 ·have e:b=(s.heap.push { cls:=.type "range",data:=.fields #[.int lo t,.int hi u,.int 1 v] }).objs.size:=by simpa using hb
  subst e
  exact I1.fpOk (Nat.le_refl _) (I1.hok.fresh (Nat.le_refl _))
noncomputable def iRng1 (ta:TA):TI:=fun σ H R=>ta σ H fun vs H1=>∃ j:Int,vs=[.int j]∧-(2 ^ 62)≤j∧j<2 ^ 62∧R (Itr 0 j.toNat) H1
noncomputable def iRng2 (ta:TA):TI:=fun σ H R=>ta σ H fun vs H1=>∃ i j:Int,vs=[.int i,.int j]∧(-(2 ^ 62)≤i∧i<2 ^ 62∧-(2 ^ 62)≤j∧j<2 ^ 62)∧R (Itr i (j - i).toNat) H1
theorem pi_range1 {a:Expr} {ta:TA} {p pos:Pos} (hg:Gl X "range") (hm:X.mg "range" = none) (ha:PA X [a] ta) (hs:starEach [a] X.env=[(false,eval a X.env)]:=by rfl):PI X tg (.Call (.Name "range" p) [a] [] pos) (iRng1 ta):=by
 intro pins s σ H R I h
 refine Call_ (ld_blt I hg hm boot_range (PyProof.Rows.callWith_type1 (thn (ha pos pins s σ H _ I h) fun us s1 ⟨vs,H1,I1,r1,q1⟩ => ?_) hs rfl))
 obtain ⟨j,e,q1,q2,q⟩:=q1
 subst e
 cases r1 with
 | cons r rr =>
  cases rr
  obtain ⟨t,rfl⟩:=r
  exact call_range_1 (range_it I1 (by omega) (by omega) q1 q2 (by simpa using q))
theorem pi_range2 {a b:Expr} {ta:TA} {p pos:Pos} (hg:Gl X "range") (hm:X.mg "range" = none) (ha:PA X [a,b] ta) (hs:starEach [a,b] X.env=[(false,eval a X.env),(false,eval b X.env)]:=by rfl) (hs2:starEach [b] X.env=[(false,eval b X.env)]:=by rfl) :
  PI X tg (.Call (.Name "range" p) [a,b] [] pos) (iRng2 ta):=by
 intro pins s σ H R I h
 refine Call_ (ld_blt I hg hm boot_range (PyProof.Rows.callWith_type1 (thn (ha pos pins s σ H _ I h) fun us s1 ⟨vs,H1,I1,r1,q1⟩ => ?_) (by rw [hs,hs2]) (by rw [hs2]; rfl)))
 obtain ⟨i,j,e,⟨q1,q2,q3,q4⟩,q⟩:=q1
 subst e
 cases r1 with
 | cons r rr =>
  cases rr with
  | cons r' rr =>
   cases rr
   obtain ⟨t,rfl⟩:=r
   obtain ⟨t',rfl⟩:=r'
   exact call_range_2 (range_it I1 q1 q2 q3 q4 q)
noncomputable def tFor (wi:TI) (g:TG) (tb:TS):TS:=fun D σ H=>wi σ H fun J H1=>∃ W:Nat→Nat→St→Hp→Prop,(∃ m,W 0 m σ H1)∧∀ i m σ H,W i m σ H →
 (J.stop i H∧D.nx σ H)∨(J.go i H∧∃ N:St→Hp→Prop,(∀ σ' H',N σ' H'→∃ m',m'<m∧W (i+1) m' σ' H')∧∀ x H',J.yld i H x H'→g x σ H' fun σ2 H2=>tb { D with nx:=N,ct:=N,bk:=D.nx } σ2 H2)
noncomputable def pinsAt (fp:List Addr) (h:Heap):List (Addr × Obj):=fp.filterMap fun b=>(h.get? b).map fun o=>(b,o)
theorem mem_pinsAt {fp:List Addr} {h:Heap} {b:Addr} {o:Obj} (hb:b∈fp) (e:h.get? b=some o):(b,o)∈pinsAt fp h:=List.mem_filterMap.mpr ⟨b,hb,by rw [e]; rfl⟩
theorem of_pinsAt {fp:List Addr} {h:Heap} {p:Addr × Obj} (hp:p∈pinsAt fp h):p.1∈fp∧h.get? p.1=some p.2:=by
 obtain ⟨b,hb,e⟩:=List.mem_filterMap.mp hp
 cases q:h.get? b with
 | none=>rw [q] at e; cases e
 | some o =>
  rw [q] at e
  have e':(b,o)=p:=Option.some.inj e
  subst e'
  exact ⟨hb,q⟩
theorem Inv.pinned {pins:List (Addr × Obj)} {σ:St} {H:Hp} {s:Shared} {fp:List Addr} (I:Inv X pins σ H s) (hf:∀ b∈fp,FpOk X pins H b) (ho:∀ b∈fp,∃ o,s.heap.get? b=some o∧∀ v,o.data≠.cell v):Inv X (pins++pinsAt fp s.heap) σ H s :=
 I.pins_of fun p hp=>(List.mem_append.mp hp).elim (fun z=>I.pin p (List.mem_append_right _ z)) fun z=>by
  obtain ⟨hb,e⟩:=of_pinsAt z
  obtain ⟨f0,f1,f2,_⟩:=hf p.1 hb
  obtain ⟨o,e',d⟩:=ho p.1 hb
  rw [e] at e'; cases e'
  exact ⟨e,f0,f1,f2,d⟩
theorem Inv.unpinned {pins pl:List (Addr × Obj)} {σ:St} {H:Hp} {s:Shared} (I:Inv X (pins++pl) σ H s):Inv X pins σ H s:=I.pins_of fun p hp=>I.pin p (List.mem_append_right _ (List.mem_append_left _ hp))
theorem ps_for {iter:Expr} {body:List Stmt} {wi:TI} {g:TG} {tb:TS} {pos:Pos} (hp:PassesOwn (model X.prog X.w) X.A X.env X.xe) (hc:X.calm=true) (hi:PI X tg iter wi) (hg:PG X tg g) (hb:PSs X body tb)
  (hs:∀ x,foldedSetIterable iter X.env x=pure x:=by intro _; rfl):PS X (.For tg iter body [] pos) (tFor wi g tb):=by
 intro pins s σ H D I h
 refine wpAny_For (thn (hi pins s σ H _ I h) fun v s1 h1=>thn h1 fun itv s2 h2 => ?_) hs
 obtain ⟨it,fp,tn,J,H2,e,I2,T,st2,f2,W,⟨m0,w0⟩,turn⟩:=h2
 subst e
 have stat:∀ {H':Hp},(∀ b∈fp,H' b=none)→∀ b∈fp,FpOk X pins H' b:=fun hn b hb=>⟨hn b hb,(f2 b hb).2⟩
 refine codeAny_forLoop_any (fun n s'=>∃ i σ' H',Inv X pins σ' H' s'∧tn i s'.heap∧(∀ b∈fp,H' b=none)∧W i n σ' H') ?_ m0 ⟨0,σ,H2,I2,st2,fun b hb=>(f2 b hb).1,w0⟩
 rintro n s3 ⟨i,σ3,H3,I3,st3,fr3,w3⟩
 rcases turn i n σ3 H3 w3 with ⟨stop,qn⟩ | ⟨go,N,hN,step⟩
 ·refine wpAny_passesOwn hp (thn (T.done X rfl rfl rfl hc i pins s3 σ3 H3 X.xe I3 (stat fr3) st3 stop) fun r s4 ⟨hr,I4⟩ => ?_)
  subst hr
  exact wpAny_execs_nil ⟨σ3,H3,I4,qn⟩
 ·refine wpAny_passesOwn hp (thn (T.item X rfl rfl rfl hc i pins s3 σ3 H3 X.xe I3 (stat fr3) st3 go) fun r s4 ⟨u,hr,h4⟩ => ?_)
  subst hr
  refine wpAny_passesOwn hp (thn h4 fun _ s5 ⟨x,H5,I5,r5,y5,st5,fr5⟩ => ?_)
  have I5':=I5.pinned (stat fr5) (T.obj _ _ st5)
  refine wpAny_passesOwn hp (thn (hg _ s5 σ3 H5 x u _ I5' r5 (step x H5 y5)) fun _ s6 ⟨σ6,H6,I6,q6⟩ => ?_)
  refine wpAny_passesOwn hp (thn (hb _ s6 σ6 H6 _ I6 q6) fun f s7 q7 => ?_)
  have again:∀ {σ7:St} {H7:Hp},Inv X (pins++pinsAt fp s5.heap) σ7 H7 s7→N σ7 H7→∃ m,m<n∧∃ i σ' H',Inv X pins σ' H' s7∧tn i s7.heap∧(∀ b∈fp,H' b=none)∧W i m σ' H':=fun {σ7 H7} I7 n7=>by
   obtain ⟨m',hm,w7⟩:=hN σ7 H7 n7
   refine ⟨m',hm,i+1,σ7,H7,I7.unpinned,T.keep _ _ _ st5 fun b hb o e=>(I7.pin (b,o) (List.mem_append_right _ (List.mem_append_right _ (mem_pinsAt hb e)))).1,fun b hb => ?_,w7⟩
   obtain ⟨o,e,d⟩:=T.obj _ _ st5 b hb
   exact (I7.pin (b,o) (List.mem_append_right _ (List.mem_append_right _ (mem_pinsAt hb e)))).2.1
  cases f with
  | next=>obtain ⟨σ7,H7,I7,n7⟩:=q7; exact again I7 n7
  | cont=>obtain ⟨σ7,H7,I7,n7⟩:=q7; exact again I7 n7
  | brk=>obtain ⟨σ7,H7,I7,q7⟩:=q7; exact ⟨σ7,H7,I7.unpinned,q7⟩
  | ret v=>obtain ⟨x7,σ7,H7,I7,r7,q7⟩:=q7; exact ⟨x7,σ7,H7,I7.unpinned,r7,q7⟩
end
end L2
namespace L2
open PySem PySem.Spec PyProof.Rows
noncomputable abbrev R2:=V→V→Hp→VK→Prop
noncomputable def OpR (X:Cx) (f:Value→Value→Sem Value) (r:R2):Prop :=
 ∀ (pins:List (Addr × Obj)) (s:Shared) (σ:St) (H:Hp) (x y:V) (v u:Value) (Q:VK),Inv X pins σ H s→RelV x v→RelV y u→r x y H Q →
  wpAny (model X.prog X.w) X.A (f v u) (EP X pins σ Q) X.xe s
noncomputable def UnR (X:Cx) (f:Value→Sem Value) (r:V→Hp→VK→Prop):Prop :=
 ∀ (pins:List (Addr × Obj)) (s:Shared) (σ:St) (H:Hp) (x:V) (v:Value) (Q:VK),Inv X pins σ H s→RelV x v→r x H Q →
  wpAny (model X.prog X.w) X.A (f v) (EP X pins σ Q) X.xe s
noncomputable def CallR (X:Cx) (f:Value) (r:List V→Hp→VK→Prop):Prop :=
 ∀ (pins:List (Addr × Obj)) (s:Shared) (σ:St) (H:Hp) (xs:List V) (us:List Value) (Q:VK),Inv X pins σ H s→Vals xs us→r xs H Q →
  wpAny (model X.prog X.w) X.A (call f us) (EP X pins σ Q) X.xe s
noncomputable def TruR (X:Cx) (r:V→Hp→(Bool→Hp→Prop)→Prop):Prop :=
 ∀ (pins:List (Addr × Obj)) (s:Shared) (σ:St) (H:Hp) (x:V) (v:Value) (Q:Bool→Hp→Prop),Inv X pins σ H s→RelV x v→r x H Q →
  wpAny (model X.prog X.w) X.A (truthy v) (TP X pins σ Q) X.xe s
noncomputable def tOp (r:R2) (ta tb:TE):TE:=fun σ H Q=>ta σ H fun x H1=>tb σ H1 fun y H2=>r x y H2 Q
noncomputable def tUn (r:V→Hp→VK→Prop) (ta:TE):TE:=fun σ H Q=>ta σ H fun x H1=>r x H1 Q
noncomputable def rI (C:Int→Int→Prop) (g:Int→Int→V):R2:=fun x y H Q=>∃ i j,x=.int i∧y=.int j∧C i j∧Q (g i j) H
noncomputable def rI0 (g:Int→Int→V):R2:=fun x y H Q=>∃ i j,x=.int i∧y=.int j∧Q (g i j) H
noncomputable def rU (g:Int→V):V→Hp→VK→Prop:=fun x H Q=>∃ i,x=.int i∧Q (g i) H
section
variable {X:Cx} {a b c:Expr} {ta tb tc:TE} {pos:Pos}
theorem binT (ha:PE X a ta) (hb:PE X b tb) {pins:List (Addr × Obj)} {s:Shared} {σ:St} {H:Hp} {R:V→V→Hp→Prop} (I:Inv X pins σ H s)
  (h:ta σ H fun x H1=>tb σ H1 fun y H2=>R x y H2) {Q:Value→Shared→Prop} {f:Value→Value→Sem Value}
  (hf:∀ v u s2 x y H2,Inv X pins σ H2 s2→RelV x v→RelV y u→R x y H2→wpAny (model X.prog X.w) X.A (f v u) Q X.xe s2) :
  wpAny (model X.prog X.w) X.A (eval a X.env) (fun v s₁=>wpAny (model X.prog X.w) X.A (eval b X.env) (fun u s₂=>wpAny (model X.prog X.w) X.A (f v u) Q X.xe s₂) X.xe s₁) X.xe s:=by
 refine thn (ha pins s σ H _ I h) fun v s1 ⟨x,H1,I1,r1,q1⟩ => ?_
 refine thn (hb pins s1 σ H1 _ I1 q1) fun u s2 ⟨y,H2,I2,r2,q2⟩ => ?_
 exact hf v u s2 x y H2 I2 r1 r2 q2
theorem pe_op {op:Operator} {r:R2} (ho:OpR X (binaryOp op) r) (ha:PE X a ta) (hb:PE X b tb):PE X (.BinOp a op b pos) (tOp r ta tb):=by
 intro pins s σ H Q I h
 exact wpAny_BinOp (binT ha hb I h fun v u s2 x y H2 I2 rx ry q=>ho pins s2 σ H2 x y v u Q I2 rx ry q)
theorem pe_un {op:UnaryOp} {r:V→Hp→VK→Prop} (ho:UnR X (unaryOp op) r) (ha:PE X a ta):PE X (.UnaryOp op a pos) (tUn r ta):=by
 intro pins s σ H Q I h
 exact UnaryOp_ (thn (ha pins s σ H _ I h) fun v s1 ⟨x,H1,I1,r1,q1⟩=>ho pins s1 σ H1 x v Q I1 r1 q1)
theorem opI {f:Value→Value→Sem Value} {C:Int→Int→Prop} {g:Int→Int→Int}
  (rule:∀ (i j:Int) (t u:Tok) (s:Shared) (Q:Value→Shared→Prop) (E:Value→Shared→Prop),C i j→Q (.int (g i j) s.toks) { s with toks:=s.toks+1 }→wpAny (model X.prog X.w) X.A (f (.int i t) (.int j u)) Q E s) :
  OpR X f (rI C fun i j=>.int (g i j)):=by
 intro pins s σ H x y v u Q I rx ry h
 obtain ⟨i,j,rfl,rfl,hc,q⟩:=h
 obtain ⟨t,rfl⟩:=rx
 obtain ⟨t',rfl⟩:=ry
 exact rule i j t t' s _ _ hc ⟨.int (g i j),H,I.tok _,⟨_,rfl⟩,q⟩
theorem opI0 {f:Value→Value→Sem Value} {g:Int→Int→Int}
  (rule:∀ (i j:Int) (t u:Tok) (s:Shared) (Q:Value→Shared→Prop) (E:Value→Shared→Prop),Q (.int (g i j) s.toks) { s with toks:=s.toks+1 }→wpAny (model X.prog X.w) X.A (f (.int i t) (.int j u)) Q E s) :
  OpR X f (rI0 fun i j=>.int (g i j)):=by
 intro pins s σ H x y v u Q I rx ry h
 obtain ⟨i,j,rfl,rfl,q⟩:=h
 obtain ⟨t,rfl⟩:=rx
 obtain ⟨t',rfl⟩:=ry
 exact rule i j t t' s _ _ ⟨.int (g i j),H,I.tok _,⟨_,rfl⟩,q⟩
theorem opB0 {f:Value→Value→Sem Value} {g:Int→Int→Bool}
  (rule:∀ (i j:Int) (t u:Tok) (s:Shared) (Q:Value→Shared→Prop) (E:Value→Shared→Prop),Q (.bool (g i j)) s→wpAny (model X.prog X.w) X.A (f (.int i t) (.int j u)) Q E s) :
  OpR X f (rI0 fun i j=>.bl (g i j)):=by
 intro pins s σ H x y v u Q I rx ry h
 obtain ⟨i,j,rfl,rfl,q⟩:=h
 obtain ⟨t,rfl⟩:=rx
 obtain ⟨t',rfl⟩:=ry
 exact rule i j t t' s _ _ ⟨.bl (g i j),H,I,rfl,q⟩
noncomputable def CPow (i j:Int):Prop:=0≤j∧j≤1000000∧i.natAbs<2 ^ 64
theorem two_pow_nn (k:Nat):(0:Int)≤2 ^ k:=by
 rw [two_pow_cast]
 exact Int.natCast_nonneg _
theorem op_add:OpR X (binaryOp .Add) (rI0 fun i j=>.int (i+j)):=opI0 fun _ _ _ _ _ _ _ q=>add_int q
theorem op_sub:OpR X (binaryOp .Sub) (rI0 fun i j=>.int (i - j)):=opI0 fun _ _ _ _ _ _ _ q=>sub_int q
theorem op_mod:OpR X (binaryOp .Mod) (rI (fun _ j=>0<j) fun i j=>.int (i % j)):=opI fun i j _ _ _ _ _ hc q=>by
 have h1:(0:Int)<j:=hc
 exact mod_int' (by omega) (by rw [Int.fmod_eq_emod_of_nonneg i (by omega)]; exact q)
theorem op_pow:OpR X (binaryOp .Pow) (rI CPow fun i j=>.int (i ^ j.toNat)):=opI fun _ _ _ _ _ _ _ hc q=>pow_int_small hc.1 hc.2.1 hc.2.2 q
theorem op_shr:OpR X (binaryOp .RShift) (rI (fun _ j=>0≤j) fun i j=>.int (i / 2 ^ j.toNat)):=opI fun i j _ _ _ _ _ hc q =>
 rshift_int hc (by rw [Int.fdiv_eq_ediv_of_nonneg i (two_pow_nn _)]; exact q)
theorem op_and:OpR X (binaryOp .BitAnd) (rI0 fun i j=>.int (Builtin.bitAnd i j)):=opI0 fun _ _ _ _ _ _ _ q=>and_int q
theorem op_or:OpR X (binaryOp .BitOr) (rI0 fun i j=>.int (Builtin.bitOr i j)):=opI0 fun _ _ _ _ _ _ _ q=>or_int q
theorem op_xor:OpR X (binaryOp .BitXor) (rI0 fun i j=>.int (Builtin.bitXor i j)):=opI0 fun _ _ _ _ _ _ _ q=>xor_int q
theorem unI {f:Value→Sem Value} {g:Int→Int}
  (rule:∀ (i:Int) (t:Tok) (s:Shared) (Q:Value→Shared→Prop) (E:Value→Shared→Prop),Q (.int (g i) s.toks) { s with toks:=s.toks+1 }→wpAny (model X.prog X.w) X.A (f (.int i t)) Q E s) :
  UnR X f (rU fun i=>.int (g i)):=by
 intro pins s σ H x v Q I rx h
 obtain ⟨i,rfl,q⟩:=h
 obtain ⟨t,rfl⟩:=rx
 exact rule i t s _ _ ⟨.int (g i),H,I.tok _,⟨_,rfl⟩,q⟩
theorem un_neg:UnR X (unaryOp .USub) (rU fun i=>.int (-i)):=unI fun _ _ _ _ _ q=>neg_int q
end
section
variable {X:Cx} {a b c:Expr} {ta tb tc:TE} {pos:Pos}
theorem fin_bl {pins:List (Addr × Obj)} {σ:St} {H:Hp} {s:Shared} {Q:VK} {k k':Bool} (I:Inv X pins σ H s) (q:Q (.bl k) H) (e:k=k'):EP X pins σ Q (.bool k') s:=by
 subst e
 exact ⟨.bl k,H,I,rfl,q⟩
theorem op_lt:OpR X (compareOp .Lt) (rI0 fun i j=>.bl (decide (i<j))):=opB0 fun _ _ _ _ _ _ _ q=>lt_int q
theorem op_le:OpR X (compareOp .LtE) (rI0 fun i j=>.bl (decide (i≤j))):=opB0 fun _ _ _ _ _ _ _ q=>le_int q
theorem op_gt:OpR X (compareOp .Gt) (rI0 fun i j=>.bl (decide (j<i))):=opB0 fun _ _ _ _ _ _ _ q=>gt_int q
theorem op_ge:OpR X (compareOp .GtE) (rI0 fun i j=>.bl (decide (j≤i))):=opB0 fun _ _ _ _ _ _ _ q=>ge_int q
theorem op_isN:OpR X (compareOp .Is) (fun x y H Q=>y=.non∧Q (.bl (decide (x=.non))) H):=by
 intro pins s σ H x y v u Q I rx ry h
 obtain ⟨rfl,q⟩:=h
 cases ry
 refine is_none_gen (fin_bl I q ?_)
 cases x <;> first
  | (cases rx; rfl)
  | (obtain ⟨t,rfl⟩:=rx; rfl)
theorem op_notN:OpR X (compareOp .IsNot) (fun x y H Q=>y=.non∧Q (.bl (!decide (x=.non))) H):=by
 intro pins s σ H x y v u Q I rx ry h
 obtain ⟨rfl,q⟩:=h
 cases ry
 refine isnot_none_gen (fin_bl I q ?_)
 cases x <;> first
  | (cases rx; rfl)
  | (obtain ⟨t,rfl⟩:=rx; rfl)
theorem nomark (b:Expr) {op:CmpOp} (h:op≠.In:=by decide) (h2:op≠.NotIn:=by decide):behindInMarks op b=false:=by
 have e1:(op == CmpOp.In)=false:=by cases op <;> first | rfl | exact absurd rfl h
 have e2:(op == CmpOp.NotIn)=false:=by cases op <;> first | rfl | exact absurd rfl h2
 cases b <;> simp [behindInMarks,e1,e2]
theorem pe_cmpR {op:CmpOp} {r:R2} (ho:OpR X (compareOp op) r) (ha:PE X a ta) (hb:PE X b tb) (hm:behindInMarks op b=false):PE X (.Compare a [op] [b] pos) (tOp r ta tb):=by
 intro pins s σ H Q I h
 exact wpAny_Compare1 (binT ha hb I h fun v u s2 x y H2 I2 rx ry q=>ho pins s2 σ H2 x y v u Q I2 rx ry q) hm
noncomputable def tTest (t:TE):TT:=fun σ H Q=>t σ H fun x H'=>∃ k,x=.bl k∧Q k H'
theorem pt_cmpR {op:CmpOp} {r:R2} (ho:OpR X (compareOp op) r) (ha:PE X a ta) (hb:PE X b tb) (hm:behindInMarks op b=false):PT X (.Compare a [op] [b] pos) (tTest (tOp r ta tb)):=by
 intro pins s σ H Q I h
 refine wpAny_isTrue_Compare1 (thn (ha pins s σ H _ I h) fun v s1 ⟨x,H1,I1,r1,q1⟩=>thn (hb pins s1 σ H1 _ I1 q1) fun u s2 ⟨y,H2,I2,r2,q2⟩ =>
  thn (ho pins s2 σ H2 x y v u _ I2 r1 r2 q2) fun c s3 ⟨z,H3,I3,r3,k,e,q3⟩ => ?_) hm
 subst e
 cases r3
 exact wpAny_truthy_bool ⟨H3,I3,q3⟩
noncomputable def tChain (r r':R2) (ta tb tc:TE):TE:=fun σ H Q=>ta σ H fun x H1=>tb σ H1 fun y H2=>r x y H2 fun z H3=>∃ k,z=.bl k ∧
 (if k=true then tc σ H3 fun w' H4=>r' y w' H4 Q else Q (.bl false) H3)
theorem pe_chain {op op':CmpOp} {r r':R2} (ho:OpR X (compareOp op) r) (ho':OpR X (compareOp op') r') (ha:PE X a ta) (hb:PE X b tb) (hc:PE X c tc)
  (hm:lastMarks [op,op'] [b,c]=false:=by with_unfolding_all rfl):PE X (.Compare a [op,op'] [b,c] pos) (tChain r r' ta tb tc):=by
 intro pins s σ H Q I h
 refine Compare_chain (thn (ha pins s σ H _ I h) fun v s1 ⟨x,H1,I1,r1,q1⟩=>chain_link (thn (hb pins s1 σ H1 _ I1 q1) fun u s2 ⟨y,H2,I2,r2,q2⟩ =>
  thn (ho pins s2 σ H2 x y v u _ I2 r1 r2 q2) fun d s3 ⟨z,H3,I3,r3,k,e,q3⟩ => ?_)) hm
 subst e
 cases r3
 refine wpAny_truthy_bool ?_
 cases k with
 | false=>exact ite_ff ⟨.bl false,H3,I3,rfl,q3⟩
 | true=>exact ite_tt (chain_last (thn (hc pins s3 σ H3 _ I3 q3) fun w' s4 ⟨z',H4,I4,r4,q4⟩=>ho' pins s4 σ H4 y z' u w' Q I4 r2 r4 q4))
theorem pt_chain {op op':CmpOp} {r r':R2} (ho:OpR X (compareOp op) r) (ho':OpR X (compareOp op') r') (ha:PE X a ta) (hb:PE X b tb) (hc:PE X c tc)
  (hm:lastMarks [op,op'] [b,c]=false:=by with_unfolding_all rfl):PT X (.Compare a [op,op'] [b,c] pos) (tTest (tChain r r' ta tb tc)):=by
 intro pins s σ H Q I h
 refine isTrue_chain (thn (ha pins s σ H _ I h) fun v s1 ⟨x,H1,I1,r1,q1⟩=>test_link (thn (hb pins s1 σ H1 _ I1 q1) fun u s2 ⟨y,H2,I2,r2,q2⟩ =>
  thn (ho pins s2 σ H2 x y v u _ I2 r1 r2 q2) fun d s3 ⟨z,H3,I3,r3,k,e,q3⟩ => ?_)) hm
 subst e
 cases r3
 refine wpAny_truthy_bool ?_
 cases k with
 | false =>
  obtain ⟨k',e',q'⟩:=q3
  cases e'
  exact ite_ff ⟨H3,I3,q'⟩
 | true =>
  refine ite_tt (test_last (thn (hc pins s3 σ H3 _ I3 q3) fun w' s4 ⟨z',H4,I4,r4,q4⟩=>thn (ho' pins s4 σ H4 y z' u w' _ I4 r2 r4 q4) fun d' s5 ⟨z2,H5,I5,r5,k2,e2,q5⟩ => ?_))
  subst e2
  cases r5
  exact wpAny_truthy_bool ⟨H5,I5,q5⟩
noncomputable def TruV (K:PySem.W.Frag) (x:V) (H:Hp) (k:Bool):Prop :=
 match x with
 | .non=>k=false
 | .bl b=>k=b
 | .int i=>k=(i != 0)
 | .str y=>y.length≤sizeLine∧k=((y.length:Int) != 0)
 | .byt y=>y.size≤sizeLine∧k=((y.size:Int) != 0)
 | .ref p=>(∃ xs,SqL K H p xs∧k = !xs.isEmpty)∨(∃ xs,SqT K H p xs∧k = !xs.isEmpty)∨∃ kvs,H p=some (.dK kvs)∧k = !kvs.isEmpty
 | _=>False
theorem isEmpty_kv {κ:Type} {kvs:List (κ × V)} {vs:List (κ × Value)} (r:KV kvs vs):(!vs.isEmpty) = !kvs.isEmpty:=by
 cases r <;> rfl
theorem isEmpty_of {xs:List V} {its:List Value} (r:Vals xs its):(!its.toArray.isEmpty) = !xs.isEmpty:=by
 cases r <;> simp
theorem line63:(sizeLine:Nat)<2 ^ 63:=by rw [sizeLine_eq]; decide
theorem tru_ok:TruR X (fun x H Q=>∃ k,TruV X.K x H k∧Q k H):=by
 intro pins s σ H x v Q I rx h
 obtain ⟨k,e,q⟩:=h
 have hl:=line63
 have hs:sizeLine=16777216:=sizeLine_eq
 cases x with
 | non =>
  cases rx
  have e':k=false:=e
  subst e'
  exact truthy_none ⟨H,I,q⟩
 | bl b =>
  cases rx
  have e':k=b:=e
  subst e'
  exact wpAny_truthy_bool ⟨H,I,q⟩
 | int i =>
  obtain ⟨t,rfl⟩:=rx
  have e':k=(i != 0):=e
  subst e'
  exact PySem.P.truthy_int ⟨H,I,q⟩
 | str y =>
  obtain ⟨t,rfl⟩:=rx
  obtain ⟨hy,e'⟩:y.length≤sizeLine∧k=((y.length:Int) != 0):=e
  subst e'
  exact PySem.P.truthy_str (by omega) ⟨H,I.tok _,q⟩
 | byt y =>
  obtain ⟨t,rfl⟩:=rx
  obtain ⟨hy,e'⟩:y.size≤sizeLine∧k=((y.size:Int) != 0):=e
  subst e'
  exact PySem.W.truthy_bytes (by omega) ⟨H,I.tok _,q⟩
 | ref p =>
  cases rx
  have e':(∃ xs,SqL X.K H p xs∧k = !xs.isEmpty)∨(∃ xs,SqT X.K H p xs∧k = !xs.isEmpty)∨∃ kvs,H p=some (.dK kvs)∧k = !kvs.isEmpty:=e
  rcases e' with ⟨xs,hx,e'⟩ | ⟨xs,hx,e'⟩ | ⟨kvs,hx,e'⟩
  ·subst e'
   obtain ⟨its,r,pl,hz⟩:=I.list hx
   have hlen:=r.length
   exact wpAny_truthy_list pl.isList (by simp only [List.size_toArray]; omega) ⟨H,I.tok _,by rw [isEmpty_of r]; exact q⟩
  ·subst e'
   obtain ⟨its,r,pl,hz⟩:=I.tuple hx
   have hlen:=r.length
   exact truthy_tuple pl (by simp only [List.size_toArray]; omega) ⟨H,I.tok _,by rw [isEmpty_of r]; exact q⟩
  ·subst e'
   obtain ⟨hz,hS,vs,r,m⟩:kvs.length≤sizeLine∧(p == sysModules)=false∧∃ vs,KV kvs vs∧s.heap.DictOf (mixKind X.prog X.w) p vs:=I.hok p _ hx
   have hlen:kvs.length=vs.length:=Paired.length r
   exact wpAny_truthy_dict hS m (by omega) ⟨H,I.tok _,by rw [isEmpty_kv r]; exact q⟩
 | _=>exact (show False from e).elim
theorem pt_truth (ha:PE X a ta) (he:∀ whole,isTrue a X.env whole=(do let v ← whole; standAt a.pos; holding [v] (truthy v))) :
  PT X a (fun σ H Q=>ta σ H fun x H'=>∃ k,TruV X.K x H' k∧Q k H'):=by
 intro pins s σ H Q I h
 exact isTrue_plain (thn (ha pins s σ H _ I h) fun v s1 ⟨x,H1,I1,r1,q1⟩=>tru_ok pins s1 σ H1 x v Q I1 r1 q1) (he _)
theorem vals1 {x:V} {us:List Value} (r:Vals [x] us):∃ u,us=[u]∧RelV x u:=by
 cases r with
 | cons r1 r2=>cases r2; exact ⟨_,rfl,r1⟩
theorem vals2 {x y:V} {us:List Value} (r:Vals [x,y] us):∃ u w',us=[u,w']∧RelV x u∧RelV y w':=by
 cases r with
 | cons r1 r2 =>
  cases r2 with
  | cons r3 r4=>cases r4; exact ⟨_,_,rfl,r1,r3⟩
theorem call_max2 (hc:X.calm=true):CallR X (.builtin "max") (fun xs H Q=>∃ i j,xs=[.int i,.int j]∧Q (.int (if j > i then j else i)) H):=by
 intro pins s σ H xs us Q I r h
 obtain ⟨i,j,rfl,q⟩:=h
 obtain ⟨u,w',rfl,⟨t,rfl⟩,⟨t',rfl⟩⟩:=vals2 r
 refine max_two_ints (I.ok.hd hc) fun h' tk k=>⟨_,H,I.kept k,?_,q⟩
 by_cases hj:j > i
 ·rw [if_pos hj,if_pos hj]; exact ⟨_,rfl⟩
 ·rw [if_neg hj,if_neg hj]; exact ⟨_,rfl⟩
noncomputable def LenV (K:PySem.W.Frag) (x:V) (H:Hp) (n:Nat):Prop :=
 match x with
 | .str y=>y.length≤sizeLine∧n=y.length
 | .byt y=>y.size≤sizeLine∧n=y.size
 | .ref p=>(∃ xs,SqL K H p xs∧n=xs.length)∨∃ xs,SqT K H p xs∧n=xs.length
 | _=>False
theorem call_len:CallR X (.builtin "len") (fun xs H Q=>∃ x n,xs=[x]∧LenV X.K x H n∧Q (.int n) H):=by
 intro pins s σ H xs us Q I r h
 obtain ⟨x,n,rfl,e,q⟩:=h
 obtain ⟨u,rfl,rx⟩:=vals1 r
 have hl:=line63
 have hs:sizeLine=16777216:=sizeLine_eq
 cases x with
 | str y =>
  obtain ⟨t,rfl⟩:=rx
  obtain ⟨hy,e'⟩:y.length≤sizeLine∧n=y.length:=e
  subst e'
  exact len_str (by omega) ⟨.int _,H,I.tok _,⟨_,rfl⟩,q⟩
 | byt y =>
  obtain ⟨t,rfl⟩:=rx
  obtain ⟨hy,e'⟩:y.size≤sizeLine∧n=y.size:=e
  subst e'
  exact PySem.W.len_bytes (by omega) ⟨.int _,H,I.tok _,⟨_,rfl⟩,q⟩
 | ref p =>
  cases rx
  have e':(∃ xs,SqL X.K H p xs∧n=xs.length)∨∃ xs,SqT X.K H p xs∧n=xs.length:=e
  rcases e' with ⟨xs,hx,e'⟩ | ⟨xs,hx,e'⟩
  ·subst e'
   obtain ⟨its,r',pl,hz⟩:=I.list hx
   have hlen:=r'.length
   exact Calls.call_len_list pl.isList (by simp only [List.size_toArray]; omega) ⟨.int xs.length,H,I.tok _,⟨_,by simp only [List.size_toArray]; rw [hlen]⟩,q⟩
  ·subst e'
   obtain ⟨its,r',pl,hz⟩:=I.tuple hx
   have hlen:=r'.length
   exact len_tuple pl (by simp only [List.size_toArray]; omega) ⟨.int xs.length,H,I.tok _,⟨_,by simp only [List.size_toArray]; rw [hlen]⟩,q⟩
 | _=>exact (show False from e).elim
end
end L2
namespace L2
open PySem PySem.Spec PyProof.Rows
structure ObjM (h:Heap) (x dx C:Addr) (mA:Str→Option Value):Prop where
 obj:h.get? x=some (PySem.W.instObj C dx)
 ns:h.Ns1 dx mA
 ne:dx≠x
theorem lookIn_ns {h:Heap} {dx:Addr} {mA:Str→Option Value} (n:h.Ns1 dx mA):∃ od,h.get? dx=some od∧∀ name,PySem.W.lookIn name od=some (mA name):=by
 obtain ⟨o,es,ep,ho,hd,hk,_,hm⟩:=n
 refine ⟨o,ho,fun name => ?_⟩
 have e:=hm name
 unfold nsFind findBy at e
 rw [← Array.find?_toList] at e
 unfold PySem.W.lookIn
 rw [hd]
 dsimp only
 split
 ·rename_i y q
  rw [q] at e
  exact congrArg some e
 ·rename_i q
  rw [q] at e
  have a:es.toList.any (·.refKey)=false:=by
   rw [List.any_eq_false]
   intro y hy
   obtain ⟨z,t,hkey⟩:=hk y (Array.mem_toList_iff.mp hy)
   simp [DictEntry.refKey,hkey]
  have a':¬ es.toList.any (·.refKey)=true:=by rw [a]; exact Bool.false_ne_true
  rw [if_neg a']
  exact congrArg some e
theorem ObjM.look {h:Heap} {x dx C:Addr} {mA:Str→Option Value} (I:ObjM h x dx C mA):∃ od,PySem.W.InstAt h x (PySem.W.instObj C dx) C (some od)∧∀ name,PySem.W.lookIn name od=some (mA name) :=
 let ⟨od,ho,hl⟩:=lookIn_ns I.ns
 ⟨od,⟨I.obj,rfl,rfl,ho⟩,hl⟩
section
variable {prog:Program} {w:World} {A:Around} {E:Value→Shared→Prop} {s:Shared} {K:PySem.W.Frag} {x dx C f:Addr} {mA:Str→Option Value} {name:Str} {v:Value}
end
theorem RelO.some_of {v:V} {o:Option Value} (r:RelO (some v) o):∃ u,o=some u∧RelV v u:=by
 cases o with
 | none=>exact (show False from r).elim
 | some u=>exact ⟨u,rfl,r⟩
section
variable {P:Program} {w:World} {H H':Hp} {h h':Heap} {a C dx:Addr} {fs fs':List (Str × V)}
theorem ins_get (hok:HOk P w H h) (e:H a=some (.ins C dx fs)):∃ mA,ObjM h a dx C mA∧(∀ f,RelO (fs.lookup f) (mA f))∧PySem.Within mA (fs.map (·.1))∧fs.length≤1000∧H dx=some (.own a):=by
 obtain ⟨d,z,ne,ob,mA,n,r,q⟩:=(show ObjOk P w H h a (.ins C dx fs) from hok a _ e)
 exact ⟨mA,⟨ob,n,ne⟩,r,q,z,d⟩
end
structure Cls (K:PySem.W.Frag) (C:Addr):Prop where
 pg:PySem.W.plainGet K C Str.empty=true
 hd:PySem.W.hasDictIn K C=true
 po:PySem.W.plainOver K C=true
 sa:PySem.W.findIn K (.ref C) "__setattr__" = some (some (.builtin "object.__setattr__"))
theorem Cls.get {K:PySem.W.Frag} {C:Addr} (c:Cls K C) (f:Str):PySem.W.plainGet K C f=true:=c.pg
noncomputable def NoAttr (K:PySem.W.Frag) (C:Addr) (f:Str):Prop:=PySem.W.findIn K (.ref C) f=some none
structure Meth (K:PySem.W.Frag) (C:Addr) (m:Str) (f:Addr):Prop where
 at_:PySem.W.findIn K (.ref C) m=some (some (.ref f))
 fn:PySem.W.isFn K (.ref f)=true
 kp:PySem.W.keepIn K (.ref f)=true
section
variable {X:Cx} {pins:List (Addr × Obj)} {σ:St} {H:Hp} {s:Shared} {a C dx:Addr} {fs:List (Str × V)} {f:Str} {v:V} {A:Around} {E:Value→Shared→Prop}
end
section
variable {X:Cx} {o e value:Expr} {f:Str} {pos pos' tpos:Pos} {ta tv:TE}
end
section
variable {X:Cx} {pins:List (Addr × Obj)} {σ:St} {H:Hp} {s:Shared} {A:Around} {E:Value→Shared→Prop} {Q:Value→Shared→Prop} {c:Value} {b:Bool}
inductive TyOf (K:PySem.W.Frag) (H:Hp):V→Value→Prop where
 | non:TyOf K H .non (.type "NoneType")
 | bl (x:Bool):TyOf K H (.bl x) (.type "bool")
 | int (i:Int):TyOf K H (.int i) (.type "int")
 | str (x:Str):TyOf K H (.str x) (.type "str")
 | flt (x:UInt64):TyOf K H (.flt x) (.type "float")
 | lst {a:Addr} {xs:List V} (e:H a=some (.lst xs)):TyOf K H (.ref a) (.type "list")
 | frz {a:Addr} {o:Obj} {xs:List V} (e:H a=some (.frz o (.lst xs))):TyOf K H (.ref a) (.type "list")
 | tup {a:Addr} {xs:List V} (e:H a=some (.tup xs)):TyOf K H (.ref a) (.type "tuple")
 | dK {a:Addr} {kvs:List (Key × V)} (e:H a=some (.dK kvs)):TyOf K H (.ref a) (.type "dict")
 | dT {a:Addr} {kvs:List (List Key × V)} (e:H a=some (.dT kvs)):TyOf K H (.ref a) (.type "dict")
 | ins {a C dx:Addr} {fs:List (Str × V)} (e:H a=some (.ins C dx fs)) (cl:Cls K C) (ha:PySem.W.findIn K (.ref C) "__class__" = some (some (.builtin "object.__class__")))
   (hn:PySem.W.specialIn K (.builtin "object.__class__") "__get__" = some (some (.builtin "getset_descriptor.__get__"))) (htk:PySem.W.takesIn K (.builtin "object.__class__")=some true)
   (hm:PySem.W.mroIn K C (.type "object")=some true):TyOf K H (.ref a) (.ref C)
theorem isinst_ok {x:V} {u t:Value} (I:Inv X pins σ H s) (rx:RelV x u) (ty:TyOf X.K H x t) (e:PySem.W.kitOne X.K t c=some b) (h:∀ tk,Q (.bool b) { s with toks:=tk }) :
  wpAny (model X.prog X.w) A (call (.builtin "isinstance") [u,c]) Q E s:=by
 cases ty with
 | non=>cases (show u=Value.none from rx); exact PySem.W.kia_one PySem.W.kitx_none I.kIn True.intro e (fun z=>nomatch z) h
 | bl y=>cases (show u=Value.bool y from rx); exact PySem.W.kia_one PySem.W.kitx_bool I.kIn True.intro e (fun z=>nomatch z) h
 | int i=>obtain ⟨t,q⟩:=(show ∃ t,u=Value.int i t from rx); cases q; exact PySem.W.kia_one PySem.W.kitx_int I.kIn True.intro e (fun z=>nomatch z) h
 | str y=>obtain ⟨t,q⟩:=(show ∃ t,u=Value.str y t from rx); cases q; exact PySem.W.kia_one PySem.W.kitx_str I.kIn True.intro e (fun z=>nomatch z) h
 | flt y=>obtain ⟨t,q⟩:=(show ∃ t,u=Value.float y t from rx); cases q; exact PySem.W.kia_one PySem.W.kitx_float I.kIn True.intro e (fun z=>nomatch z) h
 | @lst a xs ea =>
  cases (show u=Value.ref a from rx)
  obtain ⟨_,_,n,_,h1⟩:=(show ObjOk X.prog X.w H s.heap a (.lst xs) from I.hok a _ ea)
  exact PySem.W.kia_one PySem.W.kitx_list I.kIn ⟨_,h1,rfl⟩ e (fun z=>nomatch z) h
 | @frz a ob xs ea =>
  cases (show u=Value.ref a from rx)
  obtain ⟨_,_,_,n,_,h1⟩:=(show ObjOk X.prog X.w H s.heap a (.frz ob (.lst xs)) from I.hok a _ ea)
  exact PySem.W.kia_one PySem.W.kitx_list I.kIn ⟨_,h1,rfl⟩ e (fun z=>nomatch z) h
 | @tup a xs ea =>
  cases (show u=Value.ref a from rx)
  obtain ⟨_,_,_,p⟩:=(show ObjOk X.prog X.w H s.heap a (.tup xs) from I.hok a _ ea)
  obtain ⟨o,h1,h2,_⟩:=p
  exact PySem.W.kia_one PySem.W.kitx_tuple I.kIn ⟨o,h1,h2⟩ e (fun z=>nomatch z) h
 | @dK a kvs ea =>
  cases (show u=Value.ref a from rx)
  obtain ⟨_,_,vs,_,p⟩:=(show ObjOk X.prog X.w H s.heap a (.dK kvs) from I.hok a _ ea)
  obtain ⟨o,es,ep,h1,h2,_⟩:=p
  exact PySem.W.kia_one PySem.W.kitx_dict I.kIn ⟨o,h1,h2.1⟩ e (fun z=>nomatch z) h
 | @dT a kvs ea =>
  cases (show u=Value.ref a from rx)
  obtain ⟨_,_,xs,_,o,es,ep,h1,h2,_⟩:=(show ObjOk X.prog X.w H s.heap a (.dT kvs) from I.hok a _ ea)
  exact PySem.W.kia_one PySem.W.kitx_dict I.kIn ⟨o,h1,h2.1⟩ e (fun z=>nomatch z) h
 | @ins a C dx fs ea cl ha hn htk hm =>
  cases (show u=Value.ref a from rx)
  obtain ⟨mA,O,_⟩:=ins_get I.hok ea
  obtain ⟨od,J,_⟩:=O.look
  exact PySem.W.kia_one (PySem.W.kitx_own (cl.get _) cl.hd ha hn htk hm) I.kIn J e (fun z=>nomatch z) h
end
end L2
namespace L2
open PySem PySem.Spec PyProof.Rows
structure Room (k:Nat) (A:Around):Prop where
 hd:A.handled=none
 dp:A.depth+3 * k+5<recursionLimit
 un:A.units+16 * k+200<cLine
theorem Room.mono {j k:Nat} {A:Around} (r:Room k A) (h:j≤k):Room j A:=⟨r.hd,by have:=r.dp; omega,by have:=r.un; omega⟩
theorem Room.deeper {k:Nat} {A:Around} (r:Room (k+1) A) (env:Env):Room k (A.deeper env) :=
 ⟨r.hd,by have:=r.dp; show A.depth+1+3 * k+5<_; omega,by have:=r.un; show A.units+3+16 * k+200<_; omega⟩
theorem Room.depth {k:Nat} {A:Around} (r:Room k A):A.depth<recursionLimit:=by have:=r.dp; omega
theorem Room.units {k:Nat} {A:Around} (r:Room k A):A.units+64<cLine:=by have:=r.un; omega
noncomputable def tNil:TA:=fun _ H Q=>Q [] H
noncomputable def tCons (ta:TE) (tr:TA):TA:=fun σ H Q=>ta σ H fun x H1=>tr σ H1 fun xs H2=>Q (x::xs) H2
section
variable {X:Cx} {e:Expr} {es:List Expr} {te:TE} {t:TA} {pos:Pos}
theorem pa_nil:PA X [] tNil:=fun _ _ _ _ H Q I h=>Calls.spliced_nil ⟨[],H,I,.nil,h⟩
theorem pa_cons (ha:PE X e te) (hr:PA X es t) (hs:starEach (e::es) X.env=(false,eval e X.env)::starEach es X.env:=by rfl):PA X (e::es) (tCons te t):=by
 intro pos pins s σ H Q I h
 rw [hs]
 show wpAny _ _ (spliced ((false,eval e X.env)::backTo pos (starEach es X.env))) _ _ s
 refine Calls.spliced_cons (thn (ha pins s σ H _ I h) fun u s1 ⟨x,H1,I1,r1,q1⟩ => ?_)
 exact thn (hr pos pins s1 σ H1 _ I1 q1) fun us s2 ⟨xs,H2,I2,r2,q2⟩=>⟨x::xs,H2,I2,.cons r1 r2,q2⟩
noncomputable def tTup (t:TA):TE:=fun σ H Q=>t σ H fun xs H1=>xs.length≤sizeLine∧∀ p,H1 p=none→Q (.ref p) (upd H1 p (.tup xs))
noncomputable def tLst (t:TA):TE:=fun σ H Q=>t σ H fun xs H1=>xs.length≤sizeLine∧∀ p,H1 p=none→Q (.ref p) (upd H1 p (.lst xs))
theorem pe_tup {x1} (h:PA X es t):PE X (.Tuple es x1 pos) (tTup t):=by
 intro pins s σ H Q I hq
 refine wpAny_Tuple_spliced (thn (h pos pins s σ H _ I hq) fun us s1 ⟨xs,H1,I1,r,z,q⟩=>⟨by rw [← r.length]; exact z,?_⟩)
 have hf:H1 s1.heap.objs.size=none:=I1.hok.fresh (Nat.le_refl _)
 refine ⟨.ref s1.heap.objs.size,upd H1 s1.heap.objs.size (.tup xs),I1.laid (t':=s1.toks) (fun b u e=>Heap.get?_push_of_some _ e) (Nat.le_refl _) ?_,rfl,q _ hf⟩
 exact ⟨z,us,r,⟨_,Heap.get?_push_size _ rfl,rfl,_,rfl⟩⟩
theorem pe_lst (h:PA X es t):PE X (.List es pos) (tLst t):=by
 intro pins s σ H Q I hq
 refine wpAny_List_spliced (thn (h pos pins s σ H _ I hq) fun us s1 ⟨xs,H1,I1,r,z,q⟩=>⟨by rw [← r.length]; exact z,?_⟩)
 have hf:H1 s1.heap.objs.size=none:=I1.hok.fresh (Nat.le_refl _)
 refine ⟨.ref s1.heap.objs.size,upd H1 s1.heap.objs.size (.lst xs),I1.laid (t':=s1.toks) (fun b u e=>Heap.get?_push_of_some _ e) (Nat.le_refl _) ?_,rfl,q _ hf⟩
 exact ⟨z,us,0,r,Heap.get?_push_size _ rfl⟩
end
noncomputable abbrev Sp:=List V→Hp→VK→XK→Prop
noncomputable abbrev CXT:=List Env→Hp→Shared→XK→Value→Shared→Prop
structure Env0 (P:Program) (w:World) (K:PySem.W.Frag) (mg:Str→Option Value) (base:Heap) (A:Around) (outer:List Env) (s:Shared) (H:Hp):Prop where
 frames:A.frames=some outer
 mod:Mod K mg base
 bs:∀ b o,base.get? b=some o→s.heap.get? b=some o∧H b=none
 bsz:base.objs.size≤s.heap.objs.size
 funs:s.heap.FunFrames base outer
 frf:∀ b∈frs outer,H b=none
 hok:HOk P w H s.heap
 bare:AllBare s.gens
noncomputable def CE (outer:List Env) (P:Program) (w:World) (H:Hp) (s:Shared) (Q:VK) (u:Value) (s':Shared):Prop :=
 ∃ v H',s'.os=s.os∧AllBare s'.gens∧Un (frs outer) [] H H' s.heap s'.heap∧HOk P w H' s'.heap∧RelV v u∧Q v H'
noncomputable def CR (CX:CXT) (outer:List Env) (P:Program) (w:World) (H:Hp) (s:Shared) (Q:VK) (E:XK) (r:Result) (s':Shared):Prop :=
 match r with
 | .ok (.ret u)=>CE outer P w H s Q u s'
 | .ok _=>False
 | .error e=>CX outer H s E e s'
structure FnOk (P:Program) (w:World) (K:PySem.W.Frag) (mg:Str→Option Value) (base:Heap) (CX:CXT) (k:Nat) (f:Addr) (fd:FuncData) (ps:List Str) (sp:Sp):Prop where
 len:∀ vs H Q E,sp vs H Q E→vs.length=ps.length
 run:∀ (A:Around) (outer:List Env) (s:Shared) (H:Hp) (args:Args) (us:List Value) (vs:List V) (Q:VK) (E:XK),Room k A→Env0 P w K mg base A outer s H→BindsTo s fd args (ps.zip us)→Vals vs us→sp vs H Q E →
  codeAny (model P w) A (.call (.ref f) args) (CR CX outer P w H s Q E) s
theorem FnOk.imp {P:Program} {w:World} {K:PySem.W.Frag} {mg:Str→Option Value} {base:Heap} {CX:CXT} {k:Nat} {f:Addr} {fd:FuncData} {ps:List Str} {sp sp':Sp} (F:FnOk P w K mg base CX k f fd ps sp)
  (h:∀ vs H Q E,sp' vs H Q E→sp vs H Q E):FnOk P w K mg base CX k f fd ps sp' :=
 ⟨fun vs H Q E q=>F.len vs H Q E (h _ _ _ _ q),fun A outer s H args us vs Q E hr he hb hv hs=>F.run A outer s H args us vs Q E hr he hb hv (h _ _ _ _ hs)⟩
section
variable {X:Cx} {pins:List (Addr × Obj)} {σ:St} {H:Hp} {s s':Shared}
theorem Inv.env0 (I:Inv X pins σ H s):Env0 X.prog X.w X.K X.mg X.base X.A X.stack s H :=
 ⟨I.ok.frames,I.ok.mod,I.bs,Nat.le_trans I.ok.bsz I.sz,I.stack,I.stkFree,I.hok,I.bare⟩
theorem Inv.after {Q:VK} {u:Value} (I:Inv X pins σ H s) (h:CE X.stack X.prog X.w H s Q u s'):EP X pins σ Q u s':=by
 obtain ⟨v,H',os,bare,un,hok,r,q⟩:=h
 obtain ⟨hh,g,d,t,os'⟩:=s'
 obtain rfl:os'=s.os:=os
 exact ⟨v,H',I.call (h':=hh) (g':=g) (d':=d) (t':=t) (ch:=[]) un hok bare (fun b z=>absurd z (by simp)),r,q⟩
end
noncomputable def tCall (sp:Sp) (dvs:List V) (E:XK) (t:TA):TE:=fun σ H Q=>t σ H fun vs H1=>sp (vs++dvs) H1 Q E
noncomputable def Binds (K:PySem.W.Frag) (fd:FuncData) (ps:List Str) (ds:List Value):Prop :=
 ∀ (s:Shared) (us:List Value),K.In s.heap→(us++ds).length=ps.length→BindsTo s fd ⟨us,[]⟩ (ps.zip (us++ds))
theorem Binds.all {K:PySem.W.Frag} {fd:FuncData} {ps:List Str} (h:∀ us:List Value,us.length=ps.length→bindArgs fd ⟨us,[]⟩=pure (ps.zip us)):Binds K fd ps []:=fun s us _ hl=>by
 rw [List.append_nil] at hl ⊢
 exact .of_eq (h us hl)
noncomputable def Passes (CX:CXT) (X:Cx) (E:XK):Prop:=∀ (pins:List (Addr × Obj)) (σ:St) (H:Hp) (s:Shared) (e:Value) (s':Shared),Inv X pins σ H s→CX X.stack H s E e s'→X.xe e s'
section
variable {X:Cx} {CX:CXT} {k:Nat} {f C:Addr} {fd:FuncData} {ps:List Str} {sp:Sp} {dvs:List V} {ds:List Value} {E:XK} {x m:Str} {p pos apos:Pos} {e o:Expr} {es:List Expr} {ta:TE} {t:TA}
theorem run_fn {pins:List (Addr × Obj)} {σ:St} {H:Hp} {s:Shared} {Q:VK} {us:List Value} {vs:List V} (F:FnOk X.prog X.w X.K X.mg X.base CX k f fd ps sp) (hr:Room k X.A) (hb:Binds X.K fd ps ds) (hd:Vals dvs ds) (hx:Passes CX X E)
  (I:Inv X pins σ H s) (r:Vals vs us) (h:sp (vs++dvs) H Q E):wpAny (model X.prog X.w) X.A (call (.ref f) us) (EP X pins σ Q) X.xe s:=by
 have r2:Vals (vs++dvs) (us++ds):=r.append hd
 have hl:(us++ds).length=ps.length:=by rw [← r2.length]; exact F.len _ _ _ _ h
 refine wpAny_call (codeAny_mono (F.run X.A X.stack s H ⟨us,[]⟩ (us++ds) (vs++dvs) Q E hr I.env0 (hb s us I.kIn hl) r2 h) fun r s' hq => ?_)
 cases r with
 | error e=>exact hx pins σ H s e s' I hq
 | ok fl =>
  cases fl with
  | ret u=>exact I.after hq
  | next=>exact False.elim hq
  | brk=>exact False.elim hq
  | cont=>exact False.elim hq
theorem pe_call (F:FnOk X.prog X.w X.K X.mg X.base CX k f fd ps sp) (hr:Room k X.A) (hg:Gl X x) (hm:X.mg x=some (.ref f)) (hk:PySem.W.keepIn X.K (.ref f)=true) (hb:Binds X.K fd ps ds) (hd:Vals dvs ds) (hx:Passes CX X E)
  (ha:PA X (e::es) t) (hdb:(x == ("__debug__" : Str))=false:=by decide) (he:starEach (e::es) X.env=(false,eval e X.env)::starEach es X.env:=by rfl) (hpl:(backTo pos (starEach es X.env)).any (·.1)=false:=by rfl) :
  PE X (.Call (.Name x p) (e::es) [] pos) (tCall sp dvs E t):=by
 intro pins s σ H Q I h
 refine wpAny_Call_Name_kw (ld_glob I hg hm ?_ hdb)
 refine PySem.W.callWith_K (h₀:=X.base) I.ok.mod.kin hk (thn (ha pos pins s σ H _ I h) fun us s1 ⟨vs,H1,I1,r,q⟩=>⟨I1.kIn,?_⟩) he hpl
 exact run_fn F hr hb hd hx I1 r q
structure Mk (K:PySem.W.Frag) (C f:Addr):Prop where
 makes:PySem.W.makesIn K C=true
 init:PySem.W.findIn K (.ref C) "__init__" = some (some (.ref f))
 fn:PySem.W.isFn K (.ref f)=true
 kp:PySem.W.keepIn K (.ref C)=true
end
section
variable {X:Cx} {CX:CXT} {k:Nat} {f C:Addr} {fd:FuncData} {ps ks:List Str} {sp:Sp} {E:XK} {x m:Str} {p pos apos kpos:Pos} {e o:Expr} {es:List Expr} {kws:List Keyword} {te ta:TE} {t tk:TA} {nm:Option Str}
variable {g:List Value→List Value→List Value} {gV:List V→List V→List V}
end
structure FnScope (N P:List Str) (sc:Scope):Prop where
 kind:sc.kind=.function
 co:sc.isCoroutine=false
 gen:sc.isGenerator=false
 nd:N.Nodup
 pre:N.take P.length=P
 par:∀ x∈P,sc.names.lookup x=some .local∨sc.names.lookup x=some .cell
 nofree:∀ y∈sc.names,y.2≠.free
theorem bindL_out {kindOf:Str→Option NameKind} {x:Str}:∀ {binds:List (Str × Value)} {m:Str→Option Value},(∀ v,(x,v) ∉ binds)→bindL kindOf binds m x=m x
 | [],_,_=>rfl
 | (n,v)::r,m,h=>by
  unfold bindL
  rw [bindL_out fun w hw=>h w (List.mem_cons_of_mem _ hw)]
  split
  ·have:x≠n:=by rintro rfl; exact h v List.mem_cons_self
   simp [this]
  ·rfl
theorem bindC_out {kindOf:Str→Option NameKind} {x:Str}:∀ {binds:List (Str × Value)} {m:Str→Option Value},(∀ v,(x,v) ∉ binds)→bindC kindOf binds m x=m x
 | [],_,_=>rfl
 | (n,v)::r,m,h=>by
  unfold bindC
  rw [bindC_out fun w hw=>h w (List.mem_cons_of_mem _ hw)]
  split
  ·rfl
  ·have:x≠n:=by rintro rfl; exact h v List.mem_cons_self
   simp [this]
theorem bindL_get {kindOf:Str→Option NameKind} {x:Str} {v:Value}:∀ {P:List Str} {vs:List Value} {i:Nat} {m:Str→Option Value},P.Nodup→P[i]?=some x→vs[i]?=some v→kindOf x=some .local →
  bindL kindOf (P.zip vs) m x=some v
 | [],_,_,_,_,h,_,_=>by simp at h
 | _::_,[],_,_,_,_,h,_=>by simp at h
 | p::P,w::vs,0,m,nd,h1,h2,hk=>by
  simp at h1 h2; subst h1; subst h2
  show bindL kindOf ((p,w)::P.zip vs) m p=_
  unfold bindL
  rw [bindL_out fun v hv=>(List.nodup_cons.mp nd).1 (List.of_mem_zip hv).1,if_pos hk]
  simp
 | p::P,w::vs,i+1,m,nd,h1,h2,hk=>by
  show bindL kindOf ((p,w)::P.zip vs) m x=_
  unfold bindL
  exact bindL_get (i:=i) (List.nodup_cons.mp nd).2 (by simpa using h1) (by simpa using h2) hk
theorem bindC_get {kindOf:Str→Option NameKind} {x:Str} {v:Value}:∀ {P:List Str} {vs:List Value} {i:Nat} {m:Str→Option Value},P.Nodup→P[i]?=some x→vs[i]?=some v→kindOf x≠some .local →
  bindC kindOf (P.zip vs) m x=some v
 | [],_,_,_,_,h,_,_=>by simp at h
 | _::_,[],_,_,_,_,h,_=>by simp at h
 | p::P,w::vs,0,m,nd,h1,h2,hk=>by
  simp at h1 h2; subst h1; subst h2
  show bindC kindOf ((p,w)::P.zip vs) m p=_
  unfold bindC
  rw [bindC_out fun v hv=>(List.nodup_cons.mp nd).1 (List.of_mem_zip hv).1,if_neg hk]
  simp
 | p::P,w::vs,i+1,m,nd,h1,h2,hk=>by
  show bindC kindOf ((p,w)::P.zip vs) m x=_
  unfold bindC
  exact bindC_get (i:=i) (List.nodup_cons.mp nd).2 (by simpa using h1) (by simpa using h2) hk
noncomputable def start (N:List Str) (vs:List V):St:=vs.map some++List.replicate (N.length - vs.length) none
noncomputable def cxOf (CX:CXT) (P:Program) (w:World) (K:PySem.W.Frag) (mg:Str→Option Value) (base:Heap) (N:List Str) (qual:Str) (scope:Scope) (f:Addr) (cd:Value) (A:Around) (outer:List Env) (s:Shared) (H:Hp) (E:XK):Cx where
 prog:=P
 w:=w
 K:=K
 mg:=mg
 base:=base
 A:=A.deeper (envOfC qual scope s.heap.objs.size f cd)
 N:=N
 s₀:=s
 H₀:=H
 env:=envOfC qual scope s.heap.objs.size f cd
 outer:=outer
 stack:=envOfC qual scope s.heap.objs.size f cd::outer
 ex:=[]
 calm:=true
 fn:=fun _=>true
 pn:=[]
 xe:=fun e s'=>wpAny (model P w) (A.deeper (envOfC qual scope s.heap.objs.size f cd)) (leaving (envOfC qual scope s.heap.objs.size f cd) e) (fun _ s''=>CX outer H s E e s'') (fun e' s''=>CX outer H s E e' s'') s'
theorem cell_has {sc:Scope} {n:Nat} {x:Str} (h:sc.names.lookup x=some .cell):∃ c,(cellsFrom n sc.names []).lookup x=some c:=by
 have q:=PySem.W.cellsFrom_some sc.names n [] (.inl h)
 exact Option.isSome_iff_exists.mp q
theorem inv_start {CX:CXT} {P:Program} {w:World} {K:PySem.W.Frag} {mg:Str→Option Value} {base:Heap} {N ps:List Str} {qual:Str} {scope:Scope} {f:Addr} {cd:Value} {A:Around} {outer:List Env} {s s1:Shared} {H:Hp} {E:XK} {us:List Value} {vs:List V}
  (S:FnScope N ps scope) (hd:A.handled=none) (e0:Env0 P w K mg base A outer s H) (hl:vs.length=ps.length) (r:Vals vs us)
  (x:InCallC s s.heap.objs.size (bindL (envOfC qual scope s.heap.objs.size f cd).kindOf (ps.zip us) fun _=>none) (cellsFrom (s.heap.objs.size+1) scope.names []) (bindC (envOfC qual scope s.heap.objs.size f cd).kindOf (ps.zip us) fun _=>none) s1) :
  Inv (cxOf CX P w K mg base N qual scope f cd A outer s H E) [] (start N vs) H s1:=by
 have hpl:ps.length≤N.length:=by have:=congrArg List.length S.pre; rw [List.length_take] at this; omega
 obtain ⟨h1,tk,rfl,hk⟩:=x.done
 have noA:∀ b:Addr,b ∉ (cxOf CX P w K mg base N qual scope f cd A outer s H E).ex:=fun b z=>absurd (show b∈([]:List Addr) from z) (by simp)
 refine ⟨⟨e0.mod,S.kind,rfl,rfl,Nat.le_refl _,fun y z c h1 h2 => ?_,fun y hy => ?_,fun y c _ h => ?_,fun _=>hd,Around.frames_deeper e0.frames,.inr ⟨rfl,rfl⟩,fun b z=>absurd z (noA b),e0.bs,e0.bsz,fun b _ _=>noA b,fun b z=>absurd z (noA b),e0.funs,e0.frf⟩,
  rfl,e0.bare,Un.kept hk,⟨_,x.toInCall.ns,fun i y v h1 h2 h3 => ?_⟩,fun y c h=>⟨_,x.cell y c h⟩,e0.hok.fresh (Nat.le_refl _),fun y c h => ?_,fun p hp=>absurd (show p∈([]:List (Addr × Obj)) from hp) (by simp),e0.hok.kept hk,?_⟩
 ·exact name_of_addr x.apart (PySem.mem_of_lookup h1) (PySem.mem_of_lookup h2)
 ·have hy:scope.names.lookup y=some .cell∨scope.names.lookup y=some .free:=hy
  rcases hy with hy | hy
  ·exact cell_has hy
  ·exact absurd rfl (S.nofree _ (PySem.mem_of_lookup hy))
 ·exact Nat.le_of_lt (x.above y c (PySem.mem_of_lookup h))
 ·have hi:i<vs.length:=by
   unfold start at h2
   by_cases hi:i<vs.length
   ·exact hi
   ·rw [List.getElem?_append_right (by simpa using hi)] at h2
    rw [List.getElem?_replicate] at h2
    split at h2 <;> cases h2
  have ha:vs[i]?=some v:=by
   unfold start at h2
   rw [List.getElem?_append_left (by simpa using hi),List.getElem?_map] at h2
   cases e:vs[i]? with
   | none=>rw [e] at h2; cases h2
   | some a=>rw [e] at h2; cases h2; rfl
  obtain ⟨u,hu,rv⟩:=r.get ha
  have hp:ps[i]?=some y:=by
   rw [← S.pre,List.getElem?_take_of_lt (by omega)]; exact h1
  have ndP:ps.Nodup:=by rw [← S.pre]; exact S.nd.sublist (List.take_sublist _ _)
  refine ⟨u,rv,?_⟩
  rcases S.par y (List.mem_of_getElem? hp) with k | k
  ·exact .inl ⟨k,bindL_get ndP hp hu k⟩
  ·obtain ⟨c,e⟩:=cell_has (n:=s.heap.objs.size+1) k
   refine .inr ⟨.inl k,c,e,?_⟩
   have q:=x.cell y c e
   rw [bindC_get ndP hp hu (by show scope.names.lookup y≠_; rw [k]; decide)] at q
   exact q
 ·exact e0.hok.fresh (Nat.le_of_lt (x.above y c (PySem.mem_of_lookup h)))
 ·unfold start
  show _=N.length
  rw [List.length_append,List.length_map,List.length_replicate]
  omega
theorem fn_of {CX:CXT} {P:Program} {w:World} {K:PySem.W.Frag} {mg:Str→Option Value} {base:Heap} {k:Nat} {f:Addr} {name qual:Str} {params:Arguments} {body:List Stmt} {scope:Scope} {dV kV doc pm cdv ct oc:Value} {an od:Option Addr}
  {osl:Array (Option Value)} {N ps:List Str} {sp:Sp} (lk:K.lookup f=some ⟨oc,od,.func (PySem.W.fnOf name qual params body scope dV kV doc pm an cdv ct),osl⟩) (hcd:PySem.W.codeIn K cdv qual=true) (S:FnScope N ps scope)
  (len:∀ vs H Q E,sp vs H Q E→vs.length=ps.length)
  (hbody:∀ (A:Around) (outer:List Env) (s:Shared) (H:Hp) (vs:List V) (Q:VK) (E:XK),Room k (A.deeper (envOfC qual scope s.heap.objs.size f cdv))→sp vs H Q E →
   ∃ t,PSs (cxOf CX P w K mg base N qual scope f cdv A outer s H E) body t∧t { nx:=fun _ H'=>Q .non H',rt:=Q } (start N vs) H) :
  FnOk P w K mg base CX (k+1) f (PySem.W.fnOf name qual params body scope dV kV doc pm an cdv ct) ps sp:=by
 refine ⟨len,fun A outer s H args us vs Q E hr e0 hb r hsp => ?_⟩
 have hl:=len _ _ _ _ hsp
 have KX:K.In s.heap:=e0.mod.kin.keeps fun b o e=>(e0.bs b o e).1
 have lim:s.heap.NoLimit:=e0.mod.nolimit.keeps fun b o e=>(e0.bs b o e).1
 have hkind:∀ y∈ps.zip us,scope.names.lookup y.1=some .local∨(scope.names.lookup y.1=some .cell∧((cellsFrom (s.heap.objs.size+1) scope.names []).lookup y.1).isSome=true):=fun ⟨n,v⟩ hy=>by
  rcases S.par n (List.of_mem_zip hy).1 with q | q
  ·exact .inl q
  ·exact .inr ⟨q,PySem.W.cellsFrom_some _ _ _ (.inl q)⟩
 refine codeAny_call_function hr.depth (KX _ _ lk) rfl S.co S.gen rfl (PySem.W.codeRec_of KX hcd) (hb _ _ _ _ ?_)
 refine wpAny_newFunctionEnv_cells S.kind hkind fun env he s1 x => ?_
 subst he
 refine ⟨lim.keeps x.toInCall.keep,codeAny_func ?_⟩
 obtain ⟨t,ht,hq⟩:=hbody A outer s H vs Q E (hr.deeper _) hsp
 have I:Inv (cxOf CX P w K mg base N qual scope f cdv A outer s H E) [] (start N vs) H s1:=inv_start S hr.hd e0 hl r x
 refine wpAny_mono (ht [] s1 (start N vs) H _ I hq) (fun fl s' hs => ?_) fun e s' hs=>hs
 have fin:∀ {σ':St} {H':Hp} {v:V} {u:Value},Inv (cxOf CX P w K mg base N qual scope f cdv A outer s H E) [] σ' H' s'→RelV v u→Q v H'→CE outer P w H s Q u s' :=
  fun {σ' H' v u} J rv q=>⟨v,H',J.os,J.bare,J.base,J.hok,rv,q⟩
 cases fl with
 | ret u =>
  obtain ⟨v,σ',H',J,rv,q⟩:=hs
  exact fin J rv q
 | next =>
  obtain ⟨σ',H',J,q⟩:=hs
  exact fin (v:=V.non) (u:=Value.none) J rfl q
 | brk =>
  obtain ⟨_,_,_,q⟩:=hs
  exact False.elim q
 | cont =>
  obtain ⟨_,_,_,q⟩:=hs
  exact False.elim q
end L2
namespace L2
open PySem PySem.Spec PyProof.Rows
section
variable {X:Cx} {x:Str} {p pos:Pos} {e:Expr} {es:List Expr} {t:TA} {id T:String} {r:List V→Hp→VK→Prop}
noncomputable def tCB (r:List V→Hp→VK→Prop) (t:TA):TE:=fun σ H Q=>t σ H fun vs H1=>r vs H1 Q
theorem pe_callB (hc:CallR X (.builtin id) r) (hg:Gl X x) (hm:X.mg x=none) (hv:bootBuiltins x=some (.builtin id)) (ha:PA X (e::es) t) (hn:x ≠ "__name__" := by decide) (hdb:(x == ("__debug__" : Str))=false:=by decide)
  (he:starEach (e::es) X.env=(false,eval e X.env)::starEach es X.env:=by rfl) (hpl:(backTo pos (starEach es X.env)).any (·.1)=false:=by rfl):PE X (.Call (.Name x p) (e::es) [] pos) (tCB r t):=by
 intro pins s σ H Q I h
 refine wpAny_Call_Name_kw (ld_blt I hg hm hv ?_ hn hdb)
 exact PyProof.Rows.callWith_builtin1 (thn (ha pos pins s σ H _ I h) fun us s1 ⟨vs,H1,I1,r1,q1⟩=>hc pins s1 σ H1 vs us Q I1 r1 q1) he hpl
theorem pe_callTy (hc:CallR X (.type T) r) (hg:Gl X x) (hm:X.mg x=none) (hv:bootBuiltins x=some (.type T)) (ha:PA X (e::es) t) (hn:x ≠ "__name__" := by decide) (hdb:(x == ("__debug__" : Str))=false:=by decide)
  (he:starEach (e::es) X.env=(false,eval e X.env)::starEach es X.env:=by rfl) (hpl:(backTo pos (starEach es X.env)).any (·.1)=false:=by rfl):PE X (.Call (.Name x p) (e::es) [] pos) (tCB r t):=by
 intro pins s σ H Q I h
 refine wpAny_Call_Name_kw (ld_blt I hg hm hv ?_ hn hdb)
 exact PyProof.Rows.callWith_type1 (thn (ha pos pins s σ H _ I h) fun us s1 ⟨vs,H1,I1,r1,q1⟩=>hc pins s1 σ H1 vs us Q I1 r1 q1) he hpl
end
end L2
namespace HT
open PySem PyProof.Rows
section
open PySem.SeqAt
open PySem.AutoSeq1 (wpAny_loadPart')
open PySem.MeetsSeq PySem.MeetsSeq2 PySem.MeetsSeq3
end
section
variable {prog:Program} {w:World} {A:Around} {E:Value→Shared→Prop} {s:Shared}
theorem cat_tup {t b:Addr} {vs ws:List Value} {Q:Value→Shared→Prop} (ht:IsTup s.heap t vs.toArray) (hb:IsTup s.heap b ws.toArray) (hv:vs≠[])
  (h1:ws=[]→Q (.ref t) s) (h2:ws≠[]→Q (.ref s.heap.objs.size) { s with heap:=s.heap.push { cls:=.type "tuple",data:=.seq (vs++ws).toArray } })
  (hsz:vs.length+ws.length≤sizeLine):wpAny (model prog w) A (binaryOp .Add (.ref t) (.ref b)) Q E s:=by
 obtain ⟨⟨cls,dd,data,sl⟩,ho,hc,n,hd⟩:=id ht
 obtain ⟨⟨cls2,dd2,data2,sl2⟩,ho2,hc2,n2,hd2⟩:=id hb
 simp only at hc hd hc2 hd2
 subst hc hd hc2 hd2
 have e:vs.toArray++ws.toArray=(vs++ws).toArray:=by simp
 by_cases hw:ws=[]
 ·exact concat_meets ⟨_,ho,rfl⟩ ⟨_,ho2,rfl⟩ noFill_tuple_add seq_tuple_add PySem.F.slot_tuple_add PySem.F.entry_tuple_add (PySem.F.args_tuple_add_2 _ _)
   (tuple_addW1 t b vs.toArray ws.toArray n n2 dd dd2 sl sl2 (by simpa using hv) (by simp [hw])) ⟨ho,ho2,h1 hw⟩
 ·refine concat_meets ⟨_,ho,rfl⟩ ⟨_,ho2,rfl⟩ noFill_tuple_add seq_tuple_add PySem.F.slot_tuple_add PySem.F.entry_tuple_add (PySem.F.args_tuple_add_2 _ _)
   (tuple_addW2 t b vs.toArray ws.toArray n n2 dd dd2 sl sl2 (by simpa using hv) (by simpa using hw) (by rw [List.size_toArray,List.size_toArray]; exact hsz)) ⟨ho,ho2,?_⟩
  rw [e]
  exact h2 hw
noncomputable def sIx (n d:Nat):Option Int→Nat
 | none=>d
 | some v=>if v<0 then (v+(n:Int)).toNat else min v.toNat n
theorem sIx_le (n d:Nat) (hd:d≤n) (o:Option Int):sIx n d o≤n:=by
 cases o with
 | none=>exact hd
 | some v =>
  show (if v<0 then (v+(n:Int)).toNat else min v.toNat n)≤n
  by_cases hv:v<0
  ·rw [if_pos hv]; omega
  ·rw [if_neg hv]; exact Nat.min_le_right _ _
theorem clip_eq (v:Int) (n d:Nat):(if v<0 then max (v+(n:Int)) 0 else min v (n:Int))=((sIx n d (some v):Nat):Int):=by
 show (if v<0 then max (v+(n:Int)) 0 else min v (n:Int))=(((if v<0 then (v+(n:Int)).toNat else min v.toNat n):Nat):Int)
 by_cases hv:v<0
 ·simp only [if_pos hv]; omega
 ·simp only [if_neg hv]; omega
theorem adjust_gen (lo hi:Option Int) (n:Nat):Builtin.Slice.sliceAdjust lo hi 1 (n:Int)=(((sIx n 0 lo:Nat):Int),((sIx n n hi:Nat):Int)):=by
 have h1:¬ ((1:Int)<0):=by omega
 unfold Builtin.Slice.sliceAdjust
 simp only [h1,if_false]
 refine Prod.ext ?_ ?_
 ·cases lo with
  | none=>rfl
  | some v=>exact clip_eq v n 0
 ·cases hi with
  | none=>rfl
  | some v=>exact clip_eq v n n
theorem places_gen (i j:Nat):Builtin.Slice.slicePlaces (i:Int) (j:Int) 1=j - i:=by
 unfold Builtin.Slice.slicePlaces
 have h1:(1:Int) > 0:=by omega
 simp only [h1,if_true,Int.ediv_one]
 split <;> omega
theorem slicePart_ {v:Value} {o:Option Int} {Q:Option Int→Shared→Prop} (p:IsPart v o) (h:Q o s):wpAny (model prog w) A (Builtin.Slice.slicePartIndex v) Q E s:=by
 cases p with
 | none=>exact slicePart_none h
 | int i t=>exact slicePart_int h
theorem sliceApplied_gen {sl:Addr} {vl vu:Value} {lo hi:Option Int} {n:Nat} {Q:Int × Int × Nat→Shared→Prop} (hs:s.heap.IsSliceOf sl vl vu .none) (pl:IsPart vl lo) (pu:IsPart vu hi)
  (h:Q (((sIx n 0 lo:Nat):Int),1,sIx n n hi - sIx n 0 lo) s):wpAny (model prog w) A (Builtin.Slice.sliceApplied (.ref sl) (pure (n:Int))) Q E s:=by
 obtain ⟨os,hos,hcs,hds⟩:=id hs
 unfold Builtin.Slice.sliceApplied Builtin.Slice.sliceFields
 refine wpAny_bind (wpAny_bind (wpAny_field hos hds (x:=vl) rfl (wpAny_bind (wpAny_field hos hds (x:=vu) rfl (wpAny_bind (wpAny_field hos hds (x:=.none) rfl (wpAny_pure ?_)))))))
 refine wpAny_bind (slicePart_none ?_)
 show wpAny _ _ (if ((1:Int) == 0)=true then _ else _) _ _ s
 rw [if_neg (by decide)]
 refine wpAny_bind (slicePart_ pl (wpAny_bind (slicePart_ pu (wpAny_bind (wpAny_pure ?_)))))
 show wpAny _ _ (match Builtin.Slice.sliceAdjust lo hi 1 (n:Int) with | (lo,hi)=>pure (lo,(1:Int),Builtin.Slice.slicePlaces lo hi 1)) _ _ s
 rw [adjust_gen lo hi n]
 show wpAny _ _ (pure (((sIx n 0 lo:Nat):Int),(1:Int),Builtin.Slice.slicePlaces ((sIx n 0 lo:Nat):Int) ((sIx n n hi:Nat):Int) 1)) _ _ s
 rw [places_gen]
 exact wpAny_pure h
theorem pick_gen (xs:Array Value) (i k:Nat):((List.range k).filterMap fun (m:Nat)=>xs[((i:Int)+(m:Int) * 1).toNat]?).toArray=((xs.toList.drop i).take k).toArray:=by
 have e:(fun (m:Nat)=>xs[((i:Int)+(m:Int) * 1).toNat]?)=fun m=>xs[i+m]?:=by
  funext m
  have:((i:Int)+(m:Int) * 1).toNat=i+m:=by omega
  rw [this]
 rw [e]
 have:=pick_run xs i k
 rw [List.filterMap_map] at this
 have e2:((fun x=>xs[x]?) ∘ fun x=>i+x)=fun m=>xs[i+m]?:=rfl
 rw [e2] at this
 rw [this]
theorem getItem_tuple_cut {t sl:Addr} {items:Array Value} {vl vu:Value} {lo hi:Option Int} {Q:Value→Shared→Prop} (ht:IsTup s.heap t items) (hs:s.heap.IsSliceOf sl vl vu .none) (pl:IsPart vl lo) (pu:IsPart vu hi)
  (hw:¬ (sIx items.size 0 lo=0∧sIx items.size items.size hi=items.size))
  (h:Q (.ref s.heap.objs.size) { s with heap:=s.heap.push { cls:=.type "tuple",data:=.seq ((items.toList.drop (sIx items.size 0 lo)).take (sIx items.size items.size hi - sIx items.size 0 lo)).toArray } })
  (hsz:items.size≤sizeLine):wpAny (model prog w) A (getItem (.ref t) (.ref sl)) Q E s:=by
 have htake:sizeOk (.seq ((items.toList.drop (sIx items.size 0 lo)).take (sIx items.size items.size hi - sIx items.size 0 lo)).toArray):=by
  show ((items.toList.drop (sIx items.size 0 lo)).take (sIx items.size items.size hi - sIx items.size 0 lo)).toArray.size≤sizeLine
  rw [List.size_toArray,List.length_take,List.length_drop,Array.length_toList]
  omega
 have hj:sIx items.size items.size hi≤items.size:=sIx_le _ _ (Nat.le_refl _) hi
 obtain ⟨os,hos,hcs,hds⟩:=id hs
 have hTs:s.TypeIs (.ref sl) "slice" := ⟨os,hos,hcs⟩
 unfold getItem
 try with_reducible refine wpAny_holding ?_
 first | refine wpAny_bind (wpAny_pure ?_) | skip
 refine wpAny_bind (wpAny_sequenceKey ht.typeIs (by decide) ?_)
 refine wpAny_bind (wpAny_callSpecial?_slot (name:=Str.ofString "__getitem__") ht.typeIs PyProof.Rows.slot_tuple_getitem
  (wpAny_call_entry PyProof.Rows.slot_tuple_getitem ht.typeIs entry_tuple_getitem ?_ (args_tuple_getitem _ _)))
 show wpAny _ _ (Builtin.Tuple.tupleItemsOf (.ref t) >>= _) _ _ s
 refine wpAny_bind (tupleItemsOf_ ht ?_)
 refine wpAny_bind (wpAny_typeOf hTs ?_)
 rw [if_pos (by decide)]
 refine wpAny_bind (sliceApplied_gen hs pl pu ?_)
 have hno:¬ ((((sIx items.size 0 lo:Nat):Int) == 0&&(1:Int) == 1&&(sIx items.size items.size hi - sIx items.size 0 lo) == items.size)=true):=by
  intro q
  rw [Bool.and_eq_true,Bool.and_eq_true] at q
  have q1:((sIx items.size 0 lo:Nat):Int)=0:=eq_of_beq q.1.1
  have q2:sIx items.size items.size hi - sIx items.size 0 lo=items.size:=eq_of_beq q.2
  exact hw ⟨by omega,by omega⟩
 show wpAny _ _ (if (((sIx items.size 0 lo:Nat):Int) == 0&&(1:Int) == 1&&(sIx items.size items.size hi - sIx items.size 0 lo) == items.size)=true then _ else _) _ _ s
 rw [if_neg hno,pick_gen]
 first
  | exact wpAny_bind (m:=Builtin.Tuple.tupleExact _) (wpAny_newObj_type (wpAny_pure ⟨_,rfl,wpAny_pure h⟩) htake)
  | exact wpAny_bind (m:=Builtin.Tuple.tupleExact _) (wpAny_newObj_type (wpAny_bind (wpAny_pure (wpAny_pure ⟨_,rfl,wpAny_pure h⟩))) htake)
  | exact wpAny_bind (wpAny_bind (m:=Builtin.Tuple.tupleExact _) (wpAny_newObj_type (wpAny_pure (wpAny_pure ⟨_,rfl,wpAny_pure h⟩)) htake))
  | exact wpAny_bind (wpAny_bind (m:=Builtin.Tuple.tupleExact _) (wpAny_newObj_type (wpAny_pure ⟨_,rfl,wpAny_pure h⟩) htake))
end
end HT
namespace L2
open PySem PySem.Spec PyProof.Rows
noncomputable abbrev TO:=St→Hp→(Option Int→Hp→Prop)→Prop
noncomputable def PO (X:Cx) (e:Option Expr) (t:TO):Prop :=
 ∀ (pins:List (Addr × Obj)) (s:Shared) (σ:St) (H:Hp) (Q:Option Int→Hp→Prop),Inv X pins σ H s→t σ H Q →
  wpAny (model X.prog X.w) X.A (evalPart e X.env) (fun u s'=>∃ o H',Inv X pins σ H' s'∧IsPart u o∧Q o H') X.xe s
noncomputable def tNoPart:TO:=fun _ H Q=>Q none H
noncomputable def tPart (t:TE):TO:=fun σ H Q=>t σ H fun x H1=>∃ i,x=.int i∧Q (some i) H1
section
variable {X:Cx} {e:Expr} {te:TE} {lo hi:Option Expr} {tl th:TO} {pos p2:Pos}
theorem po_none:PO X none tNoPart:=by
 intro pins s σ H Q I h
 rw [evalPart_none]
 exact wpAny_pure ⟨none,H,I,.none,h⟩
theorem po_some (h:PE X e te):PO X (some e) (tPart te):=by
 intro pins s σ H Q I hw
 rw [evalPart_some]
 refine thn (h pins s σ H _ I hw) fun u s1 ⟨x,H1,I1,r1,q1⟩ => ?_
 obtain ⟨i,rfl,q⟩:=q1
 obtain ⟨t,rfl⟩:=r1
 exact ⟨some i,H1,I1,.int i t,q⟩
noncomputable def SlR (X:Cx) (r:V→Option Int→Option Int→Hp→VK→Prop):Prop :=
 ∀ (pins:List (Addr × Obj)) (s:Shared) (σ:St) (H:Hp) (x:V) (v vl vu:Value) (lo hi:Option Int) (sl:Addr) (Q:VK),Inv X pins σ H s→RelV x v→s.heap.IsSliceOf sl vl vu .none→IsPart vl lo→IsPart vu hi→r x lo hi H Q →
  ∃ T id,typeLookup (.type T) "__getitem__" = pure (some (.builtin id))∧s.TypeIs v T∧wpAny (model X.prog X.w) X.A (getItem v (.ref sl)) (EP X pins σ Q) X.xe s
theorem SlR.or {r r':V→Option Int→Option Int→Hp→VK→Prop} (h:SlR X r) (h':SlR X r'):SlR X (fun x lo hi H Q=>r x lo hi H Q∨r' x lo hi H Q):=by
 intro pins s σ H x v vl vu lo hi sl Q I rx hs pl pu q
 rcases q with q | q
 ·exact h pins s σ H x v vl vu lo hi sl Q I rx hs pl pu q
 ·exact h' pins s σ H x v vl vu lo hi sl Q I rx hs pl pu q
noncomputable def tSl (r:V→Option Int→Option Int→Hp→VK→Prop) (te:TE) (tl th:TO):TE:=fun σ H Q=>te σ H fun x H1=>tl σ H1 fun l H2=>th σ H2 fun u H3=>r x l u H3 Q
theorem pe_slice {r:V→Option Int→Option Int→Hp→VK→Prop} (hr:SlR X r) (he:PE X e te) (hl:PO X lo tl) (hu:PO X hi th):PE X (.Subscript e (.Slice lo hi none p2) pos) (tSl r te tl th):=by
 intro pins s σ H Q I h
 refine Subscript_ (thn (he pins s σ H _ I h) fun v s1 ⟨x,H1,I1,r1,q1⟩ => ?_)
 refine wpAny_Slice (thn (hl pins s1 σ H1 _ I1 q1) fun vl s2 ⟨l,H2,I2,pl,q2⟩=>thn (hu pins s2 σ H2 _ I2 q2) fun vu s3 ⟨u,H3,I3,pu,q3⟩ => ?_)
 rw [evalPart_none]
 refine wpAny_pure ?_
 have I4:Inv X pins σ H3 { s3 with heap:=s3.heap.push { cls:=.type "slice",data:=.fields #[vl,vu,.none] } }:=I3.kept (t':=s3.toks) fun b ob q=>Heap.get?_push_of_some _ q
 obtain ⟨T,id,hT,ht,hg⟩:=hr pins { s3 with heap:=s3.heap.push { cls:=.type "slice",data:=.fields #[vl,vu,.none] } } σ H3 x v vl vu l u s3.heap.objs.size Q I4 r1 (Heap.IsSliceOf.new ..) pl pu q3
 show wpAny (model X.prog X.w) X.A (subscriptTail e (.Slice lo hi none p2) v (.ref s3.heap.objs.size)) (EP X pins σ Q) X.xe { s3 with heap:=s3.heap.push { cls:=.type "slice",data:=.fields #[vl,vu,.none] } }
 exact tail_any (ops:=[.ref s3.heap.objs.size,v]) ht hT hg (by with_unfolding_all rfl)
noncomputable def cutV (xs:List V) (lo hi:Option Int):List V:=(xs.drop (HT.sIx xs.length 0 lo)).take (HT.sIx xs.length xs.length hi - HT.sIx xs.length 0 lo)
theorem cutV_length (xs:List V) (lo hi:Option Int):(cutV xs lo hi).length≤xs.length:=by
 unfold cutV
 rw [List.length_take,List.length_drop]
 omega
noncomputable def rSlT (K:PySem.W.Frag):V→Option Int→Option Int→Hp→VK→Prop:=fun x lo hi H Q=>∃ a xs,x=.ref a∧SqT K H a xs ∧
 ¬ (HT.sIx xs.length 0 lo=0∧HT.sIx xs.length xs.length hi=xs.length)∧∀ p,H p=none→Q (.ref p) (upd H p (.tup (cutV xs lo hi)))
theorem sl_tup:SlR X (rSlT X.K):=by
 intro pins s σ H x v vl vu lo hi sl Q I rx hs pl pu h
 obtain ⟨a,xs,rfl,hx,hw,q⟩:=h
 cases rx
 obtain ⟨its,r,ht,hz⟩:=I.tuple hx
 have hlen:its.toArray.size=xs.length:=by rw [List.size_toArray]; exact r.length.symm
 refine ⟨"tuple",_,PyProof.Rows.slot_tuple_getitem.lookup,ht.typeIs,?_⟩
 refine HT.getItem_tuple_cut ht hs pl pu (by rw [hlen]; exact hw) ?_ (by rw [hlen]; exact hz)
 rw [hlen]
 refine ⟨.ref s.heap.objs.size,_,I.laid (t':=s.toks) (o:=.tup (cutV xs lo hi)) (fun b ob q=>Heap.get?_push_of_some _ q) (Nat.le_refl _) ?_,rfl,q _ (I.hok.fresh (Nat.le_refl _))⟩
 exact ⟨Nat.le_trans (cutV_length xs lo hi) hz,_,(r.drop (HT.sIx xs.length 0 lo)).take (HT.sIx xs.length xs.length hi - HT.sIx xs.length 0 lo),IsTup.new _ _⟩
noncomputable def rCatT (K:PySem.W.Frag):R2:=fun x y H Q=>∃ a b xs ys,x=.ref a∧y=.ref b∧SqT K H a xs∧SqT K H b ys∧xs≠[]∧xs.length+ys.length≤sizeLine ∧
 (ys=[]→Q (.ref a) H)∧(ys≠[]→∀ p,H p=none→Q (.ref p) (upd H p (.tup (xs++ys))))
theorem Vals.nil_iff {xs:List V} {us:List Value} (r:Vals xs us):us=[]↔xs=[]:=by
 cases r with
 | nil=>simp
 | cons _ _=>simp
theorem op_catT:OpR X (binaryOp .Add) (rCatT X.K):=by
 intro pins s σ H x y v u Q I rx ry h
 obtain ⟨a,b,xs,ys,rfl,rfl,ha,hb,hx,hz,q1,q2⟩:=h
 cases rx
 cases ry
 obtain ⟨its,r1,p1,_⟩:=I.tuple ha
 obtain ⟨its2,r2,p2,_⟩:=I.tuple hb
 refine HT.cat_tup p1 p2 (fun z=>hx (r1.nil_iff.mp z)) (fun z=>⟨.ref a,H,I,rfl,q1 (r2.nil_iff.mp z)⟩) (fun z => ?_) (by rw [← r1.length,← r2.length]; exact hz)
 refine ⟨.ref s.heap.objs.size,_,I.laid (t':=s.toks) (o:=.tup (xs++ys)) (fun b ob q=>Heap.get?_push_of_some _ q) (Nat.le_refl _) ?_,rfl,q2 (fun w=>z (r2.nil_iff.mpr w)) _ (I.hok.fresh (Nat.le_refl _))⟩
 exact ⟨by rw [List.length_append]; exact hz,_,r1.append r2,IsTup.new _ _⟩
end
end L2
namespace L2
open PySem PySem.Spec PyProof.Rows
noncomputable def ixN (n:Nat) (i:Int):Option Nat:=if 0≤i then (if i<n then some i.toNat else none) else if -(n:Int)≤i then some (i+n).toNat else none
noncomputable def atI {α:Type} (xs:List α) (i:Int):Option α:=(ixN xs.length i).bind fun j=>xs[j]?
theorem ixN_seq {n:Nat} {i:Int} {j:Nat} (h:ixN n i=some j):seqIndex? i n=some j∧j<n∧-(n:Int)≤i∧i<n:=by
 unfold ixN at h
 by_cases h0:0≤i
 ·rw [if_pos h0] at h
  by_cases h1:i<n
  ·rw [if_pos h1] at h
   have e:i.toNat=j:=Option.some.inj h
   exact ⟨by rw [seqIndex_of h0 h1,e],by omega,by omega,h1⟩
  ·rw [if_neg h1] at h; cases h
 ·rw [if_neg h0] at h
  by_cases h1:-(n:Int)≤i
  ·rw [if_pos h1] at h
   have e:(i+n).toNat=j:=Option.some.inj h
   exact ⟨by rw [seqIndex_neg (by omega) h1,e],by omega,h1,by omega⟩
  ·rw [if_neg h1] at h; cases h
theorem atI_get {α:Type} {xs:List α} {i:Int} {v:α} (h:atI xs i=some v):∃ j,seqIndex? i xs.length=some j∧xs[j]?=some v∧j<xs.length∧-(xs.length:Int)≤i∧i<xs.length:=by
 unfold atI at h
 cases e:ixN xs.length i with
 | none=>rw [e] at h; cases h
 | some j =>
  rw [e] at h
  obtain ⟨h1,h2,h3,h4⟩:=ixN_seq e
  exact ⟨j,h1,h,h2,h3,h4⟩
noncomputable def PlainIx (b:Expr):Prop:=∀ o i,subscripted b false o i=operate [o,i] (getItem o i)
noncomputable def IxR (X:Cx) (r:R2):Prop :=
 ∀ (value slice:Expr) (pins:List (Addr × Obj)) (s:Shared) (σ:St) (H:Hp) (x y:V) (v u:Value) (Q:VK),Inv X pins σ H s→RelV x v→RelV y u→r x y H Q →
  subscripted slice false v u=operate [v,u] (getItem v u)→wpAny (model X.prog X.w) X.A (subscriptTail value slice v u) (EP X pins σ Q) X.xe s
noncomputable def MtR (X:Cx) (id:String) (r:V→List V→Hp→VK→Prop):Prop :=
 ∀ (pins:List (Addr × Obj)) (s:Shared) (σ:St) (H:Hp) (x:V) (xs:List V) (v:Value) (us:List Value) (Q:VK),Inv X pins σ H s→RelV x v→Vals xs us→r x xs H Q →
  wpAny (model X.prog X.w) X.A (call (.builtin id) (v::us)) (EP X pins σ Q) X.xe s
section
variable {X:Cx} {a b:Expr} {ta tb:TE} {pos:Pos}
theorem IxR.or {r r':R2} (h:IxR X r) (h':IxR X r'):IxR X (fun x y H Q=>r x y H Q∨r' x y H Q):=by
 intro value slice pins s σ H x y v u Q I rx ry q hs
 rcases q with q | q
 ·exact h value slice pins s σ H x y v u Q I rx ry q hs
 ·exact h' value slice pins s σ H x y v u Q I rx ry q hs
theorem pe_ix {r:R2} (hr:IxR X r) (ha:PE X a ta) (hb:PE X b tb) (hs:PlainIx b):PE X (.Subscript a b pos) (tOp r ta tb):=by
 intro pins s σ H Q I h
 exact Subscript_ (binT ha hb I h fun v u s2 x y H2 I2 rx ry q=>hr a b pins s2 σ H2 x y v u Q I2 rx ry q (hs _ _))
noncomputable def rIxL (K:PySem.W.Frag):R2:=fun x y H Q=>∃ p xs i v,x=.ref p∧y=.int i∧SqL K H p xs∧atI xs i=some v∧Q v H
noncomputable def rIxT (K:PySem.W.Frag):R2:=fun x y H Q=>∃ p xs i v,x=.ref p∧y=.int i∧SqT K H p xs∧atI xs i=some v∧Q v H
noncomputable def rIxS:R2:=fun x y H Q=>∃ z i c,x=.str z∧y=.int i∧z.length≤sizeLine∧atI z.cps.toList i=some c∧Q (.str ⟨#[c]⟩) H
theorem ix_list:IxR X (rIxL X.K):=by
 intro value slice pins s σ H x y v u Q I rx ry h hs
 obtain ⟨p,xs,i,z,rfl,rfl,hq,he,q⟩:=h
 cases rx
 obtain ⟨t,rfl⟩:=ry
 obtain ⟨its,r,pl,hz⟩:=I.list hq
 obtain ⟨j,h1,h2,h3,h4,h5⟩:=atI_get he
 obtain ⟨w,ew,rw'⟩:=r.get h2
 have hl:=r.length
 have hn:=line63
 have fin:EP X pins σ Q w s:=⟨z,H,I,rw',q⟩
 by_cases h0:0≤i
 ·have hj:i.toNat=j:=by
   rw [seqIndex_of h0 h5] at h1
   exact Option.some.inj h1
  exact item_listR pl.isList h0 (by omega) (by rw [hj]; simpa using ew) fin hs
 ·have hj:(i+(its.toArray.size:Int)).toNat=j:=by
   rw [seqIndex_neg (by omega) h4] at h1
   rw [List.size_toArray,← hl]
   exact Option.some.inj h1
  exact subscriptTail_builtinR (x:=w) pl.isList.typeIs slot_list_getitem.lookup
   (wpAny_getItem_list_neg (Q:=fun r s'=>r=w∧EP X pins σ Q r s') pl.isList (by omega) (by rw [List.size_toArray] <;> omega) (by omega) (by rw [hj]; simpa using ew) ⟨rfl,fin⟩) hs
theorem ix_tup:IxR X (rIxT X.K):=by
 intro value slice pins s σ H x y v u Q I rx ry h hs
 obtain ⟨p,xs,i,z,rfl,rfl,hq,he,q⟩:=h
 cases rx
 obtain ⟨t,rfl⟩:=ry
 obtain ⟨its,r,pl,hz⟩:=I.tuple hq
 obtain ⟨j,h1,h2,h3,h4,h5⟩:=atI_get he
 obtain ⟨w,ew,rw'⟩:=r.get h2
 have hl:=r.length
 have hn:=line63
 have fin:EP X pins σ Q w s:=⟨z,H,I,rw',q⟩
 exact subscriptTail_builtinR (x:=w) pl.typeIs slot_tuple_getitem.lookup
  (getItem_tuple (j:=j) (Q:=fun r s'=>r=w∧EP X pins σ Q r s') pl (by omega) (by omega) (by rw [List.size_toArray,← hl]; exact h1) (by simpa using ew) ⟨rfl,fin⟩) hs
theorem ix_str:IxR X rIxS:=by
 intro value slice pins s σ H x y v u Q I rx ry h hs
 obtain ⟨z,i,c,rfl,rfl,hz,he,q⟩:=h
 obtain ⟨t,rfl⟩:=rx
 obtain ⟨t',rfl⟩:=ry
 obtain ⟨j,h1,h2,h3,h4,h5⟩:=atI_get he
 have hl:z.cps.toList.length=z.length:=by simp [Str.length]
 rw [hl] at h1 h4 h5
 have hn:=line63
 exact tail_any (typeIs_str s z t) slot_str_getitem.lookup (getItem_str (c:=c) (by
  have e1:decide (i < -(2 ^ 63:Int))=false:=decide_eq_false (by omega)
  have e2:decide (i ≥ 2 ^ 63)=false:=decide_eq_false (by omega)
  rw [e1,e2,Bool.or_false]) (by rw [h1]; simpa using h2) ⟨.str ⟨#[c]⟩,H,I.tok _,⟨_,rfl⟩,q⟩) hs
noncomputable def rIx (K:PySem.W.Frag):R2:=fun x y H Q=>rIxL K x y H Q∨rIxT K x y H Q∨rIxS x y H Q
theorem ix_seq:IxR X (rIx X.K):=ix_list.or (ix_tup.or ix_str)
theorem mapSeq_set (its:List Value) (n j:Nat) (u:Value):Obj.mapSeq (·.setIfInBounds j u) { cls:=.type "list",data:=.seq its.toArray n }={ cls:=.type "list",data:=.seq (its.set j u).toArray n }:=by
 simp [Obj.mapSeq]
theorem Inv.lst {pins:List (Addr × Obj)} {σ:St} {H:Hp} {s:Shared} {p:Addr} {xs:List V} (I:Inv X pins σ H s) (h:H p=some (.lst xs)) :
  ∃ (its:List Value) (n:Nat),Vals xs its∧s.heap.get? p=some { cls:=.type "list",data:=.seq its.toArray n }∧xs.length≤sizeLine:=by
 obtain ⟨z,its,n,r,e⟩:=I.hok p _ h
 exact ⟨its,n,r,e,z⟩
theorem Inv.lstUpd {pins:List (Addr × Obj)} {σ:St} {H:Hp} {s:Shared} {p:Addr} {xs ys:List V} {its its':List Value} {n n':Nat} {f:Obj→Obj} (I:Inv X pins σ H s) (h:H p=some (.lst xs))
  (ho:s.heap.get? p=some { cls:=.type "list",data:=.seq its.toArray n }) (hf:f { cls:=.type "list",data:=.seq its.toArray n }={ cls:=.type "list",data:=.seq its'.toArray n' }) (r:Vals ys its') (hz:ys.length≤sizeLine) (t:Nat) :
  Inv X pins σ (upd H p (.lst ys)) { s with heap:=s.heap.update p f,toks:=t }:=by
 have e:(s.heap.update p f).get? p=some { cls:=.type "list",data:=.seq its'.toArray n' }:=by
  rw [Heap.get?_update_self f ho (by rw [hf] <;> rfl),hf]
 refine I.write (x:=p) (e:=p) (by rw [h]; trivial) (.inl rfl) (fun b u hb q=>(Heap.get?_update_other _ _ (Ne.symm hb)).trans q) ⟨_,e⟩ ?_
 exact ⟨hz,its',n',r,e⟩
noncomputable def rSetL:V→V→V→Hp→(Hp→Prop)→Prop:=fun o i v H Q=>∃ p xs k j,o=.ref p∧i=.int k∧H p=some (.lst xs)∧ixN xs.length k=some j∧Q (upd H p (.lst (xs.set j v)))
theorem set_list:PSet X rSetL:=by
 intro pins s σ H o i v ov iv u Q I ro ri rv h
 obtain ⟨p,xs,k,j,rfl,rfl,hp,hj,q⟩:=h
 cases ro
 obtain ⟨t,rfl⟩:=ri
 obtain ⟨its,n,r,ho,hz⟩:=I.lst hp
 obtain ⟨h1,h2,h3,h4⟩:=ixN_seq hj
 have hl:=r.length
 have hn:=line63
 have I':Inv X pins σ (upd H p (.lst (xs.set j v))) { s with heap:=s.heap.update p (Obj.mapSeq (·.setIfInBounds j u)) } :=
  I.lstUpd hp ho (mapSeq_set its n j u) (r.set rv j) (by rw [List.length_set]; exact hz) s.toks
 by_cases h0:0≤k
 ·have hk:k.toNat=j:=by
   rw [seqIndex_of h0 h4] at h1
   exact Option.some.inj h1
  exact PySem.W.ki_setAt ho h0 (by omega) (by rw [List.size_toArray,← hl]; exact h4) (by rw [hk]; exact ⟨_,I',q⟩)
 ·have hk:(k+(its.toArray.size:Int)).toNat=j:=by
   rw [seqIndex_neg (by omega) h3] at h1
   rw [List.size_toArray,← hl]
   exact Option.some.inj h1
  exact PySem.W.ki_setBack ho (by omega) (by rw [List.size_toArray,← hl]; exact h3) (by omega) (by rw [hk]; exact ⟨_,I',q⟩)
theorem slice_bounds (lo hi:Option Int) (n:Nat):(sliceBounds lo hi none n).1=((HT.sIx n 0 lo:Nat):Int)∧(sliceBounds lo hi none n).2.1=((HT.sIx n n hi:Nat):Int)∧(sliceBounds lo hi none n).2.2=1:=by
 refine ⟨?_,?_,rfl⟩
 ·cases lo with
  | none=>simp [sliceBounds,HT.sIx]
  | some i =>
   simp only [sliceBounds,HT.sIx,Option.getD_none,show (1:Int) > 0 by decide,if_true]
   by_cases h:i<0
   ·simp only [h,if_true] <;> omega
   ·simp only [h,if_false] <;> omega
 ·cases hi with
  | none=>simp [sliceBounds,HT.sIx]
  | some i =>
   simp only [sliceBounds,HT.sIx,Option.getD_none,show (1:Int) > 0 by decide,if_true]
   by_cases h:i<0
   ·simp only [h,if_true] <;> omega
   ·simp only [h,if_false] <;> omega
theorem slicePick_cut (its:List Value) (lo hi:Option Int):slicePick its.toArray lo hi none=((its.drop (HT.sIx its.length 0 lo)).take (HT.sIx its.length its.length hi - HT.sIx its.length 0 lo)).toArray:=by
 obtain ⟨h1,h2,h3⟩:=slice_bounds lo hi its.toArray.size
 unfold slicePick
 rw [h1,h2,h3]
 simp only [sliceRange_one,pick_run,List.size_toArray] <;> rfl
noncomputable def rSlL (K:PySem.W.Frag):V→Option Int→Option Int→Hp→VK→Prop:=fun x lo hi H Q=>∃ a xs,x=.ref a∧SqL K H a xs∧∀ p,H p=none→Q (.ref p) (upd H p (.lst (cutV xs lo hi)))
theorem sl_list:SlR X (rSlL X.K):=by
 intro pins s σ H x v vl vu lo hi sl Q I rx hs pl pu h
 obtain ⟨a,xs,rfl,hx,q⟩:=h
 cases rx
 obtain ⟨its,r,ht,hz⟩:=I.list hx
 have hlen:=r.length
 refine ⟨"list",_,slot_list_getitem.lookup,ht.isList.typeIs,?_⟩
 refine wpAny_getItem_list_slice ht.isList hs pl pu .none (by simp) ?_ (by rw [List.size_toArray] <;> omega)
 rw [slicePick_cut,← hlen]
 refine ⟨.ref s.heap.objs.size,_,I.laid (t':=s.toks) (o:=.lst (cutV xs lo hi)) (fun b ob q=>Heap.get?_push_of_some _ q) (Nat.le_refl _) ?_,rfl,q _ (I.hok.fresh (Nat.le_refl _))⟩
 exact ⟨Nat.le_trans (cutV_length xs lo hi) hz,_,0,(r.drop (HT.sIx xs.length 0 lo)).take (HT.sIx xs.length xs.length hi - HT.sIx xs.length 0 lo),Heap.get?_push_size _ rfl⟩
noncomputable def flatV:V→Bool
 | .non=>true
 | .bl _=>true
 | .int _=>true
 | .str _=>true
 | _=>false
noncomputable def eqV:V→V→Bool
 | .non,.non=>true
 | .bl a,.bl b=>a == b
 | .bl a,.int b=>(if a then 1 else 0) == b
 | .int a,.bl b=>a == (if b then 1 else 0)
 | .int a,.int b=>a == b
 | .str a,.str b=>a == b
 | _,_=>false
theorem eqAt_V {A:Around} {s:Shared} {y x:V} {u v:Value} (ry:RelV y u) (rx:RelV x v) (fy:flatV y=true) (fx:flatV x=true):SeqAt.EqAt A s u v (eqV y x):=by
 cases y with
 | non =>
  cases ry
  cases x with
  | non=>cases rx; exact SeqAt.EqAt.same _
  | bl b=>cases rx; exact SeqAt.EqAt.none_bool b
  | int b=>obtain ⟨t,rfl⟩:=rx; exact SeqAt.EqAt.none_int b t
  | str b=>obtain ⟨t,rfl⟩:=rx; exact SeqAt.EqAt.none_str b t
  | _=>exact absurd (show false=true from fx) Bool.false_ne_true
 | bl a =>
  cases ry
  cases x with
  | non=>cases rx; exact SeqAt.EqAt.bool_none a
  | bl b=>cases rx; exact SeqAt.EqAt.bool_bool a b
  | int b=>obtain ⟨t,rfl⟩:=rx; exact SeqAt.EqAt.bool_int a b t
  | str b=>obtain ⟨t,rfl⟩:=rx; exact SeqAt.EqAt.bool_str a b t
  | _=>exact absurd (show false=true from fx) Bool.false_ne_true
 | int a =>
  obtain ⟨t',rfl⟩:=ry
  cases x with
  | non=>cases rx; exact SeqAt.EqAt.int_none a t'
  | bl b=>cases rx; exact SeqAt.EqAt.int_bool a t' b
  | int b=>obtain ⟨t,rfl⟩:=rx; exact SeqAt.EqAt.int_int a t' b t
  | str b=>obtain ⟨t,rfl⟩:=rx; exact SeqAt.EqAt.int_str a t' b t
  | _=>exact absurd (show false=true from fx) Bool.false_ne_true
 | str a =>
  obtain ⟨t',rfl⟩:=ry
  cases x with
  | non=>cases rx; exact SeqAt.EqAt.str_none a t'
  | bl b=>cases rx; exact SeqAt.EqAt.str_bool a t' b
  | int b=>obtain ⟨t,rfl⟩:=rx; exact SeqAt.EqAt.str_int a t' b t
  | str b=>obtain ⟨t,rfl⟩:=rx; exact SeqAt.EqAt.str_str a t' b t
  | _=>exact absurd (show false=true from fx) Bool.false_ne_true
 | _=>exact absurd (show false=true from fy) Bool.false_ne_true
noncomputable def eqU (x:V) (u:Value):Bool:=match u with
 | .none=>eqV .non x
 | .bool b=>eqV (.bl b) x
 | .int i _=>eqV (.int i) x
 | .str z _=>eqV (.str z) x
 | _=>false
theorem eqU_of {x y:V} {u:Value} (r:RelV y u) (f:flatV y=true):eqU x u=eqV y x:=by
 cases y with
 | non=>cases r; rfl
 | bl b=>cases r; rfl
 | int i=>obtain ⟨t,rfl⟩:=r; rfl
 | str z=>obtain ⟨t,rfl⟩:=r; rfl
 | _=>exact absurd (show false=true from f) Bool.false_ne_true
theorem any_eqU {x:V}:∀ {xs:List V} {us:List Value},Vals xs us→xs.all flatV=true→us.any (eqU x)=xs.any fun y=>eqV y x
 | _,_,.nil,_=>rfl
 | y::xs,u::us,.cons r t,f=>by
  rw [List.all_cons,Bool.and_eq_true] at f
  rw [List.any_cons,List.any_cons,eqU_of r f.1,any_eqU t f.2]
theorem mem_eqAt {A:Around} {s:Shared} {x:V} {v:Value} (rx:RelV x v) (fx:flatV x=true):∀ {xs:List V} {us:List Value},Vals xs us→xs.all flatV=true→∀ u∈us,SeqAt.EqAt A s u v (eqU x u)
 | _,_,.nil,_=>fun u hu=>by cases hu
 | y::xs,u::us,.cons r t,f=>fun u' hu=>by
  rw [List.all_cons,Bool.and_eq_true] at f
  rcases List.mem_cons.mp hu with rfl | hu
  ·rw [eqU_of r f.1]; exact eqAt_V r rx f.1 fx
  ·exact mem_eqAt rx fx t f.2 u' hu
noncomputable def inV (x:V) (xs:List V):Bool:=xs.any fun y=>eqV y x
noncomputable def rIn (K:PySem.W.Frag) (neg:Bool):R2:=fun x y H Q=>∃ p xs,y=.ref p∧(SqL K H p xs∨SqT K H p xs)∧flatV x=true∧xs.all flatV=true∧Q (.bl (if neg then !inV x xs else inV x xs)) H
theorem op_in_seq:OpR X (compareOp .In) (rIn X.K false):=by
 intro pins s σ H x y v u Q I rx ry h
 obtain ⟨p,xs,rfl,hq,fx,fs,q⟩:=h
 cases ry
 rcases hq with hq | hq
 ·obtain ⟨its,r,pl,hz⟩:=I.list hq
  refine SeqAt.in_listAt (eqU x) pl.isList (fun w hw=>mem_eqAt rx fx r fs w (by simpa using hw)) ⟨.bl _,H,I,rfl,?_⟩
  rw [show its.toArray.any (eqU x)=its.any (eqU x) by simp,any_eqU r fs]
  exact q
 ·obtain ⟨its,r,pl,hz⟩:=I.tuple hq
  refine SeqAt.in_tupleAt (eqU x) pl (fun w hw=>mem_eqAt rx fx r fs w (by simpa using hw)) ⟨.bl _,H,I,rfl,?_⟩
  rw [show its.toArray.any (eqU x)=its.any (eqU x) by simp,any_eqU r fs]
  exact q
theorem op_notIn_seq:OpR X (compareOp .NotIn) (rIn X.K true):=by
 intro pins s σ H x y v u Q I rx ry h
 obtain ⟨p,xs,rfl,hq,fx,fs,q⟩:=h
 cases ry
 rcases hq with hq | hq
 ·obtain ⟨its,r,pl,hz⟩:=I.list hq
  refine SeqAt.notIn_listAt (eqU x) pl.isList (fun w hw=>mem_eqAt rx fx r fs w (by simpa using hw)) ⟨.bl _,H,I,rfl,?_⟩
  rw [show its.toArray.any (eqU x)=its.any (eqU x) by simp,any_eqU r fs]
  exact q
 ·obtain ⟨its,r,pl,hz⟩:=I.tuple hq
  refine SeqAt.notIn_tupleAt (eqU x) pl (fun w hw=>mem_eqAt rx fx r fs w (by simpa using hw)) ⟨.bl _,H,I,rfl,?_⟩
  rw [show its.toArray.any (eqU x)=its.any (eqU x) by simp,any_eqU r fs]
  exact q
theorem CallR.or {f:Value} {r r':List V→Hp→VK→Prop} (h:CallR X f r) (h':CallR X f r'):CallR X f (fun xs H Q=>r xs H Q∨r' xs H Q):=by
 intro pins s σ H xs us Q I rs q
 rcases q with q | q
 ·exact h pins s σ H xs us Q I rs q
 ·exact h' pins s σ H xs us Q I rs q
noncomputable def tyV (K:PySem.W.Frag) (T:String) (x:V) (H:Hp):Prop:=match x with
 | .str _=>T = "str"
 | .int _=>T = "int"
 | .ref p=>(T = "list"∧∃ xs,SqL K H p xs)∨(T = "tuple"∧∃ o,K.lookup p=some o∧o.cls=.type "tuple"∧o.dict=none) ∨
   (T = "dict"∧((∃ kvs,H p=some (.dK kvs))∨∃ kvs,H p=some (.dT kvs)))∨(T = "set"∧∃ S n,H p=some (.set S n))
 | _=>False
theorem tyV_is {pins:List (Addr × Obj)} {σ:St} {H:Hp} {s:Shared} {T:String} {x:V} {v:Value} (I:Inv X pins σ H s) (r:RelV x v) (ty:tyV X.K T x H) :
  s.TypeIs v T∧∀ a,v=.ref a→∃ ob,s.heap.get? a=some ob∧ob.dict=none:=by
 cases x with
 | str z =>
  obtain ⟨t,rfl⟩:=r
  cases (show T = "str" from ty)
  exact ⟨typeIs_str s z t,fun _ e=>nomatch e⟩
 | int i =>
  obtain ⟨t,rfl⟩:=r
  cases (show T = "int" from ty)
  exact ⟨typeIs_int s i t,fun _ e=>nomatch e⟩
 | ref p =>
  cases r
  rcases ty with ⟨rfl,xs,hq⟩ | ⟨rfl,o,hk,hc,hd⟩ | ⟨rfl,hk⟩ | ⟨rfl,S,n,hk⟩
  ·obtain ⟨its,_,pl,_⟩:=I.list hq
   refine ⟨pl.isList.typeIs,fun a e => ?_⟩
   cases e
   obtain ⟨o,n,e,c,hd,_⟩:=pl
   exact ⟨o,e,hd⟩
  ·refine ⟨⟨o,I.kIn p o hk,hc⟩,fun a e => ?_⟩
   cases e
   exact ⟨o,I.kIn _ o hk,hd⟩
  ·have z:∃ o,s.heap.get? p=some o∧o.ExactDict:=by
    rcases hk with ⟨kvs,hk⟩ | ⟨kvs,hk⟩
    ·obtain ⟨_,_,_,_,o,_,_,e,ex,_⟩:=I.hok p _ hk
     exact ⟨o,e,ex⟩
    ·obtain ⟨_,_,_,_,o,_,_,e,ex,_⟩:=I.hok p _ hk
     exact ⟨o,e,ex⟩
   obtain ⟨o,e,ex⟩:=z
   refine ⟨⟨o,e,ex.1⟩,fun a e2 => ?_⟩
   cases e2
   exact ⟨o,e,ex.2.1⟩
  ·obtain ⟨o,_,_,_,e,ex,_⟩:=I.hok p _ hk
   refine ⟨⟨o,e,ex.1⟩,fun a e2 => ?_⟩
   cases e2
   exact ⟨o,e,ex.2.1⟩
 | _=>exact False.elim ty
noncomputable def tBM0 (K:PySem.W.Frag) (T:String) (r:V→List V→Hp→VK→Prop) (to:TE):TE:=fun σ H Q=>to σ H fun x H1=>tyV K T x H1∧r x [] H1 Q
noncomputable def tBM (K:PySem.W.Frag) (T:String) (r:V→List V→Hp→VK→Prop) (to:TE) (t:TA):TE:=fun σ H Q=>to σ H fun x H1=>tyV K T x H1∧t σ H1 fun xs H2=>r x xs H2 Q
variable {o e:Expr} {es:List Expr} {to:TE} {t:TA} {name:Str} {apos cpos:Pos} {T id:String} {r:V→List V→Hp→VK→Prop}
theorem pe_bm0 (pa:PlainAttrs T) (slot:Slot T name id) (hty:typeOf (.builtin id)=pure (.type "method_descriptor")) (hm:MtR X id r) (ho:PE X o to)
  (hbase:attributeBase o name X.env (eval o X.env)=eval o X.env:=by rfl) (hline:(apos.endLine == cpos.line)=true:=by rfl):PE X (.Call (.Attribute o name apos) [] [] cpos) (tBM0 X.K T r to):=by
 intro pins s σ H Q I h
 refine wpAny_Call_method0_late hbase hline (thn (ho pins s σ H _ I h) fun v s1 ⟨x,H1,I1,r1,ty,q1⟩ => ?_)
 obtain ⟨h1,h2⟩:=tyV_is I1 r1 ty
 exact ⟨T,id,pa,slot,hty,h1,h2,Calls.callWith_builtin rfl (PySem.evalArgs_none (hm pins s1 σ H1 x [] v [] Q I1 r1 .nil q1))⟩
theorem pe_bm (pa:PlainAttrs T) (slot:Slot T name id) (hty:typeOf (.builtin id)=pure (.type "method_descriptor")) (hm:MtR X id r) (ho:PE X o to) (ha:PA X (e::es) t)
  (hbase:attributeBase o name X.env (eval o X.env)=eval o X.env:=by rfl)
  (hfew:((backTo cpos (starEach (e::es) X.env)).all (fun x => !x.1)&&(backToKw cpos (keywordEach [] X.env)).all (fun x=>x.1.isSome)
   && decide ((e::es).length+([]:List Keyword).length+(if ([]:List Keyword).isEmpty then 0 else 1)<30))=true:=by rfl)
  (hline:(apos.endLine == cpos.line)=true:=by rfl) (hs:starEach (e::es) X.env=(false,eval e X.env)::starEach es X.env:=by rfl) (hplain:(backTo cpos (starEach es X.env)).any (·.1)=false:=by rfl) :
  PE X (.Call (.Attribute o name apos) (e::es) [] cpos) (tBM X.K T r to t):=by
 intro pins s σ H Q I h
 refine wpAny_Call_method_late hbase hfew hline rfl (thn (ho pins s σ H _ I h) fun v s1 ⟨x,H1,I1,r1,ty,q1⟩ => ?_)
 obtain ⟨h1,h2⟩:=tyV_is I1 r1 ty
 refine ⟨T,id,pa,slot,hty,h1,h2,?_⟩
 have hA:=ha cpos pins s1 σ H1 _ I1 q1
 rw [hs] at hA ⊢
 refine Calls.callWith_builtin (by show (false||(backTo cpos (starEach es X.env)).any (·.1))=false; rw [hplain] <;> rfl) (Calls.evalArgs_plain ?_)
 exact thn hA fun us s2 ⟨vs,H2,I2,r2,q2⟩=>hm pins s2 σ H2 x vs v us Q I2 r1 r2 q2
end
end L2
namespace L2
open PySem PySem.Spec PyProof.Rows
noncomputable def MtM (X:Cx) (id:String) (r:V→List V→Hp→VK→Prop):Prop :=
 ∀ (pins:List (Addr × Obj)) (s:Shared) (σ:St) (H:Hp) (x:V) (xs:List V) (v:Value) (us:List Value) (Q:VK),Inv X pins σ H s→RelV x v→Vals xs us→r x xs H Q →
  wpAny (model X.prog X.w) X.A (call (.builtin id) (v::us)) (EP X pins σ Q) X.xe s
theorem Vals.one:∀ {x:V} {us:List Value},Vals [x] us→∃ u,us=[u]∧RelV x u
 | _,_,.cons r .nil=>⟨_,rfl,r⟩
theorem Vals.rep {xs:List V} {us:List Value} (h:Vals xs us):∀ k:Nat,Vals (List.replicate k xs).flatten (List.replicate k us).flatten
 | 0=>.nil
 | k+1=>by
  rw [List.replicate_succ,List.replicate_succ,List.flatten_cons,List.flatten_cons]
  exact Vals.append h (Vals.rep h k)
theorem foldl_rep (its:List Value):∀ (k:Nat) (acc:List Value),
  List.foldl (fun x1 x2=>x1++x2) acc.toArray (List.replicate k its.toArray)=(acc++(List.replicate k its).flatten).toArray
 | 0,acc=>by simp
 | k+1,acc=>by
  have e:acc.toArray++its.toArray=(acc++its).toArray:=by simp
  have e2:(acc++its)++(List.replicate k its).flatten=acc++(List.replicate (k+1) its).flatten:=by
   rw [List.replicate_succ,List.flatten_cons,List.append_assoc]
  rw [← e2,← foldl_rep its k (acc++its),← e,List.replicate_succ,List.foldl_cons]
section
variable {X:Cx} {pins:List (Addr × Obj)} {σ:St} {H:Hp} {s:Shared} {l b:Addr} {xs ys zs:List V}
theorem Inv.lset {its its':List Value} {n:Nat} {f:Array Value→Array Value} {t':Nat} (I:Inv X pins σ H s) (hH:H l=some (.lst xs))
  (e:s.heap.get? l=some { cls:=.type "list",data:=.seq its.toArray n }) (hf:f its.toArray=its'.toArray) (hv:Vals ys its') (hz:ys.length≤sizeLine) :
  Inv X pins σ (upd H l (.lst ys)) { s with heap:=s.heap.update l (Obj.mapSeq f),toks:=t' }:=by
 have q:=PySem.IsL.update e f
 rw [hf] at q
 refine I.write (x:=l) (e:=l) (by rw [hH]; exact trivial) (.inl rfl) (fun b' u hb hu=>(Heap.get?_update_other s.heap (Obj.mapSeq f) (Ne.symm hb)).trans hu) ⟨_,q⟩ ?_
 exact ⟨hz,its',_,hv,q⟩
theorem Inv.lnew {its:List Value} {t':Nat} (I:Inv X pins σ H s) (hv:Vals ys its) (hz:ys.length≤sizeLine) :
  Inv X pins σ (upd H s.heap.objs.size (.lst ys)) { s with heap:=s.heap.push { cls:=.type "list",data:=.seq its.toArray },toks:=t' } :=
 I.laid (fun _ _ q=>Heap.get?_push_of_some _ q) (Nat.le_refl _) ⟨hz,its,0,hv,Heap.get?_push_size _ rfl⟩
theorem Inv.fresh (I:Inv X pins σ H s):H s.heap.objs.size=none:=I.hok.fresh (Nat.le_refl _)
theorem Inv.lstM (I:Inv X pins σ H s) (hH:H l=some (.lst xs)):xs.length≤sizeLine∧∃ (its:List Value) (n:Nat),Vals xs its∧xs.length=its.length∧s.heap.get? l=some { cls:=.type "list",data:=.seq its.toArray n }:=by
 obtain ⟨z,its,n,r,e⟩:=I.hok l _ hH
 exact ⟨z,its,n,r,r.length,e⟩
theorem notLongL {n:Nat} (h:n≤sizeLine):Builtin.List.listTooLong n=false:=by
 unfold Builtin.List.listTooLong
 exact decide_eq_false (by omega)
end
section
variable {X:Cx}
noncomputable def rAppend:V→List V→Hp→VK→Prop:=fun x vs H Q=>∃ l xs y,x=.ref l∧vs=[y]∧H l=some (.lst xs)∧xs.length<sizeLine∧Q .non (upd H l (.lst (xs++[y])))
theorem mt_append:MtM X "list.append" rAppend:=by
 intro pins s σ H x vs v us Q I rx rv h
 obtain ⟨l,xs,y,rfl,rfl,hH,hz,q⟩:=h
 cases rx
 obtain ⟨u,rfl,ru⟩:=rv.one
 obtain ⟨z,its,n,r,hl,e⟩:=I.lstM hH
 refine call_meets F.slot_list_append ⟨_,e,rfl⟩ F.entry_list_append (F.args_list_append_2 _ _) (PySem.list_append l its.toArray n u (by rw [List.size_toArray]; omega)) ⟨e,?_⟩
 refine ⟨.non,_,I.lset (its':=its++[u]) hH e (by simp) (r.append (.cons ru .nil)) ?_,rfl,q⟩
 rw [List.length_append,List.length_singleton]
 omega
noncomputable def rCat:R2:=fun x y H Q=>∃ l b xs zs,x=.ref l∧y=.ref b∧H l=some (.lst xs)∧H b=some (.lst zs)∧xs.length+zs.length≤sizeLine∧∀ p,H p=none→Q (.ref p) (upd H p (.lst (xs++zs)))
theorem op_cat:OpR X (binaryOp .Add) rCat:=by
 intro pins s σ H x y v u Q I rx ry h
 obtain ⟨l,b,xs,zs,rfl,rfl,hH,hB,hz,q⟩:=h
 cases rx
 cases ry
 obtain ⟨z,its,n,r,hl,e⟩:=I.lstM hH
 obtain ⟨z2,its2,n2,r2,hl2,e2⟩:=I.lstM hB
 refine PySem.P.add_list e e2 ?_ (by rw [List.size_toArray,List.size_toArray]; omega)
 have ea:its.toArray++its2.toArray=(its++its2).toArray:=by simp
 rw [ea]
 exact ⟨.ref _,_,I.lnew (t':=s.toks) (r.append r2) (by rw [List.length_append]; omega),rfl,q _ I.fresh⟩
noncomputable def rRep:R2:=fun x y H Q=>∃ l k xs,x=.ref l∧y=.int k∧H l=some (.lst xs)∧-(2 ^ 63)≤k∧k<2 ^ 63∧xs.length * k.toNat≤sizeLine ∧
 ∀ p,H p=none→Q (.ref p) (upd H p (.lst (List.replicate k.toNat xs).flatten))
theorem len_rep {α:Type} (xs:List α) (k:Nat):(List.replicate k xs).flatten.length=k * xs.length:=by
 induction k with
 | zero=>simp
 | succ k ih=>rw [List.replicate_succ,List.flatten_cons,List.length_append,ih,Nat.succ_mul,Nat.add_comm]
theorem op_rep:OpR X (binaryOp .Mult) rRep:=by
 intro pins s σ H x y v u Q I rx ry h
 obtain ⟨l,k,xs,rfl,rfl,hH,h1,h2,hz,q⟩:=h
 cases rx
 obtain ⟨t,rfl⟩:=ry
 obtain ⟨z,its,n,r,hl,e⟩:=I.lstM hH
 have hlen:its.toArray.size * k.toNat≤sizeLine:=by rw [List.size_toArray,← hl]; exact hz
 have hcap:¬ its.toArray.size * k.toNat > (2 ^ 63 - 1) / 8:=by
  have:(sizeLine:Nat)≤(2 ^ 63 - 1) / 8:=by decide
  omega
 have hfit:¬ (!Builtin.List.listFitsIndex k)=true:=by
  rw [fitsIndex_both h1 h2]
  exact Bool.false_ne_true
 have hlong:¬ Builtin.List.listTooLong (its.toArray.size * k.toNat)=true:=by
  rw [notLongL hlen]
  exact Bool.false_ne_true
 have hnew:List.foldl (fun x1 x2=>x1++x2) #[] (List.replicate (if its.toArray.isEmpty=true then 0 else k.toNat) its.toArray)=(List.replicate k.toNat its).flatten.toArray:=by
  have f0:∀ m:Nat,List.foldl (fun x1 x2=>x1++x2) #[] (List.replicate m its.toArray)=(List.replicate m its).flatten.toArray:=fun m=>by
   have:=foldl_rep its m []
   rw [List.nil_append] at this
   exact this
  rw [f0]
  cases its with
  | nil=>simp
  | cons a r'=>rw [if_neg (by simp)]
 refine wpAny_binaryOp_repeat_ref (T := "list") (U := "int") (by decide) ⟨_,e,rfl⟩ (fun s'=>typeIs_int s' k t) noFill_list_mul F.fills_int_mul F.slot_int_rmul repeat_list F.slot_int_index.lookup
  (call_meets F.slot_int_rmul (typeIs_int s k t) F.entry_int_rmul (F.args_int_rmul_2 _ _) (int___rmul___int_list k t l its.toArray n)
   ⟨e,rfl,⟨_,e,rfl⟩,call_meets F.slot_list_mul ⟨_,e,rfl⟩ F.entry_list_mul (F.args_list_mul_2 _ _) (AutoListH.list___mul___list_int_3 l its.toArray n k t hfit hcap hlong) ⟨e,?_⟩⟩)
 rw [hnew]
 exact ⟨.ref _,_,I.lnew (t':=s.toks) (r.rep k.toNat) (by rw [len_rep,Nat.mul_comm]; exact hz),rfl,q _ I.fresh⟩
end
section
variable {prog:Program} {w:World} {A:Around} {E:Value→Shared→Prop} {s:Shared}
end
section
variable {X:Cx}
end
end L2
namespace Att
open PySem PySem.W PySem.Calls PyProof.Rows
theorem ints_of_wellAll {P:Params} {h:Heap}:∀ (ns:List Int) (vs:List Value),WellAll P h vs (ns.map WData.int)→IntsAre vs ns:=by
 intro ns
 induction ns with
 | nil =>
  intro vs w
  rw [List.map_nil] at w
  cases w
  exact .nil
 | cons n ns ih =>
  intro vs w
  rw [List.map_cons] at w
  cases w with
  | cons a b =>
   cases a
   exact .cons _ _ (ih _ b)
theorem script_of {l:OpenLaw} {n:Nat} (hn:l.most=some n) {P:Params} {h:Heap} {args:List WData} {vals:List Value}
  (hpre:l.row.toRowW.claim.pre args=true) (hwl:WellAll P h vals args) :
  ∃ a vs ns,vals=[Value.ref a]∧args=[WData.list (ns.map WData.int)]∧h.get? a=some { cls:=.type "list",data:=.seq vs.toArray }∧IntsAre vs ns∧ns.length≤n:=by
 have hsh:WShape.hasAll [] args [.list .int]=true:=(pre_splitW hpre).1
 have hc:l.pre.holds [] { args:=args }=true:=(pre_splitW hpre).2
 obtain ⟨d,r,rfl,h1,h2⟩:=hasAllW_cons hsh
 obtain rfl:=hasAllW_nil h2
 obtain ⟨xs,rfl,h3⟩:=hasW_list h1
 obtain ⟨ns,rfl⟩:=items_int h3
 have hlen:ns.length≤n:=by
  unfold OpenLaw.pre at hc
  have h4:(WTm.not (.lt (.lit (.int (n:Int))) (.len (.arg 0)))).holds [] { args:=[.list (ns.map .int)] }=true:=by
   have h4:=(holds_andW hc).1
   rw [hn] at h4
   exact h4
  have h5:=condW_of h4 (w_not (w_lt w_lit (w_len_list (w_arg rfl))))
  rw [List.length_map] at h5
  refine Nat.le_of_not_lt fun q => ?_
  have q':(n:Int)<((ns.length:Nat):Int):=by omega
  first
   | (rw [decide_eq_true q'] at h5; exact absurd h5 (by decide))
   | (simp at h5; omega)
 cases hwl with
 | cons w1 w2 =>
  cases w2
  cases w1 with
  | list ho hall=>exact ⟨_,_,ns,rfl,rfl,ho,ints_of_wellAll ns _ hall,hlen⟩
theorem post_true (l:OpenLaw) (args:List WData):l.row.toRowW.claim.post args (.bool true) args=true :=
 postW_of (r:=l.row.toRowW) (X:=(true == true))
  (show WShape.has [] (.bool true) .bool=true by first | rfl | decide | simp [WShape.has,WShape.arms,WShape.armsAll])
  (show (WTm.eq .res (.lit (.bool true))).value [] { args:=args,res:=some (.bool true),after:=args }=some (.bool (true == true)) from w_eq_bool (w_res rfl) w_lit) rfl
theorem attach_call {l:OpenLaw} {n:Nat} {q:Program} {loose:List Str} {XP:(Str→Option Value)→Heap→Prop} {YP:World→Heap→Prop} {d:DefRec}
  (hn:l.most=some n) (hdf:d.params.defaults=[])
  (call:∀ (w:World) (s₀ s₁:Shared) (mg mb:Str→Option Value) (fa:Addr) (o:Obj) (pm cd doc:Value) (a:Addr) (vs:List Value) (ns:List Int),
   Ground q loose [] XP w s₀ mg mb s₁.heap→YP w s₁.heap →
   s₁.heap.get? fa=some o→o.data=.func (docDef d.name d.params d.body d.scope pm cd doc)→s₁.heap.CodeRec cd d.name→mg d.name=some (.ref fa) →
   s₁.heap.get? a=some { cls:=.type "list",data:=.seq vs.toArray }→IntsAre vs ns→ns.length≤n→s₁.gens = #[] →
   codeAny (model l.prog w) callerA (.call (.ref fa) ⟨[.ref a],[]⟩) (fun r s'=>r=.ok (.ret (.bool true))∧OldK s₁.heap s'.heap∧s'.os=s₁.os∧AllBare s'.gens) s₁) :
  WalkO q loose XP YP l.row.toRowW d [] (fun f vs=>PySem.call f vs):=by
 intro w s₀ s₁ mg mb G Y fa o pm cd doc dV kV ho hd hcd hD hmg hg args vals as hpre hlay hrd hwl hlo
 obtain rfl:dV=.none:=Dflts.none hD hdf
 obtain rfl:kV=.none:=Dflts.noKw hD
 obtain ⟨a,vs,ns,rfl,rfl,hobj,hints,hlen⟩:=script_of hn hpre hwl
 refine enter_call (codeAny_mono (call w s₀ s₁ mg mb fa o pm cd doc a vs ns G Y ho (fd_plain hd) hcd hmg hobj hints hlen hg) fun r s' hq => ?_)
 obtain ⟨rfl,h2,h3,h4⟩:=hq
 exact ⟨.inl ⟨.bool true,.bool true,[],rfl,fun _=>rfl,.bool true,post_true l _,fun _=>⟨List.Pairwise.nil,fun _ hm=>(nomatch hm)⟩⟩,h2,h3,h4⟩
section
variable {prog:Program} {w:World} {A:Around} {E:Value→Shared→Prop} {s:Shared} {K:Frag}
end
end Att
namespace L2
open PySem PySem.Spec PyProof.Rows
theorem vals_ints:∀ {vs:List Value} {ns:List Int},IntsAre vs ns→Vals (ns.map V.int) vs
 | _,_,.nil=>.nil
 | _,_,.cons n t h=>.cons ⟨t,rfl⟩ (vals_ints h)
noncomputable def Only (H:Hp):Prop:=∀ b,H b=none∨∃ o xs,H b=some (.frz o (.lst xs))
theorem law_call {P:Program} {w:World} {K:PySem.W.Frag} {mg mb:Str→Option Value} {CX:CXT} {k:Nat} {fa a:Addr} {fd:FuncData} {x:Str} {sp:Sp} {s₁:Shared} {vs:List Value} {ns:List Int}
  (KX:K.In s₁.heap) (hns:s₁.heap.Ns mainGlobals mg) (hb:s₁.heap.Ns builtinsNs mb) (hbb:∀ x:Str,x ≠ "__name__"→mb x=bootBuiltins x) (hlim:s₁.heap.NoLimit) (hg:s₁.gens = #[])
  (ha:s₁.heap.get? a=some { cls:=.type "list",data:=.seq vs.toArray }) (hi:IntsAre vs ns) (hl:ns.length≤sizeLine) (hr:Room k callerA)
  (F:∀ base:Heap,K.In base→base.Ns mainGlobals mg→FnOk P w K mg base CX k fa fd [x] sp) (hbind:∀ (s:Shared) (u:Value),BindsTo s fd ⟨[u],[]⟩ [(x,u)])
  (hsp:∀ H:Hp,Only H→SqL K H a (ns.map V.int)→sp [.ref a] H (fun v _=>v=.bl true) fun _ _ _=>False)
  (hCX:∀ H e s',CX [] H s₁ (fun _ _ _=>False) e s'→False) :
  codeAny (model P w) callerA (.call (.ref fa) ⟨[.ref a],[]⟩) (fun r s'=>r=.ok (.ret (.bool true))∧OldK s₁.heap s'.heap∧s'.os=s₁.os∧AllBare s'.gens) s₁:=by
 have rv:=vals_ints hi
 have lenV:=hi.length
 have core:∀ H:Hp,Only H→SqL K H a (ns.map V.int)→HOk P w H s₁.heap→(∀ b,H b≠none→b=a)→(H a≠none→K.lookup a=none) →
   codeAny (model P w) callerA (.call (.ref fa) ⟨[.ref a],[]⟩) (fun r s'=>r=.ok (.ret (.bool true))∧OldK s₁.heap s'.heap∧s'.os=s₁.os∧AllBare s'.gens) s₁:=by
  intro H hO hS hok hA hK
  have base_of:∀ {b:Addr} {o:Obj},s₁.heap.get? b=some o→H b=none→(hidT s₁.heap H).get? b=some o:=fun e n=>hidT_get e n
  have noA:∀ {b:Addr} {o:Obj} {es:Array DictEntry} {ep:Nat},s₁.heap.get? b=some o→o.data=.dict es ep→H b=none:=fun {b o es ep} e d=>by
   cases q:H b with
   | none=>rfl
   | some u =>
    have e':b=a:=hA b (by rw [q]; simp)
    subst e'
    rw [ha] at e; cases e
    have d':Data.seq vs.toArray _=Data.dict es ep:=d
    cases d'
  have nsK:∀ {b:Addr} {m:Str→Option Value},s₁.heap.Ns b m→(hidT s₁.heap H).Ns b m:=fun {b m} ⟨o,es,ep,e,d,r⟩=>⟨o,es,ep,base_of e (noA e d),d,r⟩
  have hKb:K.In (hidT s₁.heap H):=fun b o e=>base_of (KX b o e) (by
   cases q:H b with
   | none=>rfl
   | some u =>
    have e':b=a:=hA b (by rw [q]; simp)
    subst e'
    rw [hK (by rw [q]; simp)] at e; cases e)
  have hM:Mod K mg (hidT s₁.heap H):=⟨hKb,nsK hns,⟨mb,nsK hb,hbb⟩,let ⟨mc,h1,h2⟩:=hlim; ⟨mc,nsK h1,h2⟩⟩
  have e0:Env0 P w K mg (hidT s₁.heap H) callerA [] s₁ H:=⟨rfl,hM,fun b o e=>of_hidT e,Nat.le_of_eq (hidT_size _ _),trivial,fun b hb=>absurd (show b∈([]:List Addr) from hb) (by simp),hok,.of_eq hg⟩
  refine codeAny_mono ((F _ hKb (nsK hns)).run callerA [] s₁ H ⟨[.ref a],[]⟩ [.ref a] [.ref a] _ _ hr e0 (hbind s₁ (.ref a)) (.cons rfl .nil) (hsp H hO hS)) fun r s' h => ?_
  cases r with
  | error e=>exact (hCX H e s' h).elim
  | ok fl =>
   cases fl with
   | next=>exact False.elim h
   | brk=>exact False.elim h
   | cont=>exact False.elim h
   | ret u =>
    obtain ⟨v,H',os,bare,un,hok',r',q⟩:=h
    have q':v=.bl true:=q
    subst q'
    obtain rfl:u=Value.bool true:=r'
    refine ⟨rfl,OldK.of_keep fun b o e => ?_,os,bare⟩
    cases q:H b with
    | none=>exact un.keep b o e q (by intro z; exact absurd (show b∈([]:List Addr) from z) (by simp)) (by simp)
    | some u =>
     rcases hO b with z | ⟨ob,xs,z⟩
     ·rw [q] at z; cases z
     ·have z2:=un.frzs b ob _ z
      obtain ⟨e1,_⟩:=hok b _ z
      obtain ⟨e2,_⟩:=hok' b _ z2
      rw [e] at e1; cases e1
      exact e2
 cases hk:K.lookup a with
 | some o =>
  have e:=KX a o hk
  rw [ha] at e
  cases e
  refine core (fun _=>none) (fun _=>.inl rfl) (.inr ⟨_,vs.toArray,_,hk,rfl,rfl,rfl,by rw [List.size_toArray,lenV]; exact hl,by simpa using rv⟩) (fun b u z=>by have z':(none:Option HO)=some u:=z; cases z') (fun b z=>absurd rfl z) fun z=>absurd rfl z
 | none =>
  refine core (fun b=>if b=a then some (.frz { cls:=.type "list",data:=.seq vs.toArray } (.lst (ns.map V.int))) else none) (fun b => ?_) (.inl (.inr ⟨{ cls:=.type "list",data:=.seq vs.toArray },if_pos rfl⟩)) (fun b u z => ?_) (fun b z => ?_) fun _=>hk
  ·by_cases hb:b=a
   ·exact .inr ⟨_,_,if_pos hb⟩
   ·exact .inl (if_neg hb)
  ·by_cases hb:b=a
   ·have z':=(if_pos hb).symm.trans z
    cases z'
    subst hb
    exact ⟨ha,by rw [List.length_map]; exact hl,vs,_,rv,ha⟩
   ·have z':=(if_neg hb).symm.trans z
    cases z'
  ·by_cases hb:b=a
   ·exact hb
   ·exact absurd (if_neg hb) z
end L2
namespace L2
open PySem PySem.Spec PyProof.Rows
theorem walk_of {l:PySem.W.OpenLaw} {n k:Nat} {q:Program} {loose:List Str} {XP:(Str→Option Value)→Heap→Prop} {YP:World→Heap→Prop} {d:DefRec} {K:Params→PySem.W.Frag} {CX:World→CXT} {sp:World→Sp} {x:Str}
  (hn:l.most=some n) (hn2:n≤sizeLine) (hdf:d.params.defaults=[]) (hr:Room k callerA)
  (hY:∀ (w:World) (h:Heap),YP w h→(K w.params).In h)
  (F:∀ (w:World) (mg:Str→Option Value) (fa:Addr) (h:Heap),(K w.params).In h→h.Ns mainGlobals mg→mg d.name=some (.ref fa) →
   ∃ fd:FuncData,(∀ (s:Shared) (u:Value),BindsTo s fd ⟨[u],[]⟩ [(x,u)]) ∧
    ∀ base:Heap,(K w.params).In base→base.Ns mainGlobals mg→FnOk l.prog w (K w.params) mg base (CX w) k fa fd [x] (sp w))
  (hsp:∀ (w:World) (H:Hp) (a:Addr) (ns:List Int),ns.length≤n→Only H→SqL (K w.params) H a (ns.map V.int)→sp w [.ref a] H (fun v _=>v=.bl true) fun _ _ _=>False)
  (hCX:∀ (w:World) (H:Hp) (s:Shared) (e:Value) (s':Shared),CX w [] H s (fun _ _ _=>False) e s'→False) :
  PySem.W.WalkO q loose XP YP l.row.toRowW d [] (fun f vs=>PySem.call f vs):=by
 refine Att.attach_call hn hdf fun w s₀ s₁ mg mb fa o pm cd doc a vs ns G Y ho hd hcd hmg hobj hints hlen hg => ?_
 have KX:=hY w _ Y
 obtain ⟨fd,hb,hF⟩:=F w mg fa _ KX G.T.g hmg
 exact law_call KX G.T.g G.T.b G.T.builtins G.T.nolimit hg hobj hints (Nat.le_trans hlen hn2) hr hF hb (fun H hO hS=>hsp w H a ns hlen hO hS) fun H e s'=>hCX w H s₁ e s'
end L2
namespace L2
open PySem PySem.Spec PyProof.Rows
noncomputable def defArgs (s:Stmt):Arguments:=match s with
 | .FunctionDef _ a _ _ _ _ _ _ _ _=>a
 | _=>{ posonlyargs:=[],args:=[],vararg:=none,kwonlyargs:=[],kw_defaults:=[],kwarg:=none,defaults:=[] }
noncomputable def defBody (s:Stmt):List Stmt:=match s with
 | .FunctionDef _ _ b _ _ _ _ _ _ _=>b
 | _=>[]
noncomputable def defScope (s:Stmt):Scope:=match s with
 | .FunctionDef _ _ _ _ _ _ sc _ _ _=>sc
 | _=>{ kind:=.function,names:=[],isGenerator:=false,isCoroutine:=false }
noncomputable abbrev E0:XK:=fun _ _ _=>False
structure Fun (K:PySem.W.Frag) (x qual:Str) (st:Stmt) (f:Addr) (fd:FuncData):Prop where
 ex:∃ (oc:Value) (od:Option Addr) (kV doc pm:Value) (an:Option Addr) (cdv ct:Value) (osl:Array (Option Value)),
  fd=PySem.W.fnOf x qual (defArgs st) (defBody st) (defScope st) .none kV doc pm an cdv ct∧K.lookup f=some ⟨oc,od,.func fd,osl⟩∧PySem.W.codeIn K cdv qual=true
 kp:PySem.W.keepIn K (.ref f)=true
section
variable {P:Program} {w:World} {K:PySem.W.Frag} {mg:Str→Option Value} {base:Heap}
theorem Fun.binds {x qual:Str} {st:Stmt} {f:Addr} {fd:FuncData} {ps:List Str} (F:Fun K x qual st f fd)
  (h:∀ (kV doc pm:Value) (an:Option Addr) (cdv ct:Value) (us:List Value),us.length=ps.length→bindArgs (PySem.W.fnOf x qual (defArgs st) (defBody st) (defScope st) .none kV doc pm an cdv ct) ⟨us,[]⟩=pure (ps.zip us)):Binds K fd ps []:=by
 obtain ⟨oc,od,kV,doc,pm,an,cdv,ct,osl,rfl,lk,hcd⟩:=F.ex
 exact .all (h kV doc pm an cdv ct)
theorem fun_mk {x qual:Str} {st:Stmt} {f:Addr} {oc:Value} {od an:Option Addr} {osl:Array (Option Value)} {kV doc pm cdv ct:Value} (l:K.lookup f=some ⟨oc,od,.func (PySem.W.fnOf x qual (defArgs st) (defBody st) (defScope st) .none kV doc pm an cdv ct),osl⟩)
  (c:PySem.W.codeIn K cdv qual=true) (k:PySem.W.keepIn K (.ref f)=true):Fun K x qual st f (PySem.W.fnOf x qual (defArgs st) (defBody st) (defScope st) .none kV doc pm an cdv ct):=⟨⟨oc,od,kV,doc,pm,an,cdv,ct,osl,rfl,l,c⟩,k⟩
end
theorem small1000 {n:Nat} (h:n≤1000):n<sizeLine:=Nat.lt_of_le_of_lt h (by decide)
section
variable {X:Cx}
end
noncomputable def Same (H H':Hp):Prop:=∀ b o,H b=some o→H' b=some o
theorem Same.refl (H:Hp):Same H H:=fun _ _ h=>h
theorem Same.trans {H H1 H2:Hp} (a:Same H H1) (b:Same H1 H2):Same H H2:=fun c o h=>b c o (a c o h)
theorem Same.free {H H':Hp} (e:Same H H') {l:Addr} (h:H' l=Option.none):H l=Option.none:=by
 cases q:H l with
 | none=>rfl
 | some o =>
  rw [e l o q] at h
  cases h
theorem Same.seq {K:PySem.W.Frag} {H H':Hp} {a:Addr} {xs:List V} (e:Same H H') (h:SqL K H a xs):SqL K H' a xs:=by
 rcases h with (h | ⟨o,h⟩) | h
 ·exact .inl (.inl (e _ _ h))
 ·exact .inl (.inr ⟨o,e _ _ h⟩)
 ·exact .inr h
end L2
namespace L2
open PySem PySem.Spec PyProof.Rows
theorem forIn_folds {α β:Type} {f:α→β→Sem (ForInStep β)} (g:β→α→β):∀ (l:List α) (c:β),(∀ x∈l,∀ c,f x c=pure (.yield (g c x)))→forIn l c f=pure (l.foldl g c)
 | [],_,_=>rfl
 | x::r,c,h=>by
  rw [List.forIn_cons,h x (.head _),pure_bind]
  exact forIn_folds g r _ fun y hy=>h y (.tail _ hy)
noncomputable def cloStep (env:Env) (acc:List (Str × Addr)) (p:Str × NameKind):List (Str × Addr):=if p.2=.free then (p.1,(env.cells.lookup p.1).getD 0)::acc else acc
noncomputable def cloOf (env:Env) (names:List (Str × NameKind)) (acc:List (Str × Addr)):List (Str × Addr):=names.foldl (cloStep env) acc
theorem closureFor_clo {scope:Scope} {env:Env} (h:∀ p∈scope.names,p.2=.free→∃ c,env.cells.lookup p.1=some c):closureFor scope env=pure (cloOf env scope.names []):=by
 simp only [closureFor]
 rw [forIn_folds (cloStep env) scope.names [] (fun x hx c=>by
  obtain ⟨n,k⟩:=x
  unfold cloStep
  by_cases hk:k=.free
  ·obtain ⟨a,ha⟩:=h (n,k) hx hk
   subst hk
   have e1:cellOf env n=pure a:=by
    unfold cellOf
    rw [ha]
   have e2:(env.cells.lookup n).getD 0=a:=by rw [ha]; rfl
   simp [e1,e2]
  ·have hb:(k == NameKind.free)=false:=by simpa using hk
   simp [hb,hk])]
 rfl
theorem clo_lookup {env:Env} {x:Str} {c:Addr}:∀ (l:List (Str × NameKind)) (acc:List (Str × Addr)),(cloOf env l acc).lookup x=some c→acc.lookup x=some c∨((∃ p∈l,p.1=x∧p.2=.free)∧c=(env.cells.lookup x).getD 0)
 | [],_,h=>.inl h
 | p::r,acc,h=>by
  have ih:=clo_lookup r (cloStep env acc p) h
  rcases ih with ih | ⟨⟨q,hq,e⟩,e2⟩
  ·unfold cloStep at ih
   by_cases hp:p.2=.free
   ·rw [if_pos hp] at ih
    rw [List.lookup_cons] at ih
    cases hx:x == p.1 with
    | true =>
     rw [hx] at ih
     have e3:x=p.1:=eq_of_beq hx
     refine .inr ⟨⟨p,.head _,e3.symm,hp⟩,?_⟩
     rw [e3]
     exact (Option.some.inj ih).symm
    | false =>
     rw [hx] at ih
     exact .inl ih
   ·rw [if_neg hp] at ih
    exact .inl ih
  ·exact .inr ⟨⟨q,.tail _ hq,e⟩,e2⟩
theorem clo_keeps {env:Env} {x:Str}:∀ (l:List (Str × NameKind)) (acc:List (Str × Addr)),(∃ c,acc.lookup x=some c)→∃ c,(cloOf env l acc).lookup x=some c
 | [],_,h=>h
 | p::r,acc,h=>by
  refine clo_keeps r (cloStep env acc p) ?_
  unfold cloStep
  split
  ·rw [List.lookup_cons]
   cases x == p.1 with
   | true=>exact ⟨_,rfl⟩
   | false=>exact h
  ·exact h
theorem clo_has {env:Env} {x:Str}:∀ (l:List (Str × NameKind)) (acc:List (Str × Addr)),(x,NameKind.free)∈l→∃ c,(cloOf env l acc).lookup x=some c
 | p::r,acc,h=>by
  rcases List.mem_cons.mp h with e | h
  ·refine clo_keeps r (cloStep env acc p) ?_
   unfold cloStep
   rw [← e,if_pos rfl,List.lookup_cons,beq_self_eq_true]
   exact ⟨_,rfl⟩
  ·exact clo_has r (cloStep env acc p) h
theorem mem_of_look {x:Str} {k:NameKind}:∀ {l:List (Str × NameKind)},l.lookup x=some k→(x,k)∈l
 | [],h=>by simp at h
 | (n,k')::r,h=>by
  rw [List.lookup_cons] at h
  cases hx:x == n with
  | true =>
   rw [hx] at h
   have e:=eq_of_beq hx
   have e2:k'=k:=Option.some.inj h
   rw [e,e2]
   exact .head _
  | false =>
   rw [hx] at h
   exact .tail _ (mem_of_look h)
noncomputable def relb (env:Env) (p:Str × NameKind):Str × NameKind:=if (p.2 == .free&&env.scope.kind == .function&&env.kindOf p.1 == some .cell)=true then (p.1,.cell) else p
theorem relabel_names (scope:Scope) (env:Env):(relabel scope env).names=scope.names.map (relb env):=by
 show scope.names.map _=scope.names.map _
 refine List.map_congr_left fun p _ => ?_
 obtain ⟨n,k⟩:=p
 rfl
theorem relb_look {env:Env} {x:Str}:∀ {l:List (Str × NameKind)} {k:NameKind},(l.map (relb env)).lookup x=some k→∃ k',l.lookup x=some k'∧k=(relb env (x,k')).2
 | [],_,h=>by simp at h
 | (n,k')::r,k,h=>by
  have e1:(relb env (n,k')).1=n:=by unfold relb; split <;> rfl
  rw [List.map_cons,show relb env (n,k')=(n,(relb env (n,k')).2) from Prod.ext e1 rfl,List.lookup_cons] at h
  rw [List.lookup_cons]
  cases hx:x == n with
  | true =>
   rw [hx] at h
   have e:=eq_of_beq hx
   subst e
   exact ⟨k',rfl,(Option.some.inj h).symm⟩
  | false =>
   rw [hx] at h
   exact relb_look h
theorem relb_look_of {env:Env} {x:Str}:∀ {l:List (Str × NameKind)} {k':NameKind},l.lookup x=some k'→(l.map (relb env)).lookup x=some (relb env (x,k')).2
 | [],_,h=>by simp at h
 | (n,k)::r,k',h=>by
  have e1:(relb env (n,k)).1=n:=by unfold relb; split <;> rfl
  rw [List.map_cons,show relb env (n,k)=(n,(relb env (n,k)).2) from Prod.ext e1 rfl,List.lookup_cons]
  rw [List.lookup_cons] at h
  cases hx:x == n with
  | true =>
   rw [hx] at h
   have e:=eq_of_beq hx
   subst e
   rw [Option.some.inj h]
  | false =>
   rw [hx] at h
   exact relb_look_of h
noncomputable abbrev Cx.comp (X:Cx) (scope:Scope) (N':List Str) (fp:List Addr) (s2:Shared) (H2:Hp) (C:Addr):Cx :=
 { X with N:=N',s₀:=s2,H₀:=H2,env:=compEnvC scope (cloOf X.env scope.names []) C X.env,outer:=X.stack,ex:=fp,fn:=fun _=>false,pn:=[],xe:=fun _ _=>False }
structure CompSc (sc:Scope) (N:List Str) (scope:Scope) (N':List Str) (nl:Nat) (fr:List Nat):Prop where
 kind:scope.kind=.function
 cell:∀ y∈scope.names,y.2≠.cell
 names:∀ y∈scope.names,y.2=.local→scope.names.lookup y.1=some .local
 free:∀ y∈scope.names,y.2=.free→sc.names.lookup y.1=some .cell∨sc.names.lookup y.1=some .free
 own:N'.length=nl+fr.length
 outs:(N'.drop nl).map some=fr.map fun j=>N[j]?
 seen:∀ x∈N'.drop nl,scope.names.lookup x=some .free
noncomputable def inSt (nl:Nat) (fr:List Nat) (σ:St):St:=List.replicate nl none++fr.map fun j=>(σ[j]?).join
noncomputable def lstO (ys:List Value):Obj:={ cls:=.type "list",data:=.seq ys.toArray ys.length }
theorem lstO_snoc (ys:List Value) (y:Value):({ cls:=.type "list",data:=.seq (ys.toArray.push y) (ys.length+1) }:Obj)=lstO (ys++[y]):=by
 unfold lstO
 rw [List.length_append,List.length_singleton,List.push_toArray]
noncomputable def PTs (X:Cx) (ifs:List Expr) (t:TT):Prop :=
 ∀ (pins:List (Addr × Obj)) (s:Shared) (σ:St) (H:Hp) (Q:Bool→Hp→Prop),Inv X pins σ H s→t σ H Q →
  wpAny (model X.prog X.w) X.A (forIn ifs true fun c r=>if r=true then do let ok ← isTrue c X.env (eval c X.env); pure (ForInStep.yield ok) else pure (ForInStep.yield r)) (TP X pins σ Q) X.xe s
noncomputable def tAll:TT:=fun _ H Q=>Q true H
theorem pts_nil {X:Cx}:PTs X [] tAll:=fun _ _ _ H _ I h=>wpAny_tests_nil ⟨H,I,h⟩
theorem pts_one {X:Cx} {c:Expr} {t:TT} (h:PT X c t):PTs X [c] t:=fun pins s σ H Q I hw=>wpAny_tests_one (h pins s σ H Q I hw)
theorem compLoop_any {prog:Program} {w:World} {A:Around} {R:Result→Shared→Prop} {s:Shared} {elt tg iter:Expr} {ifs:List Expr} {scope:Scope} {pos:Pos} {it acc:Value} {env:Env} (J:Nat→Shared→Prop)
  (turn:∀ n s,J n s→∀ E,wpAny (model prog w) A (pyNext it) (fun r s1=>match r with
   | none=>R (.ok .next) s1
   | some v=>wpAny (model prog w) A (letOwnedTupleGo tg it v) (fun _ s2=>wpAny (model prog w) A (assign tg env v) (fun _ s3 =>
     wpAny (model prog w) A (forIn ifs true fun c r=>if r=true then do let ok ← isTrue c env (eval c env); pure (ForInStep.yield ok) else pure (ForInStep.yield r)) (fun ok s4 =>
      if ok=true then wpAny (model prog w) A (eval elt env) (fun x s5=>wpAny (model prog w) A (call (.builtin "list.append") [acc,x]) (fun _ s6=>∃ m,m<n∧J m s6) E s5) E s4
      else ∃ m,m<n∧J m s4) E s3) E s2) E s1) E s)
  (n:Nat) (h:J n s):codeAny (model prog w) A (.compLoop (.ListComp elt [⟨tg,iter,ifs,0⟩] scope pos) 0 it acc env) R s:=by
 refine codeAny_loop rfl J (fun n s hJ => ?_) n h
 show wpAny _ A ((compTurn (.ListComp elt [⟨tg,iter,ifs,0⟩] scope pos) 0 it acc env).onRaise (fun x=>do noteFrame x env; theTreesLotGoes x)) _ _ s
 refine wpAny_noted ?_
 rw [compTurn_list]
 refine wpAny_bind (wpAny_standAt (wpAny_bind (thn (turn n s hJ _) fun r s1 h1 => ?_)))
 cases r with
 | none=>exact wpAny_pure h1
 | some v =>
  refine wpAny_bind (thn h1 fun _ s2 h2=>wpAny_bind (thn h2 fun _ s3 h3=>wpAny_bind (thn h3 fun ok s4 h4 => ?_)))
  cases ok with
  | false=>exact wpAny_pure ⟨rfl,h4⟩
  | true=>exact wpAny_bind (wpAny_bind (thn h4 fun x s5 h5=>wpAny_bind (thn h5 fun _ s6 h6=>wpAny_pure (wpAny_pure ⟨rfl,h6⟩))))
section
variable {X:Cx} {tg:Expr}
noncomputable def tCompW (nl:Nat) (fr:List Nat) (wi:TI) (g:TG) (ti:TT) (te:TE) (fin:List V→Hp→Prop):St→Hp→Prop:=fun σ H=>wi σ H fun J H1=>∃ W:Nat→Nat→St→List V→Hp→Prop,(∃ m,W 0 m (inSt nl fr σ) [] H1)∧∀ i m τ vs H,W i m τ vs H →
 vs.length≤sizeLine∧((J.stop i H∧fin vs H)∨(J.go i H∧∀ x H',J.yld i H x H'→g x τ H' fun τ2 H2=>ti τ2 H2 fun b H3 =>
  if b=true then te τ2 H3 fun y H4=>∃ m',m'<m∧W (i+1) m' τ2 (vs++[y]) H4 else ∃ m',m'<m∧W (i+1) m' τ2 vs H3))
theorem Cx.Ok.comp {scope:Scope} {N':List Str} {nl:Nat} {fr:List Nat} (hK:CompSc X.env.scope X.N scope N' nl fr) {pins:List (Addr × Obj)} {σ:St} {H2:Hp} {s2:Shared} {fp:List Addr} {C:Addr} (I2:Inv X pins σ H2 s2) (f2:∀ b∈fp,FpOk X pins H2 b) (fl:∀ b∈fp,b<s2.heap.objs.size)
  (hC:s2.heap.objs.size≤C):(X.comp scope N' fp s2 H2 C).Ok:=by
 have ok:=I2.ok
 have lk:∀ x c,(cloOf X.env scope.names []).lookup x=some c→X.env.cells.lookup x=some c:=fun x c e=>by
  rcases clo_lookup _ _ e with z | ⟨⟨p,hp,e1,e2⟩,e3⟩
  ·simp at z
  ·obtain ⟨c',hc'⟩:=ok.has x (by
    rw [← e1]
    rcases hK.free p hp e2 with z | z
    ·exact .inl z
    ·exact .inr z)
   rw [hc'] at e3
   rw [hc',e3]
   rfl
 have cl:∀ x c,X.env.cells.lookup x=some c→c<s2.heap.objs.size:=fun x c e=>by
  obtain ⟨v,q⟩:=I2.cell x c e
  exact q.lt
 refine ⟨ok.mod,hK.kind,ok.glob,ok.blt,hC,fun x y c e1 e2=>ok.inj x y c (lk x c e1) (lk y c e2),fun x hx => ?_,fun x c z=>(by cases z),ok.hd,ok.frames,.inl rfl,fun b hb=>⟨?_,fun x c e => ?_⟩,fun b o e => ?_,?_,fun b o e hb => ?_,fun b hb z => ?_,I2.stack,I2.stkFree⟩
 ·have hx':((scope.names.map (relb X.env)).lookup x=some .cell∨(scope.names.map (relb X.env)).lookup x=some .free):=by
   rw [← relabel_names]
   exact hx
  have key:scope.names.lookup x=some .free:=by
   rcases hx' with z | z
   ·obtain ⟨k',e1,e2⟩:=relb_look z
    cases k' with
    | free=>exact e1
    | cell=>exact absurd rfl (hK.cell _ (mem_of_look e1))
    | _=>simp [relb] at e2
   ·obtain ⟨k',e1,e2⟩:=relb_look z
    cases k' with
    | free=>exact e1
    | _=>simp [relb] at e2
  exact clo_has _ _ (mem_of_look key)
 ·exact Nat.ne_of_lt (Nat.lt_of_lt_of_le (fl b hb) hC)
 ·exact (f2 b hb).2.2.2.2.1 x c (lk x c e)
 ·exact I2.bs b o e
 ·exact Nat.le_trans ok.bsz I2.sz
 ·rcases (f2 b hb).2.2.2.1 with z | z
  ·exact ok.noex b o e z
  ·exact absurd (Nat.lt_of_lt_of_le (Heap.lt_size e) (Nat.le_trans ok.bsz z)) (Nat.lt_irrefl _)
 ·rcases List.mem_cons.mp (I2.stkSub b z) with e | e
  ·exact (f2 b hb).2.1 e
  ·exact (f2 b hb).2.2.1 e
theorem inSt_get {nl:Nat} {fr:List Nat} {σ:St} {i:Nat} {v:V} (h:(inSt nl fr σ)[i]?=some (some v)):∃ k j,i=nl+k∧fr[k]?=some j∧σ[j]?=some (some v):=by
 unfold inSt at h
 by_cases hi:i<nl
 ·rw [List.getElem?_append_left (by simpa using hi),List.getElem?_replicate,if_pos hi] at h
  cases h
 ·rw [List.getElem?_append_right (by simpa using Nat.le_of_not_lt hi),List.length_replicate,List.getElem?_map] at h
  cases e:fr[i - nl]? with
  | none=>rw [e] at h; cases h
  | some j =>
   rw [e] at h
   refine ⟨i - nl,j,by omega,e,?_⟩
   have h':(σ[j]?).join=some v:=Option.some.inj h
   cases e2:σ[j]? with
   | none=>rw [e2] at h'; cases h'
   | some o=>rw [e2] at h'; rw [show o=some v from h']
theorem Inv.comp {scope:Scope} {N':List Str} {nl:Nat} {fr:List Nat} (hK:CompSc X.env.scope X.N scope N' nl fr) {pins:List (Addr × Obj)} {σ:St} {H2:Hp} {s2:Shared} {fp:List Addr} {C:Addr} {h1:Heap} {tk:Nat} {m1:Str→Option Value} (I2:Inv X pins σ H2 s2)
  (f2:∀ b∈fp,FpOk X pins H2 b) (fl:∀ b∈fp,b<s2.heap.objs.size) (hC:s2.heap.objs.size≤C) (old:∀ b o,s2.heap.get? b=some o→h1.get? b=some o) (hn:h1.Ns C m1) :
  Inv (X.comp scope N' fp s2 H2 C) [] (inSt nl fr σ) H2 { s2 with heap:=h1,toks:=tk }:=by
 have ok:=Cx.Ok.comp hK I2 f2 fl hC
 have lk:∀ x c,(cloOf X.env scope.names []).lookup x=some c→X.env.cells.lookup x=some c:=fun x c e=>by
  rcases clo_lookup _ _ e with z | ⟨⟨p,hp,e1,e2⟩,e3⟩
  ·simp at z
  ·obtain ⟨c',hc'⟩:=I2.ok.has x (by
    rw [← e1]
    rcases hK.free p hp e2 with z | z
    ·exact .inl z
    ·exact .inr z)
   rw [hc'] at e3
   rw [hc',e3]
   rfl
 have cellK:∀ c v,s2.heap.IsCell c v→h1.IsCell c v:=fun c v ⟨o,ho,hd⟩=>⟨o,old c o ho,hd⟩
 refine ⟨ok,rfl,I2.bare,Un.kept old,⟨m1,hn,fun i x v e1 e2 e3 => ?_⟩,fun x c e => ?_,I2.hok.fresh hC,fun x c e=>I2.freeC x c (lk x c e),fun p hp=>(nomatch hp),I2.hok.kept old,?_⟩
 ·obtain ⟨k,j,rfl,ej,ev⟩:=inSt_get e2
  have e4:(N'.drop nl)[k]?=some x:=by rw [List.getElem?_drop]; exact e1
  have e5:X.N[j]?=some x:=by
   have z:=congrArg (fun l=>l[k]?) hK.outs
   simp only [List.getElem?_map,e4,ej,Option.map_some] at z
   exact (Option.some.inj z).symm
  have hx:=hK.seen x (List.mem_of_getElem? e4)
  have hk:=hK.free _ (mem_of_look hx) rfl
  obtain ⟨m,_,hl⟩:=I2.loc
  obtain ⟨u,r,l⟩:=hl j x v e5 ev (hk.elim (fun z=>.inr (.inl z)) fun z=>.inr (.inr z))
  refine ⟨u,r,.inr ⟨?_,?_⟩⟩
  ·have z:=relb_look_of (env:=X.env) hx
   rw [← relabel_names] at z
   have z':(relb X.env (x,NameKind.free)).2=.cell∨(relb X.env (x,NameKind.free)).2=.free:=by
    unfold relb
    split
    ·exact .inl rfl
    ·exact .inr rfl
   rcases z' with q | q
   ·rw [q] at z; exact .inl z
   ·rw [q] at z; exact .inr z
  ·obtain ⟨c,hc⟩:=clo_has (env:=X.env) scope.names [] (mem_of_look hx)
   refine ⟨c,hc,?_⟩
   rcases l with ⟨k1,_⟩ | ⟨_,c',hc',hv⟩
   ·have k1':X.env.scope.names.lookup x=some .local:=k1
    rcases hk with z | z
    ·rw [k1'] at z; cases z
    ·rw [k1'] at z; cases z
   ·rw [lk x c hc] at hc'
    cases hc'
    exact cellK c _ hv
 ·obtain ⟨v,q⟩:=I2.cell x c (lk x c e)
  exact ⟨v,cellK c v q⟩
 ·show (inSt nl fr σ).length=N'.length
  unfold inSt
  rw [hK.own,List.length_append,List.length_replicate,List.length_map]
theorem comp_block {elt iter:Expr} {ifs:List Expr} {scope:Scope} {pos:Pos} {N':List Str} {nl:Nat} {fr:List Nat} {g:TG} {ti:TT} {te:TE} {fin:List V→Hp→Prop} {E:Value→Shared→Prop} {RR:Value→Addr→Result→Shared→Prop}
  (hK:CompSc X.env.scope X.N scope N' nl fr) (hc:X.calm=true) (hg:∀ fp s2 H2 C,PG (X.comp scope N' fp s2 H2 C) tg g) (ht:∀ fp s2 H2 C,PTs (X.comp scope N' fp s2 H2 C) ifs ti) (he:∀ fp s2 H2 C,PE (X.comp scope N' fp s2 H2 C) elt te)
  {pins:List (Addr × Obj)} {σ:St} {s2:Shared} {itv:Value}
  (h2:PIE X pins σ tg (fun J H1=>∃ W:Nat→Nat→St→List V→Hp→Prop,(∃ m,W 0 m (inSt nl fr σ) [] H1)∧∀ i m τ vs H,W i m τ vs H →
   vs.length≤sizeLine∧((J.stop i H∧fin vs H)∨(J.go i H∧∀ x H',J.yld i H x H'→g x τ H' fun τ2 H2=>ti τ2 H2 fun b H3 =>
    if b=true then te τ2 H3 fun y H4=>∃ m',m'<m∧W (i+1) m' τ2 (vs++[y]) H4 else ∃ m',m'<m∧W (i+1) m' τ2 vs H3))) itv s2)
  (hRR:∀ (D C:Addr) (s':Shared) (vs:List V) (H':Hp) (m:Str→Option Value),H' D=none→fin vs H'→Inv X pins σ (upd H' D (.lst vs)) s'→s'.heap.Ns C m→FpOk X pins (upd H' D (.lst vs)) C→RR (.ref D) C (.ok .next) s') :
  wpAny (model X.prog X.w) X.A (newList []) (fun acc s3=>wpAny (model X.prog X.w) X.A (newFunctionEnv scope X.env.globals (cloOf X.env scope.names []) [] X.env.qual none .none (some X.env)) (fun cenv s4 =>
   codeAny (model X.prog X.w) X.A (.compStart (.ListComp elt [⟨tg,iter,ifs,0⟩] scope pos) 0 itv acc { cenv with scope:=relabel scope X.env }) (RR acc cenv.locals) s4) E s3) E s2:=by
 obtain ⟨it,fp,tn,J,H2,e,I2,T,st2,f2,W,⟨m0,w0⟩,turn⟩:=h2
 subst e
 have fl:∀ b∈fp,b<s2.heap.objs.size:=fun b hb=>by
  obtain ⟨o,e,_⟩:=T.obj _ _ st2 b hb
  exact Heap.lt_size e
 refine wpAny_newObj_type (wpAny_newFunctionEnv hK.cell (fun y hy=>(nomatch hy)) (fun h1 hns1 hsb1 => ?_) hK.kind)
 dsimp only at hns1 hsb1 ⊢
 generalize hP:s2.heap.push { cls:=.type "list",dict:=none,data:=.seq ([]:List Value).toArray }=P1 at hns1 hsb1 ⊢
 have eC:P1.objs.size=s2.heap.objs.size+1:=by rw [← hP,Heap.size_push]
 have hDC:s2.heap.objs.size≠P1.objs.size:=by rw [eC]; exact Nat.ne_of_lt (Nat.lt_succ_self _)
 have hCle:s2.heap.objs.size≤P1.objs.size:=by rw [eC]; exact Nat.le_succ _
 have old:∀ b o,s2.heap.get? b=some o→h1.get? b=some o:=fun b o e =>
  hsb1.extBut b o (by rw [eC]; exact Nat.ne_of_lt (Nat.lt_succ_of_lt (Heap.lt_size e))) (Heap.get?_push_of_some _ (hP ▸ Heap.get?_push_of_some _ e))
 have hacc:h1.get? s2.heap.objs.size=some (lstO []):=hsb1.extBut _ _ hDC (Heap.get?_push_of_some _ (hP ▸ Heap.get?_push_size _ rfl))
 have hDH:H2 s2.heap.objs.size=none:=I2.hok.fresh (Nat.le_refl _)
 generalize hCe:P1.objs.size=C at hns1 hsb1 hDC hCle ⊢
 generalize hDe:s2.heap.objs.size=D at hDC hacc hDH ⊢
 have hDle:s2.heap.objs.size≤D:=by rw [hDe]; exact Nat.le_refl _
 have nfD:∀ b∈fp,b≠D:=fun b hb=>Nat.ne_of_lt (Nat.lt_of_lt_of_le (fl b hb) hDle)
 have I1:Inv (X.comp scope N' fp s2 H2 C) [] (inSt nl fr σ) H2 { s2 with heap:=h1,toks:=s2.toks+([]:List (Str × Value)).length }:=I2.comp hK f2 fl hCle old hns1
 have okX:=I1.ok
 have fpX:∀ {H:Hp} {pl:List (Addr × Obj)},(∀ b∈fp,H b=none)→(∀ p∈pl,∀ b∈fp,p.1≠b)→∀ b∈fp,FpOk (X.comp scope N' fp s2 H2 C) pl H b:=fun {H pl} hn hp b hb =>
  ⟨hn b hb,(okX.exf b hb).1,okX.exfs b hb,.inl hb,(okX.exf b hb).2,fun p z=>hp p (by simpa using z) b hb⟩
 have nDs:D ∉ (X.comp scope N' fp s2 H2 C).fs:=fun z=>by
  obtain ⟨_,o,ho,_⟩:=I2.stack.mem z
  exact absurd (Nat.lt_of_lt_of_le (Heap.lt_size ho) hDle) (Nat.lt_irrefl _)
 have ndat:∀ (ys:List Value) v,(lstO ys).data≠.cell v:=fun ys v z=>(nomatch z)
 have cnD:∀ x c,(X.comp scope N' fp s2 H2 C).env.cells.lookup x=some c→c≠D:=fun x c e z=>by
  obtain ⟨v,q⟩:=I1.cell x c e
  have hfc:=I1.freeC x c e
  obtain ⟨o,ho,hd⟩:=q
  rw [z] at ho
  have ho':h1.get? D=some o:=ho
  rw [hacc] at ho'
  cases ho'
  cases hd
 have pinD:∀ {pl:List (Addr × Obj)} {τ:St} {H:Hp} {s:Shared} {ys:List Value},Inv (X.comp scope N' fp s2 H2 C) pl τ H s→H D=none→s.heap.get? D=some (lstO ys)→∀ pl':List (Addr × Obj),(∀ p∈pl',p∈pl)→Inv (X.comp scope N' fp s2 H2 C) (pl'++[(D,lstO ys)]) τ H s :=
  fun {pl τ H s ys} I hn hd pl' hsub=>I.pins_of fun p hp=>(List.mem_append.mp hp).elim (fun z=>I.pin p (List.mem_append_right _ (hsub p z))) fun z=>by
   have e:=List.mem_singleton.mp z
   subst e
   exact ⟨hd,hn,hDC,nDs,ndat ys⟩
 have loop:codeAny (model X.prog X.w) X.A (.compLoop (.ListComp elt [⟨tg,iter,ifs,0⟩] scope pos) 0 (.ref it) (.ref D) (compEnvC scope (cloOf X.env scope.names []) C X.env)) (RR (.ref D) C) { s2 with heap:=h1,toks:=s2.toks+([]:List (Str × Value)).length }:=by
  refine compLoop_any (fun n s'=>∃ i τ vs ys H',Inv (X.comp scope N' fp s2 H2 C) [(D,lstO ys)] τ H' s'∧tn i s'.heap∧(∀ b∈fp,H' b=none)∧Vals vs ys∧W i n τ vs H') ?_ m0
   ⟨0,inSt nl fr σ,[],[],H2,pinD I1 hDH hacc [] (fun _ z=>(nomatch z)),T.keep _ _ _ st2 (fun b hb o e=>old b o e),fun b hb=>(f2 b hb).1,.nil,w0⟩
  rintro n s3 ⟨i,τ,vs,ys,H3,I3,st3,fr3,rv,w3⟩ E'
  obtain ⟨hsz,alt⟩:=turn i n τ vs H3 w3
  have pD3:=I3.pin (D,lstO ys) (by simp)
  have fpo:∀ b∈fp,FpOk (X.comp scope N' fp s2 H2 C) [(D,lstO ys)] H3 b:=fpX fr3 fun p hp b hb=>by
   rw [List.mem_singleton.mp hp]
   exact (nfD b hb).symm
  rcases alt with ⟨stop,q⟩ | ⟨go,step⟩
  ·refine thn (T.done (X.comp scope N' fp s2 H2 C) rfl rfl rfl hc i [(D,lstO ys)] s3 τ H3 E' I3 fpo st3 stop) fun r s4 ⟨hr,I4⟩ => ?_
   subst hr
   have pD4:=I4.pin (D,lstO ys) (by simp)
   have bs:=I4.base
   have hoD:∀ b u,H3 b=some u→b≠D:=fun b u e=>ne_of_none e pD4.2.1
   have I5:Inv X pins σ (upd H3 D (.lst vs)) s4:=by
    refine I2.call' (ch:=fp) I4.os ⟨bs.keep,bs.slot,fun b o e n hx => ?_,bs.there,fun b xs e => ?_,fun b o u e => ?_,fun b ps e => ?_⟩ (fun b u e => ?_) I4.bare fun b hb=>⟨(f2 b hb).2.2.2.1,(f2 b hb).2.1,(f2 b hb).2.2.2.2⟩
    ·rw [upd_ne (Nat.ne_of_lt (Nat.lt_of_lt_of_le (Heap.lt_size e) hDle))]
     exact bs.free b o e n hx
    ·have z:=bs.tups b xs e
     rw [upd_ne (hoD b _ z)]
     exact z
    ·have z:=bs.frzs b o u e
     rw [upd_ne (hoD b _ z)]
     exact z
    ·obtain ⟨more,z⟩:=bs.tbls b ps e
     refine ⟨more,?_⟩
     rw [upd_ne (hoD b _ z)]
     exact z
    ·by_cases hb:b=D
     ·subst hb
      rw [upd_same] at e
      cases e
      exact ⟨hsz,ys,ys.length,rv,pD4.1⟩
     ·rw [upd_ne hb] at e
      exact (I4.hok b u e).stay (fun _ _ _ q=>q) (fun c q=>by rw [upd_ne (hoD c _ q)]; exact q) fun c xs q=>by rw [upd_ne (hoD c _ q)]; exact q
   obtain ⟨m4,hm4,_⟩:=I4.loc
   exact hRR D C s4 vs H3 m4 pD4.2.1 q I5 hm4 (I2.fpOk hCle (by rw [upd_ne hDC.symm]; exact I4.free))
  ·refine thn (T.item (X.comp scope N' fp s2 H2 C) rfl rfl rfl hc i [(D,lstO ys)] s3 τ H3 E' I3 fpo st3 go) fun r s4 ⟨u,hr,h4⟩ => ?_
   subst hr
   refine thn h4 fun _ s5 ⟨x,H5,I5,r5,y5,st5,fr5⟩ => ?_
   have I5':=I5.pinned (fpX fr5 fun p hp b hb=>by rw [List.mem_singleton.mp hp]; exact (nfD b hb).symm) (T.obj _ _ st5)
   refine wpAny_mono (hg fp s2 H2 C _ s5 τ H5 x u _ I5' r5 (step x H5 y5)) (fun _ s6 ⟨τ6,H6,I6,q6⟩ => ?_) fun _ _ f=>f.elim
   refine wpAny_mono (ht fp s2 H2 C _ s6 τ6 H6 _ I6 q6) (fun ok s7 ⟨H7,I7,q7⟩ => ?_) fun _ _ f=>f.elim
   have endT:∀ {H8:Hp} {s8:Shared} {vs':List V} {ys':List Value},Inv (X.comp scope N' fp s2 H2 C) (pinsAt fp s5.heap) τ6 H8 s8→H8 D=none→s8.heap.get? D=some (lstO ys')→Vals vs' ys'→(∃ m',m'<n∧W (i+1) m' τ6 vs' H8) →
     ∃ m,m<n∧∃ i τ vs ys H',Inv (X.comp scope N' fp s2 H2 C) [(D,lstO ys)] τ H' s8∧tn i s8.heap∧(∀ b∈fp,H' b=none)∧Vals vs ys∧W i m τ vs H':=fun {H8 s8 vs' ys'} I8 n8 d8 rv8 w8=>by
    obtain ⟨m',hm,w8⟩:=w8
    refine ⟨m',hm,i+1,τ6,vs',ys',H8,pinD I8 n8 d8 [] (fun _ z=>(nomatch z)),T.keep _ _ _ st5 fun b hb o e=>(I8.pin (b,o) (by simpa using mem_pinsAt hb e)).1,fun b hb => ?_,rv8,w8⟩
    obtain ⟨o,e,d⟩:=T.obj _ _ st5 b hb
    exact (I8.pin (b,o) (by simpa using mem_pinsAt hb e)).2.1
   cases ok with
   | false =>
    rw [if_neg (by decide)] at q7 ⊢
    have z:=I7.pin (D,lstO ys) (by simp)
    exact endT (I7.pins_of fun p hp=>I7.pin p (by simp [hp])) z.2.1 z.1 rv q7
   | true =>
    rw [if_pos rfl] at q7 ⊢
    refine wpAny_mono (he fp s2 H2 C _ s7 τ6 H7 _ I7 q7) (fun yv s8 ⟨y,H8,I8,r8,q8⟩ => ?_) fun _ _ f=>f.elim
    have z:=I8.pin (D,lstO ys) (by simp)
    have zl:ys.toArray.size≤sizeLine:=by
     rw [List.size_toArray,← rv.length]
     exact hsz
    refine append_at (hsz:=zl) z.1 fun h9 sb9 d9 => ?_
    have I8':Inv (X.comp scope N' fp s2 H2 C) (pinsAt fp s5.heap) τ6 H8 s8:=I8.pins_of fun p hp=>I8.pin p (by simp [hp])
    have I9:Inv (X.comp scope N' fp s2 H2 C) (pinsAt fp s5.heap) τ6 H8 { s8 with heap:=h9 }:=I8'.turned (t':=s8.toks) (it:=D) (fun b o hb e=>(sb9.2 b hb).trans e) z.2.1 hDC (.inr hDle) cnD fun p hp e=>by
     have hp':p∈pinsAt fp s5.heap:=by simpa using hp
     exact nfD p.1 (of_pinsAt hp').1 e
    exact endT I9 z.2.1 (d9.trans (congrArg some (lstO_snoc ys yv))) (Vals.append rv (.cons r8 .nil)) q8
 exact codeAny_compStart_list loop (T.self _ 0 _ _ _ (T.keep _ _ _ st2 fun b hb o e=>old b o e) loop)
noncomputable def tComp (nl:Nat) (fr:List Nat) (wi:TI) (g:TG) (ti:TT) (te:TE):TE:=fun σ H Q=>tCompW nl fr wi g ti te (fun vs H'=>∀ p,H' p=none→Q (.ref p) (upd H' p (.lst vs))) σ H
theorem pe_comp {elt iter:Expr} {ifs:List Expr} {scope:Scope} {pos:Pos} {N':List Str} {nl:Nat} {fr:List Nat} {wi:TI} {g:TG} {ti:TT} {te:TE} {sc:Scope} {N:List Str} (hK:CompSc sc N scope N' nl fr) (hc:X.calm=true) (hi:PI X tg iter wi)
  (hg:∀ fp s2 H2 C,PG (X.comp scope N' fp s2 H2 C) tg g) (ht:∀ fp s2 H2 C,PTs (X.comp scope N' fp s2 H2 C) ifs ti) (he:∀ fp s2 H2 C,PE (X.comp scope N' fp s2 H2 C) elt te) (hs:∀ x,foldedSetIterable iter X.env x=pure x:=by intro _; rfl) (hsc:X.env.scope=sc:=by rfl) (hNN:X.N=N:=by rfl) :
  PE X (.ListComp elt [⟨tg,iter,ifs,0⟩] scope pos) (tComp nl fr wi g ti te):=by
 subst hsc hNN
 intro pins s σ H Q I h
 have hclo:closureFor scope X.env=pure (cloOf X.env scope.names []):=closureFor_clo fun p hp e=>I.ok.has p.1 (by
  rcases hK.free p hp e with z | z
  ·exact .inl z
  ·exact .inr z)
 rw [eval_ListComp]
 refine wpAny_comprehension_free (use:=none) rfl hs hclo hK.kind hK.names (thn (hi pins s σ H _ I h) fun v s1 h1=>thn h1 fun itv s2 h2 => ?_)
 refine comp_block (RR:=fun acc C=>compPost (model X.prog X.w) X.A X.xe none (EP X pins σ Q) acc C) hK hc hg ht he h2 fun D C s' vs H' m hD q I' hn fC => ?_
 refine ⟨m,hn,fun h' sb=>⟨.ref D,_,I'.turned (t':=s'.toks) (fun b o hb e=>(sb.2 b hb).trans e) fC.1 fC.2.1 fC.2.2.2.1 fC.2.2.2.2.1 fC.2.2.2.2.2,rfl,q D hD⟩⟩
noncomputable def sComp (i nl:Nat) (fr:List Nat) (wi:TI) (g:TG) (ti:TT) (te:TE):TS:=fun D σ H=>tCompW nl fr wi g ti te (fun vs H'=>∀ p,H' p=none→D.nx (σ.set i (some (.ref p))) (upd H' p (.lst vs))) σ H
theorem ps_comp {i:Nat} {y:Str} {py spos:Pos} {elt iter:Expr} {ifs:List Expr} {scope:Scope} {pos:Pos} {N':List Str} {nl:Nat} {fr:List Nat} {wi:TI} {g:TG} {ti:TT} {te:TE} (hN:X.N.Nodup) (hy:X.N[i]?=some y) (hl:Loc X.env.scope y)
  {sc:Scope} {N:List Str} (hK:CompSc sc N scope N' nl fr) (hc:X.calm=true) (hi:PI X tg iter wi)
  (hg:∀ fp s2 H2 C,PG (X.comp scope N' fp s2 H2 C) tg g) (ht:∀ fp s2 H2 C,PTs (X.comp scope N' fp s2 H2 C) ifs ti) (he:∀ fp s2 H2 C,PE (X.comp scope N' fp s2 H2 C) elt te)
  (hsw:swapsWith (.ListComp elt [⟨tg,iter,ifs,0⟩] scope pos) (some (.Name y py)) spos.line X.env=pure true:=by rfl) (hf:X.fn y=true∨X.env.scope.names.lookup y=some .local:=by first | exact .inl rfl | exact .inr rfl | assumption) (hs:∀ x,foldedSetIterable iter X.env x=pure x:=by intro _; rfl) (hsc:X.env.scope=sc:=by rfl) (hNN:X.N=N:=by rfl) :
  PS X (.Assign [.Name y py] (.ListComp elt [⟨tg,iter,ifs,0⟩] scope pos) spos) (sComp i nl fr wi g ti te):=by
 subst hsc hNN
 intro pins s σ H D I h
 have hclo:closureFor scope X.env=pure (cloOf X.env scope.names []):=closureFor_clo fun p hp e=>I.ok.has p.1 (by
  rcases hK.free p hp e with z | z
  ·exact .inl z
  ·exact .inr z)
 rw [exec_Assign_Name_used _ _ _ _ hsw]
 refine wpAny_bind (wpAny_standAt (wpAny_bind ?_))
 show wpAny _ X.A (do let _ ← comprehension (.ListComp elt [⟨tg,iter,ifs,0⟩] scope pos) scope X.env _ (newList []) false (eval iter X.env) (some (assign (.Name y py) X.env))) _ _ s
 refine wpAny_bind (thn (wpAny_comprehension_free (use:=some (assign (.Name y py) X.env)) (Q:=fun _ s'=>SP X pins D .next s') rfl hs hclo hK.kind hK.names
  (thn (hi pins s σ H _ I h) fun v s1 h1=>thn h1 fun itv s2 h2 => ?_)) fun _ s' q=>wpAny_pure (wpAny_pure q))
 refine comp_block (RR:=fun acc C=>compPost (model X.prog X.w) X.A X.xe (some (assign (.Name y py) X.env)) (fun _ s'=>SP X pins D .next s') acc C) hK hc hg ht he h2 fun L C s' vs H' m hD q I' hn fC => ?_
 refine wpAny_assign_Name (store_ok2 I' hN hy hl (v:=.ref L) rfl (fun s3 I3 ⟨a,sb,ha⟩ => ?_) hf)
 have nC:C≠a:=by
  rcases ha with e | e
  ·rw [e]; exact fC.2.1
  ·exact (fC.2.2.2.2.1 y a e).symm
 refine ⟨m,hn.sameBut sb nC,fun h' sb'=>⟨_,_,I3.turned (t':=s3.toks) (fun b o hb e=>(sb'.2 b hb).trans e) fC.1 fC.2.1 fC.2.2.2.1 fC.2.2.2.2.1 fC.2.2.2.2.2,q L hD⟩⟩
end
end L2
namespace L2
open PySem PySem.Spec PyProof.Rows
section
variable {X:Cx} {x:Str} {k:Nat} {ps:List Str} {sp:Sp} {e:Expr} {es:List Expr} {t:TA} {p pos:Pos}
end
section
variable {X:Cx}
noncomputable def CShl (i j:Int):Prop:=0≤j∧(Builtin.Int.intBits i:Int)+j≤134217728
theorem op_shlB:OpR X (binaryOp .LShift) (rI CShl fun i j=>.int (i * 2 ^ j.toNat)):=opI fun _ _ _ _ _ _ _ hc q=>lshift_int hc.1 hc.2 q
theorem op_mulB:OpR X (binaryOp .Mult) (rI IntMulOk fun i j=>.int (i * j)):=opI fun _ _ _ _ _ _ _ hc q=>mul_int q hc
noncomputable def clsV:V→Option Value
 | .ty n=>some (.type n)
 | .ref a=>some (.ref a)
 | _=>none
theorem call_isinst:CallR X (.builtin "isinstance") (fun xs H Q=>∃ x c cv t b,xs=[x,c]∧TyOf X.K H x t∧clsV c=some cv∧PySem.W.kitOne X.K t cv=some b∧Q (.bl b) H):=by
 intro pins s σ H xs us Q I r h
 obtain ⟨x,c,cv,t,b,rfl,ty,hc,hk,q⟩:=h
 obtain ⟨u,w',rfl,rx,rc⟩:=vals2 r
 have e:w'=cv:=by
  cases c with
  | ty n=>cases (show w'=Value.type n from rc); exact Option.some.inj hc
  | ref a=>cases (show w'=Value.ref a from rc); exact Option.some.inj hc
  | _=>cases hc
 subst e
 exact isinst_ok I rx ty hk fun tk=>⟨.bl b,H,I.tok tk,rfl,q⟩
end
section
variable {X:Cx}
end
theorem Same.new {H:Hp} {p:Addr} (h:H p=none) (o:HO):Same H (upd H p o):=fun b u q=>by rw [upd_ne (ne_of_none q h)]; exact q
theorem kit_ll (K:PySem.W.Frag):PySem.W.kitOne K (.type "list") (.type "list")=some true:=by
 unfold PySem.W.kitOne
 rw [if_pos (by decide)]
theorem kit_ii (K:PySem.W.Frag):PySem.W.kitOne K (.type "int") (.type "int")=some true:=by
 unfold PySem.W.kitOne
 rw [if_pos (by decide)]
theorem kit_bb (K:PySem.W.Frag):PySem.W.kitOne K (.type "bool") (.type "bool")=some true:=by
 unfold PySem.W.kitOne
 rw [if_pos (by decide)]
theorem kit_ib (K:PySem.W.Frag):PySem.W.kitOne K (.type "int") (.type "bool")=some false:=by
 unfold PySem.W.kitOne
 rw [if_neg (by decide)]
 show (if PySem.W.kitMeta "bool" = true then PySem.W.subIn K (.type "int") (.type "bool") else none)=some false
 rw [if_pos (by kernel_rfl)]
 show (fastBuiltinMro "int").map (·.contains (Value.type "bool"))=some false
 kernel_rfl
end L2
namespace L2
open PySem PySem.Spec PyProof.Rows
section
variable {X:Cx} {pins:List (Addr × Obj)} {σ:St} {H:Hp} {s:Shared} {h':Heap}
end
section
variable {X:Cx}
end
end L2
namespace L2
open PySem PySem.Spec PyProof.Rows
noncomputable def Its (lo c:Int) (n:Nat):It:=⟨fun i _=>i<n,fun i H x H'=>H'=H∧x=.int (lo+i * c),fun i _=>n≤i⟩
theorem turn_rangeS {P:Program} {w:World} {K:PySem.W.Frag} {tg:Expr} (it:Addr) (lo c:Int) (n:Nat):Turn P w K tg (Its lo c n) [it] it (fun i h=>IsRangeIter h it (lo+(i:Nat) * c) ((n:Int) - (i:Nat)) c) where
 mem:=by simp
 obj:=fun i h st b hb=>by
  have e:b=it:=by simpa using hb
  subst e
  exact ⟨_,st,fun v z=>by
   have z':Data.fields _=Data.cell v:=z
   cases z'⟩
 keep:=fun i h h' st k=>k it (by simp) _ st
 item:=by
  intro X hP hw hK hc i pins s σ H E I hf st hg
  subst hP hw hK
  obtain ⟨f0,f1,f2,f3,f4,f5⟩:=hf it (by simp)
  refine (Walks.range (prog:=X.prog) (w:=X.w) (I.ok.hd hc) it lo c n).item i s _ _ hg st fun v h' tk hv st' kk => ?_
  obtain ⟨t,rfl⟩:=hv
  have I1:Inv X pins σ H { s with heap:=h',toks:=tk }:=I.turned (fun b o hb e=>kk b o (by simpa using hb) e) f0 f1 f3 f4 f5
  exact ⟨_,rfl,go_of (s:={ s with heap:=h',toks:=tk }) (n := "range_iterator") st' rfl rfl (by decide) ⟨.int (lo+i * c),H,I1,⟨t,rfl⟩,⟨rfl,rfl⟩,st',fun b hb=>(hf b hb).1⟩⟩
 done:=by
  intro X hP hw hK hc i pins s σ H E I hf st hg
  subst hP hw hK
  obtain ⟨f0,f1,f2,f3,f4,f5⟩:=hf it (by simp)
  exact wpAny_pyNext_range_end (I.ok.hd hc) st (by have:n≤i:=hg; omega) fun h' eb=>⟨rfl,I.turned (t':=s.toks) (fun b o hb e=>eb b o hb e) f0 f1 f3 f4 f5⟩
 self:=fun _ _ _ _ _ st h=>wpAny_pyIter_rangeiter st h
section
variable {X:Cx} {tg:Expr}
noncomputable def iRng3 (ta:TA):TI:=fun σ H R=>ta σ H fun vs H1=>∃ (i j c:Int) (n:Nat),vs=[.int i,.int j,.int c]∧c≠0∧c.natAbs<1073741824∧Builtin.Range.small i j c=true∧Builtin.Range.rangeSize i j c=(n:Int)∧R (Its i c n) H1
theorem pi_range3 {a b c:Expr} {ta:TA} {p pos:Pos} (hg:Gl X "range") (hm:X.mg "range" = none) (ha:PA X [a,b,c] ta) (hs:starEach [a,b,c] X.env=(false,eval a X.env)::starEach [b,c] X.env:=by rfl)
  (hs2:(backTo pos (starEach [b,c] X.env)).any (·.1)=false:=by rfl):PI X tg (.Call (.Name "range" p) [a,b,c] [] pos) (iRng3 ta):=by
 intro pins s σ H R I h
 refine Call_ (ld_blt I hg hm boot_range (PyProof.Rows.callWith_type1 (thn (ha pos pins s σ H _ I h) fun us s1 ⟨vs,H1,I1,r1,q1⟩ => ?_) hs hs2))
 obtain ⟨i,j,k,n,e,hk,hk2,hsm,hsz,q⟩:=q1
 subst e
 cases r1 with
 | cons r rr =>
  cases rr with
  | cons r' rr =>
   cases rr with
   | cons r'' rr =>
    cases rr
    obtain ⟨t,rfl⟩:=r
    obtain ⟨t',rfl⟩:=r'
    obtain ⟨t'',rfl⟩:=r''
    refine call_range_3 hk ?_ (.inl (PyProof.noPylong_small hk2))
    have I2:Inv X pins σ H1 { s1 with heap:=s1.heap.push { cls:=.type "range",data:=.fields #[.int i t,.int j t',.int k t''] },toks:=s1.toks }:=I1.kept fun b o e=>Heap.get?_push_of_some _ e
    refine wpAny_pyIter_range (IsRange.new ..) hsm ?_
    refine ⟨_,[(s1.heap.push { cls:=.type "range",data:=.fields #[.int i t,.int j t',.int k t''] }).objs.size],_,_,H1,rfl,I2.kept (t':=s1.toks) fun b o e=>Heap.get?_push_of_some _ e,turn_rangeS _ i k n,?_,fun b hb => ?_,q⟩
    ·show IsRangeIter _ _ (i+((0:Nat):Int) * k) ((n:Int) - ((0:Nat):Int)) k
     rw [show i+((0:Nat):Int) * k=i by simp,show (n:Int) - ((0:Nat):Int)=Builtin.Range.rangeSize i j k by rw [hsz]; simp]
     exact Heap.get?_push_size _ rfl
    ·have e:b=(s1.heap.push { cls:=.type "range",data:=.fields #[.int i t,.int j t',.int k t''] }).objs.size:=by simpa using hb
     subst e
     exact I2.fpOk (Nat.le_refl _) (I2.hok.fresh (Nat.le_refl _))
end
end L2
namespace L2
open PySem PySem.Spec PyProof.Rows
section
variable {X:Cx} {x m:Str} {C:Addr} {k:Nat} {ps:List Str} {sp:Sp} {o e:Expr} {es:List Expr} {ta:TE} {t:TA} {p pos apos:Pos}
end
section
variable {X:Cx} {e:Expr} {ta:TE} {f:Str} {pos:Pos}
end
end L2
namespace L2
open PySem PySem.Spec PyProof.Rows
section
variable {prog:Program} {w:World} {A:Around} {E:Value→Shared→Prop} {s:Shared}
end
end L2
namespace L2
open PySem PySem.Spec PyProof.Rows
section
variable {X:Cx}
end
section
variable {X:Cx} {tg:Expr}
end
end L2
namespace L2
open PySem PySem.Spec PyProof.Rows
section
variable {X:Cx} {a b c d:Expr} {ta tb tc td:TE} {pos:Pos}
noncomputable def tChain3 (r1 r2 r3:R2) (ta tb tc td:TE):TE:=fun σ H Q=>ta σ H fun x H1=>tb σ H1 fun y H2=>r1 x y H2 fun z H3=>∃ k,z=.bl k ∧
 (if k=true then tc σ H3 fun y2 H4=>r2 y y2 H4 fun z2 H5=>∃ k2,z2=.bl k2∧(if k2=true then td σ H5 fun y3 H6=>r3 y2 y3 H6 Q else Q (.bl false) H5) else Q (.bl false) H3)
theorem pe_chain3 {o1 o2 o3:CmpOp} {r1 r2 r3:R2} (h1:OpR X (compareOp o1) r1) (h2:OpR X (compareOp o2) r2) (h3:OpR X (compareOp o3) r3) (ha:PE X a ta) (hb:PE X b tb) (hc:PE X c tc) (hd:PE X d td)
  (hm:lastMarks [o1,o2,o3] [b,c,d]=false:=by with_unfolding_all rfl):PE X (.Compare a [o1,o2,o3] [b,c,d] pos) (tChain3 r1 r2 r3 ta tb tc td):=by
 intro pins s σ H Q I h
 refine Compare_chain (thn (ha pins s σ H _ I h) fun v s1 ⟨x,H1,I1,q1,g1⟩=>chain_link (thn (hb pins s1 σ H1 _ I1 g1) fun u s2 ⟨y,H2,I2,q2,g2⟩ =>
  thn (h1 pins s2 σ H2 x y v u _ I2 q1 q2 g2) fun w3 s3 ⟨z,H3,I3,q3,k,e,g3⟩ => ?_)) hm
 subst e
 cases q3
 refine wpAny_truthy_bool ?_
 cases k with
 | false=>exact ite_ff ⟨.bl false,H3,I3,rfl,g3⟩
 | true =>
  refine ite_tt (chain_link (thn (hc pins s3 σ H3 _ I3 g3) fun u4 s4 ⟨y4,H4,I4,q4,g4⟩=>thn (h2 pins s4 σ H4 y y4 u u4 _ I4 q2 q4 g4) fun w5 s5 ⟨z5,H5,I5,q5,k5,e5,g5⟩ => ?_))
  subst e5
  cases q5
  refine wpAny_truthy_bool ?_
  cases k5 with
  | false=>exact ite_ff ⟨.bl false,H5,I5,rfl,g5⟩
  | true=>exact ite_tt (chain_last (thn (hd pins s5 σ H5 _ I5 g5) fun u6 s6 ⟨y6,H6,I6,q6,g6⟩=>h3 pins s6 σ H6 y4 y6 u4 u6 Q I6 q4 q6 g6))
theorem pt_chain3 {o1 o2 o3:CmpOp} {r1 r2 r3:R2} (h1:OpR X (compareOp o1) r1) (h2:OpR X (compareOp o2) r2) (h3:OpR X (compareOp o3) r3) (ha:PE X a ta) (hb:PE X b tb) (hc:PE X c tc) (hd:PE X d td)
  (hm:lastMarks [o1,o2,o3] [b,c,d]=false:=by with_unfolding_all rfl):PT X (.Compare a [o1,o2,o3] [b,c,d] pos) (tTest (tChain3 r1 r2 r3 ta tb tc td)):=by
 intro pins s σ H Q I h
 refine isTrue_chain (thn (ha pins s σ H _ I h) fun v s1 ⟨x,H1,I1,q1,g1⟩=>test_link (thn (hb pins s1 σ H1 _ I1 g1) fun u s2 ⟨y,H2,I2,q2,g2⟩ =>
  thn (h1 pins s2 σ H2 x y v u _ I2 q1 q2 g2) fun w3 s3 ⟨z,H3,I3,q3,k,e,g3⟩ => ?_)) hm
 subst e
 cases q3
 refine wpAny_truthy_bool ?_
 cases k with
 | false =>
  obtain ⟨k',e',q'⟩:=g3
  cases e'
  exact ite_ff ⟨H3,I3,q'⟩
 | true =>
  refine ite_tt (test_link (thn (hc pins s3 σ H3 _ I3 g3) fun u4 s4 ⟨y4,H4,I4,q4,g4⟩=>thn (h2 pins s4 σ H4 y y4 u u4 _ I4 q2 q4 g4) fun w5 s5 ⟨z5,H5,I5,q5,k5,e5,g5⟩ => ?_))
  subst e5
  cases q5
  refine wpAny_truthy_bool ?_
  cases k5 with
  | false =>
   obtain ⟨k',e',q'⟩:=g5
   cases e'
   exact ite_ff ⟨H5,I5,q'⟩
  | true =>
   refine ite_tt (test_last (thn (hd pins s5 σ H5 _ I5 g5) fun u6 s6 ⟨y6,H6,I6,q6,g6⟩=>thn (h3 pins s6 σ H6 y4 y6 u4 u6 _ I6 q4 q6 g6) fun w7 s7 ⟨z7,H7,I7,q7,k7,e7,g7⟩ => ?_))
   subst e7
   cases q7
   exact wpAny_truthy_bool ⟨H7,I7,g7⟩
theorem call_all (hc:X.calm=true):CallR X (.builtin "all") (fun xs H Q=>∃ (a:Addr) (bs:List Bool),xs=[.ref a]∧SqL X.K H a (bs.map V.bl)∧Q (.bl (bs.all id)) H):=by
 intro pins s σ H xs us Q I r h
 obtain ⟨a,bs,rfl,hq,q⟩:=h
 obtain ⟨u,rfl,ru⟩:=vals1 r
 cases ru
 obtain ⟨its,rv,pl,hz⟩:=I.list hq
 have hl:=rv.length
 have hlt:a<s.heap.objs.size:=by
  obtain ⟨o,e,_⟩:=pl.isList
  exact Heap.lt_size e
 have en:its.toArray.size=bs.length:=by rw [List.size_toArray,← hl,List.length_map]
 refine call_all_walk (wpAny_pyIter_list pl.isList ?_)
 refine ⟨s.heap.objs.size,_,_,_,_,_,fun i=>bs.getD i false,rfl,Walks.list (A:=X.A.in1) (I.ok.hd hc) s.heap.objs.size a (Nat.ne_of_lt hlt) its.toArray,⟨⟨_,Heap.get?_push_size _ rfl,rfl,rfl⟩,pl.isList.push _⟩,fun i v s' Q' E' hv hQ' => ?_,fun h' tk hk => ?_⟩
 ·have hv':its[i]?=some v:=by simpa using hv
  have hi:i<its.length:=(List.getElem?_eq_some_iff.mp hv').1
  have hin:i<bs.length:=by rw [List.length_map] at hl; omega
  obtain ⟨u,hu,ru⟩:=rv.get (i:=i) (x:=.bl bs[i]) (by rw [List.getElem?_map,List.getElem?_eq_getElem hin]; rfl)
  rw [hv'] at hu
  cases hu
  cases ru
  have eb:bs.getD i false=bs[i]:=by rw [List.getD_eq_getElem?_getD,List.getElem?_eq_getElem hin]; rfl
  have hQ2:Q' (bs.getD i false) s':=hQ'
  rw [eb] at hQ2
  exact wpAny_truthy_bool hQ2
 ·rw [en]
  have ea:(List.range bs.length).all (fun i=>bs.getD i false)=bs.all id:=by
   rw [Bool.eq_iff_iff,List.all_eq_true,List.all_eq_true]
   constructor
   ·intro h x hx
    obtain ⟨i,hi,rfl⟩:=List.getElem_of_mem hx
    have:=h i (List.mem_range.mpr hi)
    rw [List.getD_eq_getElem?_getD,List.getElem?_eq_getElem hi] at this
    exact this
   ·intro h i hi
    have hi':=List.mem_range.mp hi
    rw [List.getD_eq_getElem?_getD,List.getElem?_eq_getElem hi']
    exact h _ (List.getElem_mem hi')
  rw [ea]
  refine ⟨.bl (bs.all id),H,I.kept fun b o e=>hk b o (fun z => ?_) (Heap.get?_push_of_some _ e),rfl,q⟩
  have z':b=s.heap.objs.size:=by simpa using z
  have:=Heap.lt_size e
  rw [z'] at this
  exact Nat.lt_irrefl _ this
end
section
variable {X:Cx}
end
end L2
namespace L2
open PySem PySem.Spec PyProof.Rows
section
variable {prog:Program} {w:World} {A:Around} {E:Value→Shared→Prop} {s:Shared} {z TI TO i1 i2:Addr} {f1 f2:List Addr} {n1 n2 k:Nat} {P1 P2:Nat→Value→Prop} {S1 S2:Nat→Heap→Prop} {a b:Value}
end
section
variable {prog:Program} {w:World} {A:Around} {E:Value→Shared→Prop} {s:Shared} {z TI TO i1 i2:Addr} {f1 f2:List Addr} {n1 n2 k:Nat} {P1 P2:Nat→Value→Prop} {S1 S2:Nat→Heap→Prop} {a b:Value}
end
end L2
namespace L2
open PySem PySem.Spec PyProof.Rows
mutual
inductive Dat (H:Hp):V→PyData→Prop
 | non:Dat H .non .none
 | bl (b:Bool):Dat H (.bl b) (.bool b)
 | int (i:Int):Dat H (.int i) (.int i)
 | str (x:Str):Dat H (.str x) (.str x)
 | lst {a:Addr} {xs:List V} {ds:List PyData}:H a=some (.lst xs)→DatAll H xs ds→Dat H (.ref a) (.list ds)
 | tup {a:Addr} {xs:List V} {ds:List PyData}:H a=some (.tup xs)→DatAll H xs ds→Dat H (.ref a) (.tuple ds)
inductive DatAll (H:Hp):List V→List PyData→Prop
 | nil:DatAll H [] []
 | cons {x:V} {d:PyData} {xs:List V} {ds:List PyData}:Dat H x d→DatAll H xs ds→DatAll H (x::xs) (d::ds)
end
section
variable {X:Cx} {pins:List (Addr × Obj)} {σ:St} {H:Hp} {s:Shared}
mutual
theorem Dat.reads (I:Inv X pins σ H s):∀ {x:V} {d:PyData} {u:Value},Dat H x d→RelV x u→∃ as,Reads s.heap u d as
 | _,_,_,.non,r=>⟨[],by cases r; exact .none⟩
 | _,_,_,.bl b,r=>⟨[],by cases r; exact .bool b⟩
 | _,_,_,.int i,r=>⟨[],by obtain ⟨t,rfl⟩:=r; exact .int i t⟩
 | _,_,_,.str x,r=>⟨[],by obtain ⟨t,rfl⟩:=r; exact .str x t⟩
 | _,_,_,.lst h hd,r=>by
  cases r
  obtain ⟨its,rv,p,_⟩:=I.list (SqL.of h)
  obtain ⟨as,ra⟩:=DatAll.reads I hd rv
  obtain ⟨o,ho,hc,n,hdt⟩:=p.isList
  exact ⟨_,.list ho hc hdt (by simpa using ra)⟩
 | _,_,_,.tup h hd,r=>by
  cases r
  obtain ⟨its,rv,p,_⟩:=I.tuple (SqT.of h)
  obtain ⟨as,ra⟩:=DatAll.reads I hd rv
  obtain ⟨o,ho,hc,n,hdt⟩:=p
  exact ⟨_,.tuple ho hc hdt (by simpa using ra)⟩
theorem DatAll.reads (I:Inv X pins σ H s):∀ {xs:List V} {ds:List PyData} {us:List Value},DatAll H xs ds→Vals xs us→∃ as,ReadsAll s.heap us ds as
 | _,_,_,.nil,r=>⟨[],by cases r; exact .nil⟩
 | _,_,_,.cons h hd,r=>by
  cases r with
  | cons r1 rr =>
   obtain ⟨as,ra⟩:=Dat.reads I h r1
   obtain ⟨bs,rb⟩:=DatAll.reads I hd rr
   exact ⟨_,.cons ra rb⟩
end
end
mutual
theorem noMix_self:∀ d:PyData,d.canLay0=true→SeqAt.noMix d d=true
 | .none,_=>rfl
 | .bool b,_=>rfl
 | .int i,_=>rfl
 | .str x,_=>rfl
 | .list xs,h=>by
  simp only [SeqAt.noMix]
  exact noMixAll_self xs h
 | .tuple xs,h=>by
  simp only [SeqAt.noMix]
  exact noMixAll_self xs h
 | .dict _,h=>by cases h
theorem noMixAll_self:∀ ds:List PyData,PyData.canLayAll0 ds=true→SeqAt.noMixAll ds ds=true
 | [],_=>rfl
 | d::ds,h=>by
  have h':(d.canLay0&&PyData.canLayAll0 ds)=true:=h
  rw [Bool.and_eq_true] at h'
  simp only [SeqAt.noMixAll]
  rw [noMix_self d h'.1,noMixAll_self ds h'.2]
  rfl
end
section
variable {X:Cx}
end
end L2
namespace L2
open PySem PySem.Spec PyProof.Rows
section
variable {prog:Program} {w:World} {A:Around} {E:Value→Shared→Prop} {s:Shared}
end
section
variable {X:Cx}
end
end L2
namespace L2
open PySem PySem.Spec PyProof.Rows
section
variable {X:Cx}
end
theorem inV_int (z:Int) (ns:List Int):inV (.int z) (ns.map V.int)=decide (z∈ns):=by
 unfold inV
 rw [Bool.eq_iff_iff,List.any_eq_true,decide_eq_true_iff]
 constructor
 ·rintro ⟨y,hy,h⟩
  obtain ⟨i,hi,rfl⟩:=List.mem_map.mp hy
  have h':i=z:=eq_of_beq (show (i == z)=true from h)
  rw [← h']
  exact hi
 ·intro h
  refine ⟨.int z,List.mem_map.mpr ⟨z,h,rfl⟩,?_⟩
  show (z == z)=true
  exact beq_self_eq_true z
end L2
namespace L2
open PySem PySem.Spec PyProof.Rows
structure Fls (P:Program) (w:World) (st:List Addr) (l:List Env) (H H':Hp) (s s':Shared) (a:Addr) (cls a0:Value) (B:Heap):Prop where
 os:s'.os=s.os
 bare:AllBare s'.gens
 un:Un st [] H H' s.heap s'.heap
 hok:HOk P w H' s'.heap
 fly:Heap.FlyingW B l a cls a0 s'.heap
 trk:∀ b u,H' b=some u→∃ o,B.get? b=some o
 old:∀ b o,s.heap.get? b=some o→b ∉ st→H b=none→B.get? b=some o
 all:∀ b o,s.heap.get? b=some o→b ∉ st→∃ o',B.get? b=some o'
noncomputable def CXE (P:Program) (w:World):CXT:=fun outer H s E e s' =>
 ∃ (a:Addr) (cls a0:Value) (B:Heap) (H':Hp),e=.ref a∧Fls P w (frs outer) outer H H' s s' a cls a0 B∧E cls none H'
theorem ObjOk.here {P:Program} {w:World} {H:Hp} {h:Heap} {a:Addr} {o:HO} (x:ObjOk P w H h a o):∃ o',h.get? a=some o':=by
 cases o with
 | lst xs=>obtain ⟨_,_,_,_,e⟩:=x; exact ⟨_,e⟩
 | tup xs=>obtain ⟨_,_,_,p⟩:=x; obtain ⟨o,e,_⟩:=p; exact ⟨_,e⟩
 | dK kvs=>obtain ⟨_,_,_,_,o,_,_,e,_⟩:=x; exact ⟨_,e⟩
 | dT kvs=>obtain ⟨_,_,_,_,o,_,_,e,_⟩:=x; exact ⟨_,e⟩
 | set S n=>obtain ⟨o,_,_,_,e,_⟩:=x; exact ⟨_,e⟩
 | ins C dx fs=>obtain ⟨_,_,_,e,_⟩:=x; exact ⟨_,e⟩
 | own y=>obtain ⟨_,e⟩:=x; exact ⟨_,e⟩
 | xd fs=>obtain ⟨_,⟨_,_,_,e,_⟩,_⟩:=x; exact ⟨_,e⟩
 | rng lo hi=>obtain ⟨_,_,_,e⟩:=x; exact ⟨_,e⟩
 | frz ob u=>obtain ⟨e,_⟩:=x; exact ⟨_,e⟩
 | tbl ps=>exact ⟨_,show h.get? a=some _ from x⟩
 | met f y=>exact ⟨_,show h.get? a=some _ from x⟩
 | ext φ=>obtain ⟨_,⟨_,e⟩,_⟩:=x; exact ⟨_,e⟩
theorem un_out {fs st:List Addr} {H0 H H':Hp} {h0 h1 h2:Heap} (u:Un fs [] H0 H h0 h1) (v:Un st [] H H' h1 h2) (hst:∀ b∈st,b∈fs∨h0.get? b=none):Un fs [] H0 H' h0 h2 where
 keep:=fun b o q n hb hx=>v.keep b o (u.keep b o q n hb hx) (u.free b o q n hx) (fun z=>(hst b z).elim hb fun e=>by rw [q] at e; cases e) hx
 slot:=fun b o q n hb hx=>by
  obtain ⟨sl,e1⟩:=u.slot b o q n hb hx
  obtain ⟨sl',e2⟩:=v.any e1 (u.free b o q n hx) hx
  exact ⟨sl',e2⟩
 free:=fun b o q n hx=>by
  obtain ⟨o',e1⟩:=u.there b o q hx
  exact v.free b o' e1 (u.free b o q n hx) hx
 there:=fun b o q hx=>by
  obtain ⟨o',e1⟩:=u.there b o q hx
  exact v.there b o' e1 hx
 tups:=fun b xs q=>v.tups b xs (u.tups b xs q)
 frzs:=fun b o xs q=>v.frzs b o xs (u.frzs b o xs q)
 tbls:=fun b ps q=>by
  obtain ⟨m1,e1⟩:=u.tbls b ps q
  obtain ⟨m2,e2⟩:=v.tbls b _ e1
  exact ⟨m1++m2,by rw [e2,Array.append_assoc]⟩
section
variable {P:Program} {w:World} {l l' l0:List Env} {H H':Hp} {s s':Shared} {a:Addr} {cls a0:Value} {B h':Heap}
theorem hok_stays (hok:HOk P w H' s'.heap) (trk:∀ b u,H' b=some u→∃ o,B.get? b=some o) (k0:B.StaysIn s'.heap) (k1:B.StaysIn h'):HOk P w H' h':=fun b u e=>by
 refine (hok b u e).stay (fun c v hc q => ?_) (fun _ q=>q) fun _ _ q=>q
 have ht:∃ u',H' c=some u':=by
  rcases hc with z | z
  ·rw [z]; exact ⟨u,e⟩
  ·exact ⟨_,z⟩
 obtain ⟨u',eu⟩:=ht
 obtain ⟨o,ho⟩:=trk c u' eu
 have:=k0 c o ho
 rw [q] at this
 cases this
 exact k1 c v ho
theorem Fls.move (F:Fls P w (frs l0) l H H' s s' a cls a0 B) (hl:s'.heap.FunFrames B l0) (fly:Heap.FlyingW B l' a cls a0 h') (sm:s'.heap.UpToSlots h'):Fls P w (frs l0) l' H H' s { s' with heap:=h' } a cls a0 B where
 os:=F.os
 bare:=F.bare
 un:=by
  refine ⟨fun b o q n hb _=>fly.1 b o (F.old b o q hb n),fun b o q n hb hx => ?_,fun b o q n hx=>F.un.free b o q n hx,fun b o q hx => ?_,F.un.tups,F.un.frzs,F.un.tbls⟩
  ·obtain ⟨sl,e1⟩:=F.un.slot b o q n hb hx
   obtain ⟨_,o',e2,nf⟩:=hl.mem hb
   rw [e1] at e2
   cases e2
   obtain ⟨sl',e3⟩:=sm b _ e1 nf
   exact ⟨sl',e3⟩
  ·by_cases hb:b∈frs l0
   ·obtain ⟨_,o',e2,nf⟩:=hl.mem hb
    obtain ⟨sl',e3⟩:=sm b _ e2 nf
    exact ⟨_,e3⟩
   ·obtain ⟨o',e⟩:=F.all b o q hb
    exact ⟨o',fly.1 b o' e⟩
 hok:=hok_stays F.hok F.trk F.fly.1 fly.1
 fly:=fly
 trk:=F.trk
 old:=F.old
 all:=F.all
variable {X:Cx} {pins:List (Addr × Obj)} {σ:St}
theorem Fls.out (I:Inv X pins σ H s) (hex:X.ex=[]) (hs:X.stack=X.env::X.outer) (hf:X.env.frame=some X.env.locals) (F:Fls P w (frs X.stack) l H H' s s' a cls a0 B):Fls P w X.fs l X.H₀ H' X.s₀ s' a cls a0 B:=by
 have ub:Un X.fs [] X.H₀ H X.s₀.heap s.heap:=by have:=I.base; rw [hex] at this; exact this
 have hst:∀ b∈frs X.stack,b∈X.fs∨X.s₀.heap.get? b=none:=fun b hb=>by
  rcases List.mem_cons.mp (I.stkSub b hb) with z | z
  ·exact .inr (by rw [z]; exact Heap.get?_none_of_le I.ok.above)
  ·exact .inl z
 have nst:∀ b o,X.s₀.heap.get? b=some o→b ∉ X.fs→b ∉ frs X.stack:=fun b o q hb z=>(hst b z).elim hb fun e=>by rw [q] at e; cases e
 refine ⟨F.os.trans I.os,F.bare,un_out ub F.un hst,F.hok,F.fly,F.trk,fun b o q hb n=>F.old b o (ub.keep b o q n hb (by simp)) (nst b o q hb) (ub.free b o q n (by simp)),fun b o q hb => ?_⟩
 obtain ⟨o',e1⟩:=ub.there b o q (by simp)
 exact F.all b o' e1 (nst b o q hb)
theorem fls_made {M:Model} {vs:List Value} {Q:Unit→Shared→Prop} {E:Value→Shared→Prop} (I:Inv X pins σ H s) (hs:X.stack=X.env::X.outer) (hf:X.env.frame=some X.env.locals) (hx:Heap.MadeExcOf s.heap s'.heap a cls vs) (ho:s'.os=s.os) (hg:s'.gens=s.gens)
  (hQ:∀ h' B t,Fls X.prog X.w (frs X.stack) X.outer H H s { s' with heap:=h' } a cls (.ref t) B→Q () { s' with heap:=h' }):wpAny M X.A (leaving X.env (.ref a)) Q E s':=by
 have hin:∀ env∈X.stack,∀ b,env.frame=some b→b∈frs X.stack:=fun env he b hb=>List.mem_filterMap.mpr ⟨env,he,hb⟩
 have hB:(PySem.W.hideAll s.heap (frs X.stack)).StaysIn s.heap:=fun b o q=>PySem.W.of_hideAll _ q
 have hF:s.heap.FunFrames (PySem.W.hideAll s.heap (frs X.stack)) X.stack:=PySem.W.funFrames_hide I.stack hin
 have kp:∀ b o,s.heap.get? b=some o→b ∉ frs X.stack→(PySem.W.hideAll s.heap (frs X.stack)).get? b=some o:=fun b o q hb=>PySem.W.hideAll_get _ q hb
 generalize PySem.W.hideAll s.heap (frs X.stack)=B at hB hF kp
 have hfr:=I.ok.frames
 have hF':=hF
 rw [hs] at hfr hF
 refine wpAny_leaves_madeW hfr hf hB hF hx fun h' t x1 x2 x3 x4=>hQ h' B t ?_
 have tr:∀ b u,H b=some u→∃ o,B.get? b=some o:=fun b u e=>by
  have hb:b ∉ frs X.stack:=fun z=>by rw [I.stkFree b z] at e; cases e
  obtain ⟨o,q⟩:∃ o,s.heap.get? b=some o:=(I.hok b u e).here
  exact ⟨o,kp b o q hb⟩
 refine ⟨ho,by show AllBare s'.gens; rw [hg]; exact I.bare,?_,hok_stays (s':=s) I.hok tr hB x1.1,x1,tr,fun b o q hb _=>kp b o q hb,fun b o q hb=>⟨o,kp b o q hb⟩⟩
 ·refine ⟨fun b o q n hb _=>x1.1 b o (kp b o q hb),fun b o q n hb _ => ?_,fun b o q n _=>n,fun b o q _ => ?_,fun _ _ q=>q,fun _ _ _ q=>q,fun _ ps q=>⟨#[],by rw [q]; simp⟩⟩
  ·obtain ⟨_,o',e2,nf⟩:=hF'.mem hb
   rw [q] at e2
   cases e2
   exact x4 b o (hx.keeps b o q) nf
  ·by_cases hb:b∈frs X.stack
   ·obtain ⟨_,o',e2,nf⟩:=hF'.mem hb
    obtain ⟨sl',e3⟩:=x4 b o' (hx.keeps b o' e2) nf
    exact ⟨_,e3⟩
   ·exact ⟨o,x1.1 b o (kp b o q hb)⟩
end
noncomputable def Thr (X:Cx) (E:XK):Prop:=∀ (pins:List (Addr × Obj)) (σ:St) (H:Hp) (s s':Shared) (a:Addr) (cls:Value) (vs:List Value),Inv X pins σ H s→Heap.MadeExcOf s.heap s'.heap a cls vs→s'.os=s.os→s'.gens=s.gens→E cls none H→X.xe (.ref a) s'
section
variable {P:Program} {w:World} {K:PySem.W.Frag} {mg:Str→Option Value} {base:Heap} {N:List Str} {qual:Str} {scope:Scope} {f:Addr} {cd:Value} {A:Around} {outer:List Env} {s₀:Shared} {H₀:Hp} {E:XK}
theorem passE:Passes (CXE P w) (cxOf (CXE P w) P w K mg base N qual scope f cd A outer s₀ H₀ E) E:=by
 rintro pins σ H s e s' I ⟨a,cls,a0,B,H',rfl,F,q⟩
 show wpAny (model P w) (cxOf (CXE P w) P w K mg base N qual scope f cd A outer s₀ H₀ E).A (leaving (cxOf (CXE P w) P w K mg base N qual scope f cd A outer s₀ H₀ E).env (.ref a)) _ _ s'
 exact wpAny_leaves_onW I.ok.frames rfl F.fly fun h' x1 x2=>⟨a,cls,a0,B,H',rfl,(F.move F.fly.2.2.1 x1 x2).out I rfl rfl rfl,q⟩
theorem thrE:Thr (cxOf (CXE P w) P w K mg base N qual scope f cd A outer s₀ H₀ E) E:=by
 intro pins σ H s s' a cls vs I hx ho hg q
 exact fls_made I rfl rfl hx ho hg fun h' B t F=>⟨a,cls,.ref t,B,H,rfl,F.out I rfl rfl rfl,q⟩
end
theorem exc_obj {K:PySem.W.Frag} {h:Heap} {C:Addr} {bmB:List Value} {newId:String} (X:K.In h) (q:PySem.W.excIn K C bmB newId=true) :
  ∃ bm N nm q bs hdct sn sub ab col dd k0 k1 k2 k3 k5 mN,h.get? C=some (excClassObj nm q C N bs bm hdct sn sub ab col dd k0 k1 k2 k3 k5 newId)∧h.Ns N mN∧mN "__init__" = none∧OwnTail h bmB bm:=by
 unfold PySem.W.excIn at q
 split at q
 case h_2=>cases q
 rename_i dd cd sl ho
 split at q
 case h_2=>cases q
 rename_i C' bm k0 k1 k2 k3 n k5 hm hs
 simp only [Bool.and_eq_true,beq_iff_eq,Bool.not_eq_true'] at q
 obtain ⟨⟨⟨⟨⟨rfl,rfl⟩,hdel⟩,ht⟩,hok⟩,hni⟩:=q
 have e:sl = #[k0,k1,k2,k3,some (.builtin n),k5]:=Array.toList_inj.mp hs
 subst e
 cases cd
 dsimp only at hm hdel hok hni
 subst hm hdel
 exact ⟨_,_,_,_,_,_,_,_,_,_,_,_,_,_,_,_,_,X _ _ ho,.of_isNs (PySem.W.isNs_of_in X hok),PySem.W.nsMap_none_of_in X hok hni,PySem.W.tail_of_in X ht⟩
section
variable {X:Cx} {E:XK} {x:Str} {C:Addr} {bmB:List Value} {Bn newId initId:String} {e₀:Expr} {es:List Expr} {ta:TA} {np cpos pos:Pos}
noncomputable def tRaise (C:Addr) (E:XK) (ta:TA):TS:=fun _ σ H=>ta σ H fun vs H1=>vs.length≤sizeLine∧E (.ref C) none H1
theorem ps_raise (hT:Thr X E) (hc:X.calm=true) (FB:ExcBaseFacts Bn newId initId bmB) (hX:PySem.W.excIn X.K C bmB newId=true) (hm:X.mg x=some (.ref C)) (ha:PA X (e₀::es) ta) (hg:Gl X x:=by rfl)
  (he:starEach (e₀::es) X.env=(false,eval e₀ X.env)::starEach es X.env:=by rfl) (hplain:(backTo cpos (starEach es X.env)).any (·.1)=false:=by rfl) (hd:(x == ("__debug__" : Str))=false:=by decide) :
  PS X (.Raise (some (.Call (.Name x np) (e₀::es) [] cpos)) none pos) (tRaise C E ta):=by
 intro pins s σ H D I h
 obtain ⟨tl,N,nm,q,bs,hdct,sn,sub,ab,col,dd,k0,k1,k2,k3,k5,mN,hC,hN,hni,T⟩:=exc_obj I.mod.kin hX
 refine wpAny_Raise_call_subT (C:=C) (nm:=nm) (q:=q) (N:=N) (bs:=bs) (bm:=tl) (hdct:=hdct) (sn:=sn) (sub:=sub) (ab:=ab) (col:=col) (dd:=dd) (k0:=k0) (k1:=k1) (k2:=k2) (k3:=k3) (k5:=k5)
  FB (mN:=mN) (T.hasType FB.hasBase) (I.ok.hd hc) (by rw [he]; show (false||(backTo cpos (starEach es X.env)).any (·.1))=false; rw [hplain]; rfl) hni (ld_glob I hg hm ⟨rfl,?_⟩ hd)
 have hs:=ha cpos pins s σ H _ I h
 rw [he] at hs ⊢
 refine Calls.evalArgs_plain (thn hs fun vs s₂ ⟨us,H2,I2,r,hl,q⟩ => ?_)
 exact ⟨rfl,by rw [← r.length]; exact hl,I2.bk _ _ hC,hN.keeps I2.bk,T.keeps I2.bk,fun h' e hm=>hT pins σ H2 s₂ { s₂ with heap:=h' } e _ _ I2 hm rfl rfl q⟩
end
end L2
namespace PySem.W
open PySem PySem.Spec PySem.Calls PyProof.Rows
open Builtin Builtin.ObjectAttr Builtin.Getset_descriptor
theorem exc_class_get {prog:Program} {w:World} {A:Around} {s:Shared} {K:Frag} {a C:Addr} {R:Result→Shared→Prop} {tp:Value} (L0:Looks (model prog w) s.heap (typeOf (.ref a)) (.ref C)) (L1:Looks (model prog w) s.heap (isSubtype (.ref C) (.type "object")) true)
  (h:R (.ok (.ret (.ref C))) s):codeAny (model prog w) A (.call (.builtin "getset_descriptor.__get__") ⟨[.builtin "object.__class__",.ref a,tp],[]⟩) R s:=by
 obtain ⟨hh,g,dr,t,os⟩:=s
 refine codeAny_call_builtin KF.slot_gs.plain KF.entry_gs (KF.slot_gs.check _ _ _ _ _ _ _ _ KF.type_class (KF.args_gs _ _ _) ?_)
 unfold Builtin.«getset_descriptor.__get__» descrGet
 rw [dga_obj]
 refine wpAny_bind (wpAny_pure ?_)
 unfold descrGetter descrCheckInstance descrNameAndClass isInstance
 simp only [KF.owner_class]
 repeat lk
 refine ⟨Code.quiet_builtin _ (by decide +kernel),codeAny_builtin KF.entry_class ?_⟩
 unfold Builtin.«object.__class__» shownTypeOf
 repeat lk
 exact h
theorem exc_class {prog:Program} {w:World} {A:Around} {E:Value→Shared→Prop} {s:Shared} {K:Frag} {a C:Addr} {o:Obj} {Q:Option Value→Shared→Prop} (X:K.In s.heap) (hx:s.heap.get? a=some o) (hc:o.cls=.ref C)
  (hga:findIn K (.ref C) "__getattribute__" = some (some (.builtin "BaseException.__getattribute__"))) (hgt:findIn K (.ref C) "__getattr__" = some none) (hcl:findIn K (.ref C) "__class__" = some (some (.builtin "object.__class__")))
  (hm:mroIn K C (.type "object")=some true) (hb:mroIn K C (.type "BaseException")=some true) (h:Q (some (.ref C)) { s with toks:=s.toks+1 }):wpAny (model prog w) A (getAttr? (.ref a) "__class__") Q E s:=by
 obtain ⟨hh,g,d,t,os⟩:=s
 have L0:Looks (model prog w) hh (typeOf (.ref a)) (.ref C):=hc ▸ (Looks.ld hx).andThen .now
 have L1:=looks_findIn (M:=model prog w) X hga
 have L2:=looks_findIn (M:=model prog w) X hgt
 have L3:=looks_findIn (M:=model prog w) X hcl
 have L4:=looks_mroIn (M:=model prog w) X hm
 have L5:=looks_mroIn (M:=model prog w) X hb
 unfold getAttr? getAttrBy? getAttrBy
 refine wpAny_bind (wpAny_mkText (wpAny_bind (wpAny_attempt (wpAny_holding (wpAny_bind (L0.at (wpAny_bind (L1.at ?_))))))))
 dsimp only
 rw [if_neg (by rw [Bool.and_eq_true]; rintro ⟨_,q⟩; exact absurd q (by decide +kernel))]
 unfold getAttrByItsOwn hookBefore
 rw [if_pos (show onTheHeap (Value.ref C)=true from rfl)]
 have L6:Looks (model prog w) hh (isInstance (.ref a) (.type "BaseException")) true:=L0.andThen L5
 refine wpAny_bind (L2.at (wpAny_bind (wpAny_attempt (wpAny_holding ?_))))
 unfold callGetattribute
 rw [if_neg (by decide)]
 unfold boundAndCalled
 rw [F.attr_ValueError.ga.bind (.ref a)]
 refine wpAny_bind (wpAny_pure ?_)
 have hk:builtinKind "BaseException.__getattribute__" = some .slot:=by decide +kernel
 have hsplit:splitId "BaseException.__getattribute__" = some ("BaseException", "__getattribute__"):=by decide +kernel
 have ha:=F.args_bexc_ga (.ref a) (.str "__class__" t)
 refine wpAny_call (codeAny_call_builtin F.attr_ValueError.ga.plain F.entry_bexc_ga ?_)
 simp only [checkBuiltinCall,hk,hsplit]
 dsimp only [List.cons_append,List.nil_append]
 refine wpAny_bind (L6.at ?_)
 simp only [Bool.not_true,Bool.false_eq_true,if_false]
 clear L1 L2 L4 L5 L6
 repeat wp_step
 have f5:typeOf (.builtin "object.__class__")=pure (.type "getset_descriptor"):=by kernel_rfl
 have f6:=F.slot_gs_get.lookup
 have f7:=F.slot_gs_set.lookup
 rw [hc]
 refine L3.at ?_
 have L0':=L0
 have L4':=looks_mroIn (M:=model prog w) X hm
 clear L3
 repeat (any_goals (first | assumption | wp_step))
 refine exc_class_get (K:=K) L0' L4' ?_
 repeat (any_goals (first | assumption | wp_step))
structure ExC (K:Frag) (C:Addr):Prop where
 cl:(clsIn K C).isSome=true
 ga:findIn K (.ref C) "__getattribute__" = some (some (.builtin "BaseException.__getattribute__"))
 gt:findIn K (.ref C) "__getattr__" = some none
 kl:findIn K (.ref C) "__class__" = some (some (.builtin "object.__class__"))
 mo:mroIn K C (.type "object")=some true
 mb:mroIn K C (.type "BaseException")=some true
theorem ExC.at_ {K:Frag} {C:Addr} (Z:ExC K C):∃ c d cd sl,K.lookup C=some ⟨c,d,.cls cd,sl⟩:=by
 have h:=Z.cl
 unfold clsIn at h
 split at h
 ·rename_i c' d' cd' sl' ho
  exact ⟨_,_,_,_,ho⟩
 ·cases h
theorem kitx_exc {K:Frag} {a C:Addr} (Z:ExC K C):KitX K (.ref a) (.ref C) (fun h=>∃ o,h.get? a=some o∧o.cls=.ref C) where
 ty:=fun _ _ _ ⟨_,h1,h2⟩=>h2 ▸ (Looks.ld h1).andThen .now
 it:=fun _ _ X _=>by
  obtain ⟨_,_,_,_,ho⟩:=Z.at_
  intro A' Q' E' s' k q
  unfold isType loadHead
  exact wpAny_bind (wpAny_loadPart (k _ _ (X _ _ ho)) (wpAny_pure q))
 ne:=fun h tp dd its n sl X htp=>by
  obtain ⟨_,_,_,_,ho⟩:=Z.at_
  refine Bool.eq_false_iff.mpr fun q => ?_
  have e:C=tp:=Value.ref.inj (beq_iff_eq.mp q)
  subst e
  have z:=(X _ _ ho).symm.trans htp
  cases z
 ca:=fun X ⟨_,h1,h2⟩ k=>exc_class X h1 h2 Z.ga Z.gt Z.kl Z.mo Z.mb k
end PySem.W
namespace L2
open PySem PySem.Spec PyProof.Rows
section
variable {X:Cx} {a C:Addr} {oe:Obj}
theorem call_isinstX (hp:(a,oe)∈X.pn) (hc:oe.cls=.ref C) (Z:PySem.W.ExC X.K C) :
  CallR X (.builtin "isinstance") (fun xs H Q=>∃ c cv b,xs=[.ref a,c]∧clsV c=some cv∧PySem.W.kitOne X.K (.ref C) cv=some b∧Q (.bl b) H):=by
 intro pins s σ H xs us Q I r h
 obtain ⟨c,cv,b,rfl,hcv,hk,q⟩:=h
 obtain ⟨u,w',rfl,rx,rc⟩:=vals2 r
 cases (show u=Value.ref a from rx)
 have e:w'=cv:=by
  cases c with
  | ty n=>cases (show w'=Value.type n from rc); exact Option.some.inj hcv
  | ref a=>cases (show w'=Value.ref a from rc); exact Option.some.inj hcv
  | _=>cases hcv
 subst e
 exact PySem.W.kia_one (PySem.W.kitx_exc Z) I.kIn ⟨oe,(I.pin _ (List.mem_append_left _ hp)).1,hc⟩ hk (fun z=>nomatch z) fun tk=>⟨.bl b,H,I.tok tk,rfl,q⟩
theorem vals_refs:∀ {cs:List Addr} {us:List Value},Vals (cs.map V.ref) us→us=cs.map Value.ref
 | [],_,.nil=>rfl
 | _::_,_,.cons h t=>by rw [vals_refs t,(show _=Value.ref _ from h)]; rfl
theorem call_isinstT (hp:(a,oe)∈X.pn) (hc:oe.cls=.ref C) (Z:PySem.W.ExC X.K C) :
  CallR X (.builtin "isinstance") (fun xs H Q=>∃ (tp:Addr) (cs:List Addr) (b:Bool),xs=[.ref a,.ref tp]∧H tp=some (.tup (cs.map V.ref))∧PySem.W.kitAny X.K (.ref C) (cs.map Value.ref)=some b∧Q (.bl b) H):=by
 intro pins s σ H xs us Q I r h
 obtain ⟨tp,cs,b,rfl,ht,hk,q⟩:=h
 obtain ⟨u,w',rfl,rx,rc⟩:=vals2 r
 cases (show u=Value.ref a from rx)
 cases (show w'=Value.ref tp from rc)
 obtain ⟨its,rv,hit,_⟩:=I.tuple (SqT.of ht)
 cases vals_refs rv
 obtain ⟨o,h1,h2,n,h3⟩:=hit
 obtain ⟨oc,od,oda,osl⟩:=o
 dsimp only at h2 h3
 subst h2 h3
 exact PySem.W.kia_tup (PySem.W.kitx_exc Z) I.kIn ⟨oe,(I.pin _ (List.mem_append_left _ hp)).1,hc⟩ h1 hk (fun z=>nomatch z) fun tk=>⟨.bl b,H,I.tok tk,rfl,q⟩
end
section
variable {X:Cx} {a C:Addr} {oe:Obj}
end
section
variable {X:Cx} {pins:List (Addr × Obj)} {σ:St} {H:Hp} {s:Shared}
theorem Inv.ctx {Y:Cx} {pins':List (Addr × Obj)} (I:Inv X pins σ H s) (ok:Y.Ok) (hs:Y.s₀=X.s₀) (hH:Y.H₀=X.H₀) (ho:Y.outer=X.outer) (hx:Y.ex=X.ex) (he:Y.env=X.env) (hN:Y.N=X.N) (hp:Y.prog=X.prog) (hw:Y.w=X.w)
  (hpin:∀ p∈Y.pn++pins',s.heap.get? p.1=some p.2∧H p.1=none∧p.1≠X.env.locals∧p.1 ∉ X.fs∧∀ v,p.2.data≠.cell v):Inv Y pins' σ H s:=by
 obtain ⟨prog,w,K,mg,base,A,N,s₀,H₀,env,outer,stack,ex,fn,calm,pn,xe⟩:=Y
 dsimp only at hs hH ho hx he hN hp hw
 subst hs hH ho hx he hN hp hw
 exact ⟨ok,I.os,I.bare,I.base,I.loc,I.cell,I.free,I.freeC,hpin,I.hok,I.len⟩
theorem Inv.goneK {h':Heap} {m:Str→Option Value} {v:Option Value} {t':Nat} {n:Str} {i:Nat} (I:Inv X pins σ H s) (hN:X.N.Nodup) (hi:X.N[i]?=some n)
  (hl:∀ (j:Nat) (x:Str) (w:V),X.N[j]?=some x→σ[j]?=some (some w)→Vis X.env.scope x→∃ u,RelV w u∧Look X.env s.heap m x u)
  (hn:h'.Ns X.env.locals (fun x=>if x=n then v else m x)) (sb:Heap.SameBut X.env.locals s.heap h'):Inv X pins (σ.set i none) H { s with heap:=h',toks:=t' }:=by
 have neL:∀ b o,X.s₀.heap.get? b=some o→b≠X.env.locals:=fun b o e=>Nat.ne_of_lt (Nat.lt_of_lt_of_le (Heap.lt_size e) I.ok.above)
 have k:∀ b o,b≠X.env.locals→s.heap.get? b=some o→h'.get? b=some o:=fun b o n e=>(sb.2 b n).trans e
 refine ⟨I.ok,I.os,I.bare,⟨fun b o e n hb hx=>k b o (neL b o e) (I.base.keep b o e n hb hx),fun b o e n hb hx => ?_,I.base.free,fun b o e hx => ?_,I.base.tups,I.base.frzs,I.base.tbls⟩,⟨_,hn,fun j x w e1 e2 e3 => ?_⟩,fun x c e => ?_,I.free,I.freeC,fun p hp => ?_,fun b u e => ?_,by rw [List.length_set]; exact I.len⟩
 ·obtain ⟨sl,e1⟩:=I.base.slot b o e n hb hx
  exact ⟨sl,k b _ (neL b o e) e1⟩
 ·obtain ⟨o',e1⟩:=I.base.there b o e hx
  exact ⟨o',k b o' (neL b o e) e1⟩
 ·by_cases hj:j=i
  ·subst hj
   rw [List.getElem?_set_self' ] at e2
   cases q:σ[j]? with
   | none=>rw [q] at e2; cases e2
   | some z=>rw [q] at e2; cases e2
  ·rw [List.getElem?_set_ne (Ne.symm hj)] at e2
   have nx:x≠n:=fun z=>hj (nodup_ix hN (z ▸ e1) hi)
   obtain ⟨u,r,l⟩:=hl j x w e1 e2 e3
   refine ⟨u,r,?_⟩
   rcases l with ⟨k1,e⟩ | ⟨k2,c,hc,o,ho,hd⟩
   ·exact .inl ⟨k1,(if_neg nx).trans e⟩
   ·exact .inr ⟨k2,c,hc,o,k c o (I.cne x c hc) ho,hd⟩
 ·obtain ⟨v,o,ho,hd⟩:=I.cell x c e
  exact ⟨v,o,k c o (I.cne x c e) ho,hd⟩
 ·obtain ⟨e,n,ne,nf,d⟩:=I.pin p hp
  exact ⟨k _ _ ne e,n,ne,nf,d⟩
 ·refine (I.hok b u e).stay (fun c v hc q=>k c v ?_ q) (fun _ q=>q) fun _ _ q=>q
  rintro rfl
  have f:=I.free
  rcases hc with z | z
  ·rw [z,e] at f; cases f
  ·rw [z] at f; cases f
noncomputable def endH (i:Nat) (D:Ends):Ends:={ nx:=fun σ H'=>D.nx (σ.set i none) H',rt:=D.rt,bk:=fun σ H'=>D.bk (σ.set i none) H',ct:=fun σ H'=>D.ct (σ.set i none) H' }
noncomputable abbrev Cx.tryB (X:Cx) (E:Value→Shared→Prop) (pn:List (Addr × Obj)):Cx:={ X with xe:=E,pn:=pn }
noncomputable abbrev Cx.tryH (X:Cx) (a:Addr) (pn:List (Addr × Obj)):Cx:={ X with A:=X.A.mark (some (.ref a)),calm:=false,xe:=fun _ _=>False,pn:=pn }
theorem Cx.Ok.tryB (ok:X.Ok) {E:Value→Shared→Prop} {pn:List (Addr × Obj)}:(X.tryB E pn).Ok :=
 ⟨ok.mod,ok.kind,ok.glob,ok.blt,ok.above,ok.inj,ok.has,ok.cab,ok.hd,ok.frames,ok.stk,ok.exf,ok.bs,ok.bsz,ok.noex,ok.exfs,ok.funs,ok.frf⟩
theorem Cx.Ok.tryH (ok:X.Ok) {a:Addr} {pn:List (Addr × Obj)}:(X.tryH a pn).Ok :=
 ⟨ok.mod,ok.kind,ok.glob,ok.blt,ok.above,ok.inj,ok.has,ok.cab,(fun z=>nomatch z),ok.frames,ok.stk,ok.exf,ok.bs,ok.bsz,ok.noex,ok.exfs,ok.funs,ok.frf⟩
theorem SP.ctx {Y:Cx} {pins':List (Addr × Obj)} {D:Ends} {f:Flow} {s':Shared} (h:SP X pins D f s') (g:∀ σ' H',Inv X pins σ' H' s'→Inv Y pins' σ' H' s'):SP Y pins' D f s':=by
 cases f with
 | next=>obtain ⟨σ',H',J,q⟩:=h; exact ⟨σ',H',g _ _ J,q⟩
 | brk=>obtain ⟨σ',H',J,q⟩:=h; exact ⟨σ',H',g _ _ J,q⟩
 | cont=>obtain ⟨σ',H',J,q⟩:=h; exact ⟨σ',H',g _ _ J,q⟩
 | ret u=>obtain ⟨v,σ',H',J,r,q⟩:=h; exact ⟨v,σ',H',g _ _ J,r,q⟩
end
section
variable {X:Cx} {body suite:List Stmt} {b₀:Stmt} {x n:Str} {c:Value} {i:Nat} {tb:XK→TS} {th:Value→Addr→TS} {np hpos pos:Pos}
end
section
variable {X:Cx} {body suite:List Stmt} {b₀:Stmt} {x n:Str} {c C₀:Value} {i:Nat} {tb:XK→TS} {th:Addr→TS} {np hpos pos:Pos}
end
noncomputable def CalE (P:Program) (w:World) (K:PySem.W.Frag) (mg:Str→Option Value) (base:Heap) (x:Str) (k:Nat) (ps:List Str) (sp:Sp):Prop :=
 ∃ (f:Addr) (fd:FuncData),mg x=some (.ref f)∧PySem.W.keepIn K (.ref f)=true∧Binds K fd ps []∧FnOk P w K mg base (CXE P w) k f fd ps sp
noncomputable def MCalE (P:Program) (w:World) (K:PySem.W.Frag) (mg:Str→Option Value) (base:Heap) (C:Addr) (m:Str) (k:Nat) (ps:List Str) (sp:Sp):Prop :=
 ∃ (f:Addr) (fd:FuncData),Meth K C m f∧Binds K fd ps []∧FnOk P w K mg base (CXE P w) k f fd ps sp
noncomputable def KCalE (P:Program) (w:World) (K:PySem.W.Frag) (mg:Str→Option Value) (base:Heap) (C:Addr) (x:Str) (k:Nat) (ps:List Str) (sp:Sp):Prop :=
 ∃ (f:Addr) (fd:FuncData),Mk K C f∧mg x=some (.ref C)∧Binds K fd ps []∧FnOk P w K mg base (CXE P w) k f fd ps sp
section
variable {X:Cx} {x m:Str} {C:Addr} {k:Nat} {ps:List Str} {sp:Sp} {o e:Expr} {es:List Expr} {ta:TE} {t:TA} {p pos apos:Pos}
theorem pe_calE {E:XK} (h:CalE X.prog X.w X.K X.mg X.base x k ps sp) (hr:Room k X.A) (hx:Passes (CXE X.prog X.w) X E) (ha:PA X (e::es) t) (hg:Gl X x:=by rfl) (hs:starEach (e::es) X.env=(false,eval e X.env)::starEach es X.env:=by rfl)
  (hplain:(backTo pos (starEach es X.env)).any (·.1)=false:=by rfl) (hd:(x == ("__debug__" : Str))=false:=by decide):PE X (.Call (.Name x p) (e::es) [] pos) (tCall sp [] E t):=by
 obtain ⟨f,fd,hm,hk,hb,F⟩:=h
 exact pe_call F hr hg hm hk hb .nil hx ha hd hs hplain
end
section
variable {P:Program} {w:World} {K:PySem.W.Frag} {mg:Str→Option Value} {base:Heap}
end
end L2
namespace L2
open PySem PySem.Spec PyProof.Rows
end L2
namespace L2
open PySem PySem.Spec PyProof.Rows
theorem pass0E {X:Cx}:Passes (CXE X.prog X.w) X E0:=fun _ _ _ _ _ _ _ h=>by
 obtain ⟨_,_,_,_,_,_,_,q⟩:=h
 exact q.elim
section
variable {X:Cx}
theorem op_fdivB:OpR X (binaryOp .FloorDiv) (rI (fun _ j=>0<j∧j<2 ^ 200) fun i j=>.int (i / j)):=opI fun i j _ _ _ _ _ hc q=>by
 have h1:(0:Int)<j:=hc.1
 refine floordiv_int (by omega) (by rw [Int.fdiv_eq_ediv_of_nonneg i (by omega)]; exact q) (.inl (PyProof.noPylong_of_log2 ?_))
 have h2:j.natAbs<2 ^ 200:=by
  have:=hc.2
  omega
 have h3:j.natAbs.log2<200:=(Nat.log2_lt (by omega)).mpr h2
 omega
end
theorem kit_it (K:PySem.W.Frag):PySem.W.kitOne K (.type "int") (.type "tuple")=some false:=by
 unfold PySem.W.kitOne
 rw [if_neg (by decide)]
 show (if PySem.W.kitMeta "tuple" = true then PySem.W.subIn K (.type "int") (.type "tuple") else none)=some false
 rw [if_pos (by kernel_rfl)]
 show (fastBuiltinMro "int").map (·.contains (Value.type "tuple"))=some false
 kernel_rfl
theorem kit_tt (K:PySem.W.Frag):PySem.W.kitOne K (.type "tuple") (.type "tuple")=some true:=by
 unfold PySem.W.kitOne
 rw [if_pos (by decide)]
end L2
namespace L2
open PySem PySem.Spec PyProof.Rows
section
variable {κ:Type} [DecidableEq κ]
noncomputable def valV (kvs:List (κ × V)) (k:κ):Option V:=(kvs.find? fun kv=>decide (kv.1=k)).map (·.2)
noncomputable def putK (kvs:List (κ × V)) (k:κ) (v:V):List (κ × V) :=
 if (kvs.any fun kv=>decide (kv.1=k))=true then kvs.map (fun kv=>if kv.1=k then (kv.1,v) else kv) else kvs++[(k,v)]
theorem valV_pos {p:κ × V} {r:List (κ × V)} {k:κ} (e:p.1=k):valV (p::r) k=some p.2:=by simp [valV,List.find?_cons,e]
theorem valV_neg {p:κ × V} {r:List (κ × V)} {k:κ} (e:¬ p.1=k):valV (p::r) k=valV r k:=by simp [valV,List.find?_cons,e]
theorem valV_any (k:κ):∀ kvs:List (κ × V),(kvs.any fun kv=>decide (kv.1=k))=(valV kvs k).isSome
 | []=>rfl
 | p::r=>by
  rw [List.any_cons]
  by_cases e:p.1=k
  ·simp only [valV_pos e,decide_eq_true e,Bool.true_or,Option.isSome_some]
  ·rw [valV_neg e,decide_eq_false e,Bool.false_or]; exact valV_any k r
theorem length_putK (kvs:List (κ × V)) (k:κ) (v:V):(putK kvs k v).length≤kvs.length+1:=by
 unfold putK
 split
 ·rw [List.length_map]; omega
 ·rw [List.length_append,List.length_cons,List.length_nil]; omega
theorem RelO.isSome_eq {o:Option V} {u:Option Value} (r:RelO o u):o.isSome=u.isSome:=by
 cases o with
 | none=>cases u with
  | none=>rfl
  | some _=>exact (show False from r).elim
 | some _=>cases u with
  | none=>exact (show False from r).elim
  | some _=>rfl
theorem KV.val {kvs:List (κ × V)} {vs:List (κ × Value)} (r:KV kvs vs) (k:κ):RelO (valV kvs k) (valueAt vs k):=by
 unfold KV at r
 induction r with
 | nil=>exact True.intro
 | @cons p q ps qs h t ih =>
  obtain ⟨h1,h2⟩:=h
  by_cases e:p.1=k
  ·have e':q.1=k:=h1.symm.trans e
   have b:valueAt (q::qs) k=some q.2:=by simp [valueAt,List.find?_cons,e']
   rw [valV_pos e,b]; exact h2
  ·have e':¬ q.1=k:=fun z=>e (h1.trans z)
   have b:valueAt (q::qs) k=valueAt qs k:=by simp [valueAt,List.find?_cons,e']
   rw [valV_neg e,b]; exact ih
theorem KV.any {kvs:List (κ × V)} {vs:List (κ × Value)} (r:KV kvs vs) (k:κ):(kvs.any fun kv=>decide (kv.1=k))=vs.any fun kv=>decide (kv.1=k):=by
 unfold KV at r
 induction r with
 | nil=>rfl
 | cons h t ih=>rw [List.any_cons,List.any_cons,ih,h.1]
theorem KV.repl {kvs:List (κ × V)} {vs:List (κ × Value)} (r:KV kvs vs) (k:κ) {y:V} {u:Value} (ry:RelV y u) :
  KV (kvs.map fun kv=>if kv.1=k then (kv.1,y) else kv) (vs.map fun kv=>if kv.1=k then (kv.1,u) else kv):=by
 unfold KV at r ⊢
 induction r with
 | nil=>exact .nil
 | @cons p q ps qs h t ih =>
  rw [List.map_cons,List.map_cons]
  refine .cons ?_ ih
  obtain ⟨h1,h2⟩:=h
  by_cases e:p.1=k
  ·rw [if_pos e,if_pos (h1.symm.trans e)]; exact ⟨h1,ry⟩
  ·rw [if_neg e,if_neg (fun z=>e (h1.trans z))]; exact ⟨h1,h2⟩
theorem KV.put {kvs:List (κ × V)} {vs:List (κ × Value)} (r:KV kvs vs) (k:κ) {y:V} {u:Value} (ry:RelV y u):KV (putK kvs k y) (stored vs k u):=by
 unfold putK stored
 rw [r.any k]
 by_cases e:(vs.any fun kv=>decide (kv.1=k))=true
 ·rw [if_pos e,if_pos e]; exact r.repl k ry
 ·rw [if_neg e,if_neg e]; exact Paired.snoc r ⟨rfl,ry⟩
theorem KV.length {kvs:List (κ × V)} {vs:List (κ × Value)} (r:KV kvs vs):kvs.length=vs.length:=Paired.length r
end
theorem kV_is {P:Program} {w:World} {k:Key} {u:Value} (r:RelV (kV k) u):(mixKind P w).is k u=true:=by
 cases k with
 | inl i=>obtain ⟨t,e⟩:=(show ∃ t,u=Value.int i t from r); subst e; exact mixKind_int P w i t
 | inr x=>obtain ⟨t,e⟩:=(show ∃ t,u=Value.str x t from r); subst e; exact mixKind_str P w x t
theorem items_are {P:Program} {w:World}:∀ {ks:List Key} {us:List Value},Vals (ks.map kV) us→ItemsAre (mixKind P w) ks us
 | [],_,r=>by rw [List.map_nil] at r; cases r; exact .nil
 | k::ks,_,r=>by
  rw [List.map_cons] at r
  cases r with
  | cons h t=>exact .cons (kV_is h) (items_are t)
noncomputable abbrev KT (H:Hp):List (List Key × V)→List (List Key × Addr × Value)→Prop:=Paired fun p q=>p.1=q.1∧H q.2.1=some (.tup (p.1.map kV))∧RelV p.2 q.2.2
theorem KT.val {H:Hp} {kvs:List (List Key × V)} {xs:List (List Key × Addr × Value)} (r:KT H kvs xs) (k:List Key):RelO (valV kvs k) ((atKey xs k).map (·.2)):=by
 induction r with
 | nil=>exact True.intro
 | @cons p q ps qs h t ih =>
  obtain ⟨h1,_,h2⟩:=h
  by_cases e:p.1=k
  ·have e':q.1=k:=h1.symm.trans e
   have b:atKey (q::qs) k=some q.2:=by simp [atKey,List.find?_cons,e']
   rw [valV_pos e,b]; exact h2
  ·have e':¬ q.1=k:=fun z=>e (h1.trans z)
   have b:atKey (q::qs) k=atKey qs k:=by simp [atKey,List.find?_cons,e']
   rw [valV_neg e,b]; exact ih
theorem KT.repl {H:Hp} {kvs:List (List Key × V)} {xs:List (List Key × Addr × Value)} (r:KT H kvs xs) (k:List Key) {y:V} {u:Value} (ry:RelV y u) :
  KT H (kvs.map fun kv=>if kv.1=k then (kv.1,y) else kv) (xs.map (putAt k u)):=by
 induction r with
 | nil=>exact .nil
 | @cons p q ps qs h t ih =>
  rw [List.map_cons,List.map_cons]
  refine .cons ?_ ih
  obtain ⟨h1,h2,h3⟩:=h
  unfold putAt
  by_cases e:p.1=k
  ·rw [if_pos e,if_pos (h1.symm.trans e)]; exact ⟨h1,h2,ry⟩
  ·rw [if_neg e,if_neg (fun z=>e (h1.trans z))]; exact ⟨h1,h2,h3⟩
theorem KT.put {H:Hp} {kvs:List (List Key × V)} {xs:List (List Key × Addr × Value)} (r:KT H kvs xs) (k:List Key) {b:Addr} {y:V} {u:Value} (hb:H b=some (.tup (k.map kV))) (ry:RelV y u) :
  KT H (putK kvs k y) (storedH xs k b u):=by
 have e:(kvs.any fun kv=>decide (kv.1=k))=(atKey xs k).isSome:=by
  rw [valV_any,(r.val k).isSome_eq,Option.isSome_map]
 unfold putK storedH
 rw [e]
 by_cases q:(atKey xs k).isSome=true
 ·rw [if_pos q,if_pos q]; exact r.repl k ry
 ·rw [if_neg q,if_neg q]; exact Paired.snoc r ⟨rfl,hb,ry⟩
theorem KT.keeps {H H':Hp} {kvs:List (List Key × V)} {xs:List (List Key × Addr × Value)} (r:KT H kvs xs) (ht:∀ b ys,H b=some (.tup ys)→H' b=some (.tup ys)):KT H' kvs xs :=
 Paired.mapP r fun _ _ z=>⟨z.1,ht _ _ z.2.1,z.2.2⟩
section
variable {P:Program} {w:World} {H:Hp} {h:Heap} {a:Addr}
theorem rd_of {u:HO} (ok:HOk P w H h) (e:Rd H a u):ObjOk P w H h a u:=e.ok ok
theorem dk_rd {kvs:List (Key × V)} (ok:HOk P w H h) (e:Rd H a (.dK kvs)):kvs.length≤sizeLine∧(a == sysModules)=false∧∃ vs,KV kvs vs∧h.DictOf (mixKind P w) a vs :=
 show ObjOk P w H h a (.dK kvs) from rd_of ok e
theorem dk_of {kvs:List (Key × V)} (ok:HOk P w H h) (e:H a=some (.dK kvs)):kvs.length≤sizeLine∧(a == sysModules)=false∧∃ vs,KV kvs vs∧h.DictOf (mixKind P w) a vs:=dk_rd ok (.inl e)
theorem key_of {ks:List Key} (ok:HOk P w H h) (e:H a=some (.tup (ks.map kV))):(tupleKind (mixKind P w)).is h ks a:=by
 obtain ⟨_,its,r,o,h1,h2,n,h3⟩:=(show ObjOk P w H h a (.tup (ks.map kV)) from ok a _ e)
 exact ⟨o,its.toArray,n,h1,h2,h3,by simpa using items_are r⟩
theorem dt_rd {kvs:List (List Key × V)} (ok:HOk P w H h) (e:Rd H a (.dT kvs)):kvs.length≤sizeLine∧(a == sysModules)=false ∧
  ∃ xs,KT H kvs xs∧h.DictOfH (tupleKind (mixKind P w)) a xs:=by
 obtain ⟨z,y,xs,r,o,es,ep,h1,h2,h3,h4,h5⟩:=(show ObjOk P w H h a (.dT kvs) from rd_of ok e)
 refine ⟨z,y,xs,r,o,es,ep,h1,h2,h3,h4,fun x hx => ?_,h5⟩
 have all:∀ {l:List (List Key × V)} {m:List (List Key × Addr × Value)},KT H l m→∀ x∈m,(tupleKind (mixKind P w)).is h x.1 x.2.1:=by
  intro l m q
  induction q with
  | nil=>intro x hx; exact nomatch hx
  | @cons p q ps qs hq t ih =>
   intro x hx
   rcases List.mem_cons.mp hx with e | hx
   ·subst e
    exact key_of ok (by rw [← hq.1]; exact hq.2.1)
   ·exact ih x hx
 exact all r x hx
theorem dt_of {kvs:List (List Key × V)} (ok:HOk P w H h) (e:H a=some (.dT kvs)):kvs.length≤sizeLine∧(a == sysModules)=false ∧
  ∃ xs,KT H kvs xs∧h.DictOfH (tupleKind (mixKind P w)) a xs:=dt_rd ok (.inl e)
end
noncomputable def DGet (H:Hp) (a:Addr) (y:V) (r:Option V):Prop :=
 (∃ kvs k,Rd H a (.dK kvs)∧y=kV k∧r=valV kvs k)∨∃ kvs k b,Rd H a (.dT kvs)∧y=.ref b∧H b=some (.tup (k.map kV))∧r=valV kvs k
noncomputable def DPut (H:Hp) (a:Addr) (y v:V) (H':Hp):Prop :=
 (∃ kvs k,H a=some (.dK kvs)∧y=kV k∧kvs.length<sizeLine∧H'=upd H a (.dK (putK kvs k v))) ∨
 ∃ kvs k b,H a=some (.dT kvs)∧y=.ref b∧H b=some (.tup (k.map kV))∧kvs.length<sizeLine∧H'=upd H a (.dT (putK kvs k v))
theorem DGet.k {H:Hp} {a:Addr} {kvs:List (Key × V)} {k:Key} (e:H a=some (.dK kvs)):DGet H a (kV k) (valV kvs k):=.inl ⟨kvs,k,.inl e,rfl,rfl⟩
theorem DGet.t {H:Hp} {a b:Addr} {kvs:List (List Key × V)} {k:List Key} (e:H a=some (.dT kvs)) (eb:H b=some (.tup (k.map kV))):DGet H a (.ref b) (valV kvs k):=.inr ⟨kvs,k,b,.inl e,rfl,eb,rfl⟩
theorem DPut.k {H:Hp} {a:Addr} {kvs:List (Key × V)} {k:Key} {v:V} (e:H a=some (.dK kvs)) (hl:kvs.length<sizeLine):DPut H a (kV k) v (upd H a (.dK (putK kvs k v))):=.inl ⟨kvs,k,e,rfl,hl,rfl⟩
theorem DPut.t {H:Hp} {a b:Addr} {kvs:List (List Key × V)} {k:List Key} {v:V} (e:H a=some (.dT kvs)) (eb:H b=some (.tup (k.map kV))) (hl:kvs.length<sizeLine) :
  DPut H a (.ref b) v (upd H a (.dT (putK kvs k v))):=.inr ⟨kvs,k,b,e,rfl,eb,hl,rfl⟩
section
variable {X:Cx} {pins:List (Addr × Obj)} {σ:St} {H:Hp} {s:Shared} {a:Addr} {y v:V} {u r:Value} {o:Option V} {A:Around} {E:Value→Shared→Prop}
theorem d_getItem {Q:Value→Shared→Prop} (hu:A.units+1<cLine) (I:Inv X pins σ H s) (g:DGet H a y (some v)) (ry:RelV y u) (h:∀ w' s',Inv X pins σ H s'→RelV v w'→Q w' s') :
  wpAny (model X.prog X.w) A (getItem (.ref a) u) Q E s:=by
 rcases g with ⟨kvs,k,e,ey,l⟩ | ⟨kvs,k,b,e,ey,eb,l⟩
 ·subst ey
  obtain ⟨z,hd,vs,rel,dd⟩:=dk_rd I.hok e
  obtain ⟨w',hw,rw'⟩:=RelO.some_of (v:=v) (o:=valueAt vs k) (by rw [l]; exact rel.val k)
  exact wpAny_getItem_of (kV_is ry) dd.mapOf hw (h w' _ (I.tok _) rw')
 ·subst ey
  cases (show u=Value.ref b from ry)
  obtain ⟨z,hd,xs,rel,dd⟩:=dt_rd I.hok e
  obtain ⟨w',hw,rw'⟩:=RelO.some_of (v:=v) (o:=(atKey xs k).map (·.2)) (by rw [l]; exact rel.val k)
  obtain ⟨p,hp,hp2⟩:=Option.map_eq_some_iff.mp hw
  refine wpAny_getItem_heap (tupleKind_room_in1 hu) (key_of I.hok eb) dd hp ?_
  rw [hp2]
  exact h w' _ (I.tok _) rw'
theorem d_write {h':Heap} {t':Nat} {ob:HO} (I:Inv X pins σ H s) (mu:Mut (H a)) (hs:Heap.SameBut a s.heap h') (he:∃ q,h'.get? a=some q) (new:ObjOk X.prog X.w (upd H a ob) h' a ob) :
  Inv X pins σ (upd H a ob) { s with heap:=h',toks:=t' } :=
 I.write (x:=a) (e:=a) mu (.inl rfl) (fun b q hb z=>(hs.2 b hb).trans z) he new
theorem dk_new {P:Program} {w:World} {H':Hp} {h':Heap} {kvs:List (Key × V)} {vs:List (Key × Value)} (z:kvs.length≤sizeLine) (hd:(a == sysModules)=false) (rel:KV kvs vs) (dd:h'.DictOf (mixKind P w) a vs) :
  ObjOk P w H' h' a (.dK kvs):=⟨z,hd,vs,rel,dd⟩
theorem d_setItem {H':Hp} {Q:Unit→Shared→Prop} (hu:A.units+1<cLine) (I:Inv X pins σ H s) (g:DPut H a y v H') (ry:RelV y u) (rv:RelV v r) (h:∀ s',Inv X pins σ H' s'→Q () s') :
  wpAny (model X.prog X.w) A (setItem (.ref a) u r) Q E s:=by
 rcases g with ⟨kvs,k,e,ey,l,eH⟩ | ⟨kvs,k,b,e,ey,eb,l,eH⟩
 ·subst ey eH
  obtain ⟨z,hd,vs,rel,dd⟩:=dk_of I.hok e
  have hz:vs.length≤sizeLine:=by rw [← rel.length]; exact z
  have hl:(putK kvs k v).length≤sizeLine:=by have:=length_putK kvs k v; omega
  refine wpAny_setItem_pairs (hsz:=hz) (kV_is ry) dd fun h' dd' hs=>h _ ?_
  have he:∃ q,h'.get? a=some q:=let ⟨q,_,_,hq,_⟩:=dd'; ⟨q,hq⟩
  exact d_write I (by rw [e]; exact True.intro) hs he (dk_new hl hd (rel.put k rv) dd')
 ·subst ey eH
  cases (show u=Value.ref b from ry)
  obtain ⟨z,hd,xs,rel,dd⟩:=dt_of I.hok e
  have hz:xs.length≤sizeLine:=by rw [← Paired.length rel]; exact z
  have hl:(putK kvs k v).length≤sizeLine:=by have:=length_putK kvs k v; omega
  refine wpAny_setItem_heap (hsz:=hz) (tupleKind_room_in1 hu) (key_of I.hok eb) dd fun h' dd' hs=>h _ ?_
  obtain ⟨q,es,ep,hq,h2,h3,h4,_,h5⟩:=dd'
  refine d_write I (by rw [e]; exact True.intro) hs ⟨q,hq⟩ ⟨hl,hd,_,(rel.put k eb rv).keeps fun c ys ec => ?_,q,es,ep,hq,h2,h3,h4,h5⟩
  rw [upd_ne (ne_of ec e (fun z=>nomatch z))]
  exact ec
end
section
variable {X:Cx} {pins:List (Addr × Obj)} {σ:St} {H:Hp} {s:Shared} {a:Addr} {kvs:List (Key × V)} {k:Key} {u:Value} {A:Around} {E:Value→Shared→Prop}
theorem d_len {Q:Value→Shared→Prop} (I:Inv X pins σ H s) (e:Rd H a (.dK kvs)) (h:∀ t s',Inv X pins σ H s'→Q (.int kvs.length t) s'):wpAny (model X.prog X.w) A (call (.builtin "len") [.ref a]) Q E s:=by
 obtain ⟨z,hd,vs,rel,dd⟩:=dk_rd I.hok e
 refine call_len_dict hd dd (by rw [← rel.length]; rw [sizeLine_eq] at z; omega) ?_
 rw [← rel.length]
 exact h _ _ (I.tok _)
end
theorem dict_typeIs {X:Cx} {pins:List (Addr × Obj)} {σ:St} {H:Hp} {s:Shared} {a:Addr} {y:V} {o:Option V} (I:Inv X pins σ H s) (g:DGet H a y o):s.TypeIs (.ref a) "dict" := by
 rcases g with ⟨kvs,k,e,_,_⟩ | ⟨kvs,k,b,e,_,_,_⟩
 ·obtain ⟨_,_,vs,_,dd⟩:=dk_rd I.hok e
  exact dd.typeIs
 ·obtain ⟨_,_,xs,_,dd⟩:=dt_rd I.hok e
  exact dd.typeIs
section
variable {X:Cx} {o i e value:Expr} {pos pos' tpos:Pos} {td ty tv:TE}
end
section
variable {X:Cx} {pos:Pos}
end
section
variable {X:Cx} {pins:List (Addr × Obj)} {σ:St} {H:Hp} {s:Shared} {a:Addr} {y d:V} {u r:Value} {o:Option V} {A:Around} {E:Value→Shared→Prop}
end
section
variable {X:Cx} {o e f:Expr} {apos cpos:Pos} {td ty tx:TE}
end
section
variable {X:Cx} {pins:List (Addr × Obj)} {σ:St} {H:Hp} {s:Shared} {a:Addr} {kvs:List (Key × V)} {A:Around} {E:Value→Shared→Prop}
end
section
variable {X:Cx} {pins:List (Addr × Obj)} {σ:St} {H:Hp} {s:Shared} {a:Addr} {y:V} {u:Value} {A:Around} {E:Value→Shared→Prop}
end
end L2
set_option autoImplicit false
namespace I
set_option genSizeOf false
inductive D where
 | non | bl (b:Bool) | int (i:Int) | str (s:List Nat) | lst (xs:List D) | tup (xs:List D) | scr (xs:List D) | ktu (xs:List D) | cel (n:Nat) | exn (c:Nat) (p:Option Int)
inductive Cell where
 | lst (xs:List D) | dct (t:Bool) (kvs:List (D × D)) | ins (c:Nat) (fs:List (Nat × D)) | tab (n:Nat)
noncomputable abbrev OS:=List (Option Cell)
noncomputable abbrev Fr:=List (Option D)
inductive R (α:Type) where
 | ok (a:α) (os:OS) | exc (c:Nat) (p:Option Int) (os:OS) | stk
class Kt (α β:Type) where
 go:α→OS→R β
class Ko (β:Type) where
 go:OS→R β
noncomputable def R.bind {α β:Type} (r:R α) [k:Kt α β]:R β:=match r with
 | .ok a os=>k.go a os
 | .exc c p os=>.exc c p os
 | .stk=>.stk
theorem bind_ok {α β:Type} (a:α) (os:OS) (f:α→OS→R β):@R.bind α β (R.ok a os) ⟨f⟩=f a os:=rfl
theorem bind_exc {α β:Type} (c:Nat) (p:Option Int) (os:OS) (k:Kt α β):@R.bind α β (R.exc c p os:R α) k=.exc c p os:=rfl
noncomputable def R.ofO {α:Type}:Option α→OS→R α
 | some a,os=>.ok a os
 | none,_=>.stk
noncomputable def SZ:Nat:=16777216
noncomputable def D.pl:Nat→D→Bool
 | _,.non=>true
 | _,.bl _=>true
 | _,.int _=>true
 | _,.str s=>s.all fun c=>decide (c<55296)
 | n+1,.lst xs=>xs.all (D.pl n)
 | n+1,.tup xs=>xs.all (D.pl n)
 | _,_=>false
mutual
noncomputable def D.same:D→D→Bool
 | .non,.non=>true
 | .bl a,.bl b=>a == b
 | .int a,.int b=>decide (a=b)
 | .str a,.str b=>decide (a=b)
 | .lst xs,.lst ys=>D.sames xs ys
 | .tup xs,.tup ys=>D.sames xs ys
 | _,_=>false
noncomputable def D.sames:List D→List D→Bool
 | [],[]=>true
 | x::xs,y::ys=>D.same x y&&D.sames xs ys
 | _,_=>false
end
mutual
noncomputable def D.nm:D→D→Bool
 | .bl _,.int _=>false
 | .int _,.bl _=>false
 | .lst xs,.lst ys=>D.nms xs ys
 | .tup xs,.tup ys=>D.nms xs ys
 | _,_=>true
noncomputable def D.nms:List D→List D→Bool
 | x::xs,y::ys=>D.nm x y&&D.nms xs ys
 | _,_=>true
end
noncomputable def D.eq (a b:D):Option Bool:=if (D.pl 60 a&&D.pl 60 b&&D.nm a b)=true then some (D.same a b) else none
noncomputable def getC (os:OS) (n:Nat):Option Cell:=(os[n]?).join
noncomputable def deref (os:OS):D→D
 | .cel n=>match getC os n with | some (.lst xs)=>.lst xs | _=>.cel n
 | d=>d
noncomputable def deep (os:OS):Nat→D→D
 | n+1,.lst xs=>.lst (xs.map (deep os n))
 | n+1,.tup xs=>.tup (xs.map (deep os n))
 | n+1,.cel m=>(match getC os m with | some (.lst xs)=>.lst (xs.map (deep os n)) | _=>.cel m)
 | _,d=>d
noncomputable def truth (os:OS):D→Option Bool
 | .non=>some false
 | .bl b=>some b
 | .int i=>some (decide (i≠0))
 | .str s=>if s.length≤SZ then some (!s.isEmpty) else none
 | .lst xs=>some (!xs.isEmpty)
 | .tup xs=>some (!xs.isEmpty)
 | .scr xs=>some (!xs.isEmpty)
 | .ktu xs=>some (!xs.isEmpty)
 | .cel n=>match getC os n with | some (.lst xs)=>some (!xs.isEmpty) | some (.dct false kvs)=>some (!kvs.isEmpty) | some (.ins _ _)=>none | _=>none
 | .exn _ _=>none
noncomputable def ixOf (n:Nat) (i:Int):Option Nat:=if 0≤i then (if i<n then some i.toNat else none) else if -(n:Int)≤i then some (i+n).toNat else none
noncomputable def slAt (n d:Nat):Option Int→Nat
 | none=>d
 | some i=>if 0≤i then min i.toNat n else (i+n).toNat
noncomputable def cut {α:Type} (xs:List α) (lo hi:Option Int):List α:=(xs.drop (slAt xs.length 0 lo)).take (slAt xs.length xs.length hi - slAt xs.length 0 lo)
noncomputable def kS:D→Bool
 | .int _=>true
 | .str _=>true
 | _=>false
noncomputable def keyOk:Bool→D→Bool
 | false,d=>kS d
 | true,.tup ds=>ds.all kS
 | true,_=>false
noncomputable def dGet (k:D):List (D × D)→Option D
 | []=>none
 | (a,v)::r=>if D.same a k=true then some v else dGet k r
noncomputable def dPut (k v:D) (kvs:List (D × D)):List (D × D) :=
 if (kvs.any fun p=>D.same p.1 k)=true then kvs.map (fun p=>if D.same p.1 k=true then (p.1,v) else p) else kvs++[(k,v)]
noncomputable def dDel (k:D) (kvs:List (D × D)):List (D × D):=kvs.filter fun p => !D.same p.1 k
noncomputable def insBy {α:Type} (le:α→α→Bool) (x:α):List α→List α
 | []=>[x]
 | y::r=>if le x y then x::y::r else y::insBy le x r
noncomputable def sortBy {α:Type} (le:α→α→Bool):List α→List α
 | []=>[]
 | x::r=>insBy le x (sortBy le r)
noncomputable def tabB (t:Nat):Option Cell→Bool
 | some (.tab n)=>n == t
 | _=>false
noncomputable def key2:D→Option Int
 | .tup (_::.int k::_)=>some k
 | .ktu (_::.int k::_)=>some k
 | _=>none
noncomputable def keys2:List D→Option (List Int)
 | []=>some []
 | x::r=>(key2 x).bind fun k=>(keys2 r).map (k :: ·)
noncomputable def srtO (xs:List D):Option D:=if xs.length<64 then (keys2 xs).map fun ks=>.lst ((sortBy (fun a b=>decide (a.1≤b.1)) (ks.zip xs)).map (·.2)) else none
noncomputable def rngD (n:Nat):List D:=(List.range n).map fun k=>.int (k:Nat)
noncomputable def srtRO (n:Int) (ys:List D):Option D:=if 0≤n∧n<64∧n.toNat≤ys.length then (keys2 (ys.take n.toNat)).map fun ks=>.lst ((sortBy (fun a b=>decide (a.1≤b.1)) (ks.zip (rngD n.toNat))).map (·.2)) else none
noncomputable def srtI (ns:List Int):Option D:=if ns.length<64 then some (.lst ((sortBy (fun a b=>decide (a≤b)) ns).map .int)) else none
noncomputable def tri:D→Option (Int × Int)
 | .tup [.int a,.int b,.int _]=>some (a,b)
 | _=>none
noncomputable def tris:List D→Option (List (Int × Int))
 | []=>some []
 | x::r=>(tri x).bind fun k=>(tris r).map (k :: ·)
noncomputable def rises:List (Int × Int)→Bool
 | a::b::r=>decide (a.2<b.2)&&rises (b::r)
 | _=>true
noncomputable def srtTO (xs:List D):Option D:=if xs.length<64 then (tris xs).bind fun ts=>if rises ts=true then some (.lst ((sortBy (fun a b=>decide (a.1≤b.1)) ((ts.map (·.1)).zip xs)).map (·.2))) else none else none
noncomputable def asInts:List D→Option (List Int)
 | []=>some []
 | .int i::r=>(asInts r).map (i :: ·)
 | _::_=>none
noncomputable def asBools:List D→Option (List Bool)
 | []=>some []
 | .bl i::r=>(asBools r).map (i :: ·)
 | _::_=>none
noncomputable def items (os:OS):D→Option (List D)
 | .lst xs=>some xs
 | .tup xs=>some xs
 | .scr xs=>some xs
 | .ktu xs=>some xs
 | .cel n=>match getC os n with | some (.lst xs)=>some xs | _=>none
 | _=>none
noncomputable def isIn:D→List D→Option Bool
 | .int k,xs=>(asInts xs).map fun ns=>decide (k∈ns)
 | _,_=>none
noncomputable def itemsL (os:OS):D→Option (List D)
 | .lst xs=>some xs
 | .scr xs=>some xs
 | .cel n=>match getC os n with | some (.lst xs)=>some xs | _=>none
 | _=>none
noncomputable def itemsT:D→Option (List D)
 | .tup xs=>some xs
 | .ktu xs=>some xs
 | _=>none
noncomputable def digs (m:Nat):List Nat:=(Nat.toDigits 10 m).map Char.toNat
noncomputable def isFig (c:Nat):Bool:=decide (48≤c)&&decide (c≤57)
noncomputable def dval (l:List Nat):Nat:=l.foldl (fun a c=>a * 10+(c - 48)) 0
noncomputable def asStrs:List D→Option (List (List Nat))
 | []=>some []
 | .str s::r=>(asStrs r).map (s :: ·)
 | _::_=>none
noncomputable def joinL (sep:List Nat):List (List Nat)→List Nat
 | []=>[]
 | [a]=>a
 | a::b::r=>a++sep++joinL sep (b::r)
noncomputable def splitC (c:Nat):List Nat→List (List Nat)
 | []=>[[]]
 | a::r=>if a=c then []::splitC c r else match splitC c r with | []=>[[a]] | w::ws=>(a::w)::ws
noncomputable def joinK (sep:List Nat) (os:OS):Option (List (List Nat))→R D
 | some ts=>if (ts.map List.length).sum+ts.length * sep.length≤1000000 then .ok (.str (joinL sep ts)) os else .stk
 | none=>.stk
set_option genInjectivity false
inductive Cop where | eq | ne | lt | le | gt | ge | isN | notN | isIn | notIn | eqd | isB | leS | inS
inductive Ty where | int | bool | list | tuple | str
inductive Pr where
 | add | sub | mul | fdiv | mod | pow | shl | shr | band | bor | bxor | neg
 | cmp (o:Cop) | len | ix | sl (lo hi:Bool) | list | tuple | sum | all | any | min2 | max2 | min1 | max1 | maxD | sorted | sortT | srt2 (t:Nat) | srtR (t:Nat) | isInst (t:Ty)
 | popL | bitlen | append | extend | insert | pop | popAt | clear | reverse | index | get1 | get2 | setdef | toS | toI | joinS | splitS | startS
noncomputable def mulOk (i j:Int):Prop:=(i.natAbs<2 ^ 64∨j.natAbs<2 ^ 64)∨(i.natAbs<2 ^ 2000∧j.natAbs<2 ^ 2000)
instance (i j:Int):Decidable (mulOk i j):=inferInstanceAs (Decidable (_∨_))
noncomputable def bandI (i j:Int):Int:=(i.toNat &&& j.toNat:Nat)
noncomputable def borI (i j:Int):Int:=i+j - bandI i j
noncomputable def bxorI (i j:Int):Int:=i+j - bandI i j - bandI i j
noncomputable def bitLen (i:Int):Nat:=if i=0 then 0 else i.natAbs.log2+1
@[irreducible] def R.gd {α:Type} (c:Prop) [Decidable c] (r:R α):R α:=if c then r else .stk
theorem gd_pos {α:Type} {c:Prop} [Decidable c] {r:R α} (h:c):R.gd c r=r:=by unfold R.gd; exact if_pos h
noncomputable def cmpI (o:Cop) (i j:Int):Option Bool:=match o with
 | .lt=>some (decide (i<j)) | .le=>some (decide (i≤j)) | .gt=>some (decide (j<i)) | .ge=>some (decide (j≤i)) | _=>none
noncomputable def cmp (o:Cop) (a b:D) (os:OS):R D:=match o with
 | .eq=>.ofO ((D.eq (deref os a) (deref os b)).map .bl) os
 | .ne=>.ofO ((D.eq (deref os a) (deref os b)).map fun x=>.bl (!x)) os
 | .eqd=>.ofO ((D.eq (deep os 4 a) (deep os 4 b)).map .bl) os
 | .isB=>(match a,b with | .bl x,.bl y=>.ok (.bl (x == y)) os | _,_=>.stk)
 | .inS=>(match a,b with | .str [c],.str s=>.ok (.bl (decide (c∈s))) os | _,_=>.stk)
 | .leS=>(match a,b with | .str [x],.str [y]=>.ok (.bl (decide (x≤y))) os | _,_=>.stk)
 | .isN=>match a,b with | .non,.non=>.ok (.bl true) os | _,.non=>.ok (.bl false) os | _,_=>.stk
 | .notN=>match a,b with | .non,.non=>.ok (.bl false) os | _,.non=>.ok (.bl true) os | _,_=>.stk
 | .isIn=>.ofO (((items os b).bind fun xs=>isIn a xs).map .bl) os
 | .notIn=>.ofO (((items os b).bind fun xs=>isIn a xs).map fun x=>.bl (!x)) os
 | o=>match a,b with
  | .int i,.int j=>.ofO ((cmpI o i j).map .bl) os
  | _,_=>.stk
noncomputable def isTy:Ty→D→Option Bool
 | .int,.int _=>some true | .int,.bl _=>some true
 | .bool,.bl _=>some true
 | .list,.lst _=>some true
 | .tuple,.tup _=>some true
 | .str,.str _=>some true
 | _,.cel _=>none
 | _,.ktu _=>none
 | _,.scr _=>none
 | _,.exn _ _=>none
 | _,_=>some false
noncomputable def int2 (f:Int→Int→R D):List D→R D
 | [.int i,.int j]=>f i j
 | _=>.stk
noncomputable def minL:List Int→Option Int
 | []=>none
 | x::r=>some (r.foldl (fun a b=>if b<a then b else a) x)
noncomputable def maxL:List Int→Option Int
 | []=>none
 | x::r=>some (r.foldl (fun a b=>if a<b then b else a) x)
noncomputable def slB:Bool→Bool→List D→Option (Option Int × Option Int)
 | false,false,[]=>some (none,none)
 | true,false,[.int a]=>some (some a,none)
 | false,true,[.int b]=>some (none,some b)
 | true,true,[.int a,.int b]=>some (some a,some b)
 | _,_,_=>none
noncomputable def slK (os:OS):D→Option (Option Int × Option Int)→R D
 | .lst xs,some (a,b)=>.ok (.lst (cut xs a b)) os
 | .scr xs,some (a,b)=>.ok (.lst (cut xs a b)) os
 | .str s,some (a,b)=>.gd (s.length≤1000000) (.ok (.str (cut s a b)) os)
 | .tup xs,some (a,b)=>.gd (¬ (slAt xs.length 0 a=0∧slAt xs.length xs.length b=xs.length)) (.ok (.tup (cut xs a b)) os)
 | _,_=>.stk
noncomputable def popLK (n:Nat) (xs:List D) (os:OS):Option Nat→R D
 | some j=>(match xs[j]? with | some y=>.ok y (os.set n (some (.lst (xs.eraseIdx j)))) | none=>.stk)
 | none=>.stk
noncomputable def pr (p:Pr) (ds:List D) (os:OS):R D:=match p with
 | .add=>(match ds with
  | [.int i,.int j]=>.ok (.int (i+j)) os
  | [.str xs,.str ys]=>.gd (xs.length+ys.length≤1000000) (.ok (.str (xs++ys)) os)
  | [.tup xs,.tup ys]=>.gd (xs≠[]∧xs.length+ys.length≤SZ) (.ok (.tup (xs++ys)) os)
  | [a,b]=>(match deref os a,deref os b with
   | .lst xs,.lst ys=>.gd (xs.length+ys.length≤SZ) (.ok (.lst (xs++ys)) os)
   | _,_=>.stk)
  | _=>.stk)
 | .sub=>int2 (fun i j=>.ok (.int (i - j)) os) ds
 | .mul=>(match ds with
  | [.int i,.int j]=>.gd (mulOk i j) (.ok (.int (i * j)) os)
  | [.str xs,.int k]=>.gd ((2≤k∧k≤1000)∧1≤xs.length∧xs.length≤1000) (.ok (.str (List.replicate k.toNat xs).flatten) os)
  | [.lst xs,.int k]=>.gd (-(2 ^ 63)≤k∧k<2 ^ 63∧xs.length * k.toNat≤SZ) (.ok (.lst (List.replicate k.toNat xs).flatten) os)
  | _=>.stk)
 | .fdiv=>int2 (fun i j=>.gd (0<j∧j<2 ^ 200) (.ok (.int (i / j)) os)) ds
 | .mod=>int2 (fun i j=>.gd (0<j) (.ok (.int (i % j)) os)) ds
 | .pow=>int2 (fun i j=>.gd (0≤j∧j≤1000000∧i.natAbs<2 ^ 64) (.ok (.int (i ^ j.toNat)) os)) ds
 | .shl=>int2 (fun i j=>.gd (0≤j∧j≤1000000∧i.natAbs<2 ^ 200) (.ok (.int (i * 2 ^ j.toNat)) os)) ds
 | .shr=>int2 (fun i j=>.gd (0≤j) (.ok (.int (i / 2 ^ j.toNat)) os)) ds
 | .band=>int2 (fun i j=>.gd (0≤i∧0≤j) (.ok (.int (bandI i j)) os)) ds
 | .bor=>int2 (fun i j=>.gd (0≤i∧0≤j) (.ok (.int (borI i j)) os)) ds
 | .bxor=>int2 (fun i j=>.gd (0≤i∧0≤j) (.ok (.int (bxorI i j)) os)) ds
 | .neg=>(match ds with | [.int i]=>.ok (.int (-i)) os | _=>.stk)
 | .cmp o=>(match ds with | [a,b]=>cmp o a b os | _=>.stk)
 | .len=>(match ds with
  | [.cel n]=>(match getC os n with | some (.lst xs)=>.ok (.int xs.length) os | some (.dct false kvs)=>.ok (.int kvs.length) os | _=>.stk)
  | [.lst xs]=>.ok (.int xs.length) os
  | [.scr xs]=>.ok (.int xs.length) os
  | [.ktu xs]=>.ok (.int xs.length) os
  | [.tup xs]=>.ok (.int xs.length) os
  | [.str s]=>.gd (s.length≤SZ) (.ok (.int s.length) os)
  | _=>.stk)
 | .ix=>(match ds with
  | [.cel n,k]=>(match getC os n,k with
   | some (.lst xs),.int i=>.ofO ((ixOf xs.length i).bind fun j=>xs[j]?) os
   | some (.dct t kvs),k=>.gd (keyOk t k=true) (.ofO (dGet k kvs) os)
   | _,_=>.stk)
  | [.lst xs,.int i]=>.ofO ((ixOf xs.length i).bind fun j=>xs[j]?) os
  | [.scr xs,.int i]=>.ofO ((ixOf xs.length i).bind fun j=>xs[j]?) os
  | [.ktu xs,.int i]=>.ofO ((ixOf xs.length i).bind fun j=>xs[j]?) os
  | [.tup xs,.int i]=>.ofO ((ixOf xs.length i).bind fun j=>xs[j]?) os
  | [.str s,.int i]=>.gd (s.length≤SZ) (.ofO ((ixOf s.length i).bind fun j=>(s[j]?).map fun c=>.str [c]) os)
  | _=>.stk)
 | .sl lo hi=>(match ds with
  | x::r=>slK os (deref os x) (slB lo hi r)
  | _=>.stk)
 | .list=>(match ds with | [x]=>.ofO ((items os x).map .lst) os | _=>.stk)
 | .tuple=>(match ds with | [.ktu _]=>.stk | [x]=>.ofO ((items os x).map .tup) os | _=>.stk)
 | .sum=>(match ds with
  | [x]=>(match (itemsL os x).bind asInts with
   | some ns=>.ok (.int ns.sum) os
   | none=>.stk)
  | _=>.stk)
 | .all=>(match ds with | [x]=>.ofO (((itemsL os x).bind asBools).map fun bs=>.bl (bs.all id)) os | _=>.stk)
 | .any=>(match ds with | [x]=>.ofO (((itemsL os x).bind asBools).map fun bs=>.bl (bs.any id)) os | _=>.stk)
 | .min2=>int2 (fun i j=>.ok (.int (if j<i then j else i)) os) ds
 | .max2=>int2 (fun i j=>.ok (.int (if i<j then j else i)) os) ds
 | .min1=>(match ds with | [x]=>.ofO (((itemsL os x).bind asInts).bind fun ns=>(minL ns).map .int) os | _=>.stk)
 | .max1=>(match ds with | [x]=>.ofO (((itemsL os x).bind asInts).bind fun ns=>(maxL ns).map .int) os | _=>.stk)
 | .maxD=>(match ds with | [x,d]=>.ofO (((itemsL os x).bind asInts).bind fun ns=>match maxL ns with | some m=>some (.int m) | none=>some d) os | _=>.stk)
 | .sorted=>(match ds with | [x]=>.ofO (((itemsL os x).bind asInts).bind srtI) os | _=>.stk)
 | .sortT=>(match ds with | [x]=>.ofO ((itemsL os x).bind srtTO) os | _=>.stk)
 | .srt2 t=>(match ds with | [x]=>.gd (tabB t (getC os t)=true) (.ofO ((itemsL os x).bind srtO) os) | _=>.stk)
 | .srtR t=>(match ds with | [.int n,y]=>.gd (tabB t (getC os t)=true) (.ofO ((itemsL os y).bind (srtRO n)) os) | _=>.stk)
 | .isInst t=>(match ds with | [x]=>.ofO ((isTy t (deref os x)).map .bl) os | _=>.stk)
 | .bitlen=>(match ds with | [.int i]=>.ok (.int (bitLen i)) os | _=>.stk)
 | .append=>(match ds with
  | [.cel n,y]=>(match getC os n with | some (.lst xs)=>.gd (xs.length<SZ) (.ok .non (os.set n (some (.lst (xs++[y]))))) | _=>.stk)
  | _=>.stk)
 | .extend=>(match ds with
  | [.cel n,y]=>(match getC os n,deref os y with | some (.lst xs),.lst ys=>.gd (xs.length+ys.length≤SZ) (.ok .non (os.set n (some (.lst (xs++ys))))) | _,_=>.stk)
  | _=>.stk)
 | .insert=>(match ds with
  | [.cel n,.int i,y]=>(match getC os n with | some (.lst xs)=>.gd (0≤i∧i≤xs.length∧xs.length<SZ) (.ok .non (os.set n (some (.lst (xs.take i.toNat++y::xs.drop i.toNat))))) | _=>.stk)
  | _=>.stk)
 | .pop=>(match ds with
  | [.cel n]=>(match getC os n with | some (.lst xs)=>(match xs.getLast? with | some y=>.ok y (os.set n (some (.lst xs.dropLast))) | none=>.stk) | _=>.stk)
  | _=>.stk)
 | .popL=>(match ds with
  | [.cel n,.int i]=>(match getC os n with | some (.lst xs)=>popLK n xs os (ixOf xs.length i) | _=>.stk)
  | _=>.stk)
 | .popAt=>(match ds with
  | [.cel n,k]=>(match getC os n with
   | some (.dct t kvs)=>.gd (keyOk false k=true∧t=false) (match dGet k kvs with | some v=>.ok v (os.set n (some (.dct t (dDel k kvs)))) | _=>.stk)
   | _=>.stk)
  | _=>.stk)
 | .clear=>(match ds with
  | [.cel n]=>(match getC os n with | some (.lst _)=>.ok .non (os.set n (some (.lst []))) | _=>.stk)
  | _=>.stk)
 | .reverse=>(match ds with
  | [.cel n]=>(match getC os n with | some (.lst xs)=>.ok .non (os.set n (some (.lst xs.reverse))) | _=>.stk)
  | _=>.stk)
 | .index=>(match ds with
  | [x,.int k]=>(match deref os x with | .lst xs=>.ofO ((asInts xs).bind fun ns=>(ns.findIdx? fun z=>decide (z=k)).map fun j=>.int (j:Nat)) os | _=>.stk)
  | _=>.stk)
 | .get1=>(match ds with
  | [.cel n,k]=>(match getC os n with | some (.dct t kvs)=>.gd (keyOk t k=true) (.ok ((dGet k kvs).getD .non) os) | _=>.stk)
  | _=>.stk)
 | .get2=>(match ds with
  | [.cel n,k,d]=>(match getC os n with | some (.dct t kvs)=>.gd (keyOk t k=true) (.ok ((dGet k kvs).getD d) os) | _=>.stk)
  | _=>.stk)
 | .setdef=>(match ds with
  | [.cel n,k,d]=>(match getC os n with
   | some (.dct t kvs)=>.gd (keyOk t k=true∧kvs.length<SZ) (match dGet k kvs with
    | some v=>.ok v os
    | none=>.ok d (os.set n (some (.dct t (dPut k d kvs)))))
   | _=>.stk)
  | _=>.stk)
 | .toS=>(match ds with | [.int i]=>.gd (0≤i∧i<10000000000) (.ok (.str (digs i.toNat)) os) | _=>.stk)
 | .toI=>(match ds with | [.str s]=>.gd ((!s.isEmpty&&s.all isFig)=true∧s.length≤600) (.ok (.int (dval s:Nat)) os) | _=>.stk)
 | .joinS=>(match ds with | [.str sep,x]=>joinK sep os ((itemsL os x).bind asStrs) | _=>.stk)
 | .splitS=>(match ds with | [.str s,.str [c]]=>.gd (s.length≤1000000) (.ok (.lst ((splitC c s).map .str)) os) | _=>.stk)
 | .startS=>(match ds with | [.str s,.str t]=>.ok (.bl (t.isPrefixOf s)) os | _=>.stk)
inductive Tg where | v (i:Nat) | tup (is:List Nat)
mutual
inductive E where
 | v (i:Nat) | c (d:D) | g (i:Nat)
 | pr (p:Pr) (es:Es) | bm (p:Pr) (o:E) (es:Es)
 | call (f:Nat) (es:Es) | callP (f:Nat) (es:Es)
 | meth (m:Nat) (o:E) (es:Es) | methP (m:Nat) (o:E) (es:Es) | mk (c:Nat) (es:Es) | fld (o:E) (f:Nat)
 | and (a b:E) | or (a b:E) | not (a:E) | ite (c:C) (a b:E)
 | chain (o1:Cop) (o2:Cop) (a b c:E) | chain3 (o1 o2 o3:Cop) (a b c d:E)
 | tup (es:Es) | lst (es:Es) | cell (e:E) | dict (t:Bool) | fz (e:E) | asI (e:E)
 | comp (nl:Nat) (fr:List Nat) (t:Tg) (it:It) (cd:C) (el:E)
 | compX (nl:Nat) (fr:List Nat) (t:Tg) (it:It) (cd:C) (el:E) | orS (a b:E)
 | sortK (e:E) (k:Kf)
inductive Es where | nil | cons (e:E) (es:Es)
inductive C where | tt | e (e:E) | and (a b:C) | or (a b:C) | not (a:C)
inductive It where | seq (e:E) | rng (es:Es) | enum (s:Int) (e:E) | zip (a b:E) | zrev (a b:E) | rev (e:E) | chars (e:E)
inductive Kf where | second | secondOf (i:Nat)
end
inductive HE where | inst (b:Bool) | v (j:Nat) (b:Bool) | k (b:Bool) | not (a:HE) | one (a:HE) | and (a b:HE) | or (a b:HE)
inductive HS where | set (j:Nat) (e:HE) | skip (t:HE) | ret (e:HE)
noncomputable def HE.val:HE→Bool
 | .inst b=>b
 | .v _ b=>b
 | .k b=>b
 | .not a => !a.val
 | .one a=>a.val
 | .and a b=>a.val&&b.val
 | .or a b=>a.val||b.val
noncomputable def runH:List HS→List (Nat × Bool) × Option Bool
 | []=>([],none)
 | .set j e::r=>((j,e.val)::(runH r).1,(runH r).2)
 | .skip _::r=>runH r
 | .ret e::_=>([],some e.val)
mutual
inductive S where
 | set (i:Nat) (e:E) | tset (is:List Nat) (e:E) | setix (o i e:E) | setfld (o:E) (f:Nat) (e:E)
 | aug (i:Nat) (p:Pr) (e:E) | augfld (o:E) (f:Nat) (p:Pr) (e:E) | augix (o i:E) (p:Pr) (e:E)
 | ex (e:E) | ret (e:E) | retN | ite (c:C) (a b:Ss) | wh (c:C) (b:Ss) | fr (t:Tg) (it:It) (b:Ss)
 | brk | cont | pass | stop | raise (c:Nat) (es:Es) | tryC (f:Nat) (es:Es) (i:Nat) (hs:List (Nat × List HS)) | tryM (c:Nat) (es:Es) (i:Nat) (hs:List (Nat × List HS)) | tryV (v:Nat) (es:Es) (i:Nat) (hs:List (Nat × List HS)) | tryA (j f:Nat) (es:Es) (i:Nat) (hs:List (Nat × List HS))
inductive Ss where | nil | cons (s:S) (r:Ss)
end
structure FD where
 n:Nat
 body:Ss
 tb:Option Nat:=none
structure Pg where
 fn:Nat→Option FD
 g:Nat→D
 meth:Nat→Nat→Option Nat
 ini:Nat→Option Nat
noncomputable def fGet (f:Nat):List (Nat × D)→Option D
 | []=>none
 | (g,d)::r=>if g=f then some d else fGet f r
noncomputable def fPut (f:Nat) (d:D):List (Nat × D)→List (Nat × D)
 | []=>[(f,d)]
 | (g,u)::r=>if g=f then (g,d)::r else (g,u)::fPut f d r
mutual
noncomputable def D.low (n:Nat):D→Bool
 | .lst xs=>D.lows n xs
 | .tup xs=>D.lows n xs
 | .scr xs=>D.lows n xs
 | .ktu xs=>D.lows n xs
 | .cel m=>decide (m<n)
 | _=>true
noncomputable def D.lows (n:Nat):List D→Bool
 | []=>true
 | x::r=>x.low n&&D.lows n r
end
open Classical in
noncomputable def pure1 (os:OS):R D→R D
 | .ok d os'=>if os'.take os.length=os∧d.low os.length=true then .ok d os else .stk
 | .exc c p os'=>if os'.take os.length=os then .exc c p os else .stk
 | .stk=>.stk
theorem pure1_ok {os ex:OS} {d:D} (h:d.low os.length=true):pure1 os (.ok d (os++ex))=.ok d os:=by
 unfold pure1
 simp [h]
theorem pure1_exc {os ex:OS} {c:Nat} {p:Option Int}:pure1 os (.exc c p (os++ex))=.exc c p os:=by
 unfold pure1
 simp
theorem pure1_ok' {os:OS} {d:D} (h:d.low os.length=true):pure1 os (.ok d os)=.ok d os:=by
 have:=pure1_ok (ex:=[]) h
 rwa [List.append_nil] at this
theorem pure1_exc' {os:OS} {c:Nat} {p:Option Int}:pure1 os (.exc c p os)=.exc c p os:=by
 have:=pure1_exc (os:=os) (ex:=[]) (c:=c) (p:=p)
 rwa [List.append_nil] at this
noncomputable def lk:Fr→Nat→Option D
 | [],_=>none
 | x::_,0=>x
 | _::r,i+1=>lk r i
noncomputable def st:Fr→Nat→D→Fr
 | [],_,_=>[]
 | _::r,0,d=>some d::r
 | x::r,i+1,d=>x::st r i d
noncomputable def stAll:Fr→List Nat→List D→Option Fr
 | ρ,[],[]=>some ρ
 | ρ,i::is,d::ds=>stAll (st ρ i d) is ds
 | _,_,_=>none
noncomputable def bindT:Tg→D→Fr→Option Fr
 | .v i,d,ρ=>some (st ρ i d)
 | .tup is,.tup ds,ρ=>stAll ρ is ds
 | .tup _,_,_=>none
noncomputable abbrev Orc:=Nat→List D→OS→R D
noncomputable def stay (os:OS):List D→OS→Prop
 | [],_=>True
 | .cel n::r,os'=>getC os' n=getC os n∧stay os r os'
 | _::r,os'=>stay os r os'
noncomputable instance (os:OS) (d:List D):DecidablePred (stay os d):=fun _=>Classical.propDecidable _
noncomputable def noExc {α:Type}:R α→R α
 | .exc _ _ _=>.stk
 | .ok a os=>.ok a os
 | .stk=>.stk
noncomputable def consO:Option D→List D→List D
 | some y,ys=>y::ys
 | none,ys=>ys
noncomputable def compL [f:Kt D (Option D)] (live:OS→Prop) [DecidablePred live]:List D→OS→R (List D)
 | [],os=>if live os then .ok [] os else .stk
 | x::r,os=>if live os then (f.go x os).bind (k:=⟨fun y os1=>(compL live r os1).bind (k:=⟨fun ys os2=>.ok (consO y ys) os2⟩)⟩) else .stk
noncomputable def andK [k:Ko D]:D→OS→R D
 | .bl true,os=>k.go os
 | .bl false,os=>.ok (.bl false) os
 | _,_=>.stk
noncomputable def orK [k:Ko D]:D→OS→R D
 | .bl true,os=>.ok (.bl true) os
 | .bl false,os=>k.go os
 | _,_=>.stk
noncomputable def orSK [k:Ko D]:D→OS→R D
 | .str s,os=>.gd (s.length≤1000000) (if s.isEmpty then k.go os else .ok (.str s) os)
 | _,_=>.stk
noncomputable def notK:D→OS→R D
 | .bl b,os=>.ok (.bl (!b)) os
 | _,_=>.stk
noncomputable def iteK {α:Type} [a:Ko α] [b:Ko α]:Bool→OS→R α
 | true,os=>a.go os
 | false,os=>b.go os
noncomputable def cellK:D→OS→R D
 | .lst xs,os=>.ok (.cel os.length) (os++[some (.lst xs)])
 | _,_=>.stk
noncomputable def asIK:D→OS→R D
 | .int i,os=>.ok (.int i) os
 | _,_=>.stk
noncomputable def fzC (n:Nat) (os:OS):Option Cell→R D
 | some (.lst xs)=>.ok (.lst xs) (os.set n none)
 | _=>.stk
noncomputable def fzK:D→OS→R D
 | .cel n,os=>fzC n os (getC os n)
 | _,_=>.stk
noncomputable def fldC (f:Nat) (os:OS):Option Cell→R D
 | some (.ins _ fs)=>.ofO (fGet f fs) os
 | _=>.stk
noncomputable def fldK (f:Nat):D→OS→R D
 | .cel n,os=>fldC f os (getC os n)
 | _,_=>.stk
noncomputable def methC (P:Pg) (m:Nat):Option Cell→Option Nat
 | some (.ins c _)=>P.meth c m
 | _=>none
noncomputable def methOf (P:Pg) (m:Nat) (os:OS):D→Option Nat
 | .cel n=>methC P m (getC os n)
 | _=>none
noncomputable def methO [k:Kt Nat D] (os:OS):Option Nat→R D
 | some f=>k.go f os
 | none=>.stk
noncomputable def madeK (n:Nat):D→OS→R D
 | .non,os=>.ok (.cel n) os
 | _,_=>.stk
noncomputable def mkK (K:Orc) (c:Nat) (ds:List D) (os:OS):Option Nat→R D
 | some f=>(K f (.cel os.length::ds) (os++[some (.ins c [])])).bind (k:=⟨fun d os2=>madeK os.length d os2⟩)
 | none=>.stk
noncomputable def rngK:List D→OS→R (List D × List D)
 | [.int j],os=>.gd (-(2 ^ 62)≤j∧j<2 ^ 62) (.ok ([],(List.range j.toNat).map fun k=>.int (k:Nat)) os)
 | [.int i,.int j],os=>.gd (-(2 ^ 62)≤i∧i<2 ^ 62∧-(2 ^ 62)≤j∧j<2 ^ 62) (.ok ([],(List.range (j - i).toNat).map fun k=>.int (i+(k:Nat))) os)
 | [.int i,.int j,.int c],os=>.gd (-(2 ^ 40)≤i∧i<2 ^ 40∧-(2 ^ 40)≤j∧j<2 ^ 40∧0<c∧c<2 ^ 29) (.ok ([],(List.range (if i<j then (j - i - 1) / c+1 else 0).toNat).map fun k=>.int (i+(k:Nat) * c)) os)
 | _,_=>.stk
noncomputable def zipK (a b:D) (os:OS):Option (List D)→Option (List D)→R (List D × List D)
 | some xs,some ys=>.ok ([a,b],(xs.zip ys).map fun p=>.tup [p.1,p.2]) os
 | _,_=>.stk
noncomputable def capt (ρ:Fr) (nl:Nat) (fr:List Nat):Fr:=List.replicate nl none++fr.map fun j=>lk ρ j
noncomputable def turnK [k:Kt Fr (Option D)] (os:OS):Option Fr→R (Option D)
 | some τ=>k.go τ os
 | none=>.stk
noncomputable def keyOf (ρ:Fr) (os:OS):Kf→D→Option Int
 | .second,.tup [_,.int k]=>some k
 | .secondOf i,.int j=>match (lk ρ i).bind (items os) with
  | some xs=>(match (ixOf xs.length j).bind fun n=>xs[n]? with | some (.tup [_,.int k])=>some k | _=>none)
  | none=>none
 | _,_=>none
noncomputable def keysOf (f:D→Option Int):List D→Option (List (Int × D))
 | []=>some []
 | x::r=>match f x,keysOf f r with | some k,some l=>some ((k,x)::l) | _,_=>none
noncomputable def sortKK (f:D→Option Int) (os:OS):Option (List D)→R D
 | some xs=>.ofO ((keysOf f xs).map fun l=>.lst ((sortBy (fun a b=>decide (a.1≤b.1)) l).map (·.2))) os
 | none=>.stk
inductive Rk where | list | dict | int | str
noncomputable def rkOf:Pr→Rk
 | .get1=>.dict | .get2=>.dict | .setdef=>.dict | .popAt=>.dict
 | .bitlen=>.int
 | .joinS=>.str | .splitS=>.str | .startS=>.str
 | _=>.list
noncomputable def cellIs:Rk→Option Cell→Bool
 | .list,some (.lst _)=>true
 | .dict,some (.dct _ _)=>true
 | _,_=>false
noncomputable def recv (os:OS):Rk→D→Bool
 | .int,.int _=>true
 | .str,.str _=>true
 | .list,.lst _=>true
 | .list,.scr _=>true
 | k,.cel n=>cellIs k (getC os n)
 | _,_=>false
noncomputable def charsK:D→OS→R (List D × List D)
 | .str s,os=>.gd ((s.all fun c=>decide (c<128))=true∧s.length≤SZ) (.ok ([],s.map fun c=>.str [c]) os)
 | _,_=>.stk
section
variable (P:Pg) (K:Orc)
mutual
noncomputable def ev:E→Fr→OS→R D
 | .v i,ρ,os=>.ofO (lk ρ i) os
 | .c d,_,os=>.ok d os
 | .g i,_,os=>.ok (P.g i) os
 | .pr p es,ρ,os=>(evs es ρ os).bind (k:=⟨fun ds os1=>pr p ds os1⟩)
 | .bm p o es,ρ,os=>(ev o ρ os).bind (k:=⟨fun d os1=>.gd (recv os1 (rkOf p) d=true) ((evs es ρ os1).bind (k:=⟨fun ds os2=>pr p (d::ds) os2⟩))⟩)
 | .call f es,ρ,os=>(evs es ρ os).bind (k:=⟨fun ds os1=>K f ds os1⟩)
 | .callP f es,ρ,os=>(evs es ρ os).bind (k:=⟨fun ds os1=>pure1 os1 (K f ds os1)⟩)
 | .meth m o es,ρ,os=>(ev o ρ os).bind (k:=⟨fun d os1=>methO (k:=⟨fun f os2=>(evs es ρ os2).bind (k:=⟨fun ds os3=>K f (d::ds) os3⟩)⟩) os1 (methOf P m os1 d)⟩)
 | .methP m o es,ρ,os=>(ev o ρ os).bind (k:=⟨fun d os1=>methO (k:=⟨fun f os2=>(evs es ρ os2).bind (k:=⟨fun ds os3=>pure1 os3 (K f (d::ds) os3)⟩)⟩) os1 (methOf P m os1 d)⟩)
 | .mk c es,ρ,os=>(evs es ρ os).bind (k:=⟨fun ds os1=>mkK K c ds os1 (P.ini c)⟩)
 | .fld o f,ρ,os=>(ev o ρ os).bind (k:=⟨fun d os1=>fldK f d os1⟩)
 | .and a b,ρ,os=>(ev a ρ os).bind (k:=⟨fun d os1=>andK (k:=⟨fun os2=>ev b ρ os2⟩) d os1⟩)
 | .or a b,ρ,os=>(ev a ρ os).bind (k:=⟨fun d os1=>orK (k:=⟨fun os2=>ev b ρ os2⟩) d os1⟩)
 | .not a,ρ,os=>(ev a ρ os).bind (k:=⟨fun d os1=>notK d os1⟩)
 | .ite c a b,ρ,os=>(evC c ρ os).bind (k:=⟨fun t os1=>iteK (a:=⟨fun os2=>ev a ρ os2⟩) (b:=⟨fun os2=>ev b ρ os2⟩) t os1⟩)
 | .chain o1 o2 a b c,ρ,os=>(ev a ρ os).bind (k:=⟨fun x os1=>(ev b ρ os1).bind (k:=⟨fun y os2=>(cmp o1 x y os2).bind (k:=⟨fun z os3 =>
   andK (k:=⟨fun os4=>(ev c ρ os4).bind (k:=⟨fun w os5=>cmp o2 y w os5⟩)⟩) z os3⟩)⟩)⟩)
 | .chain3 o1 o2 o3 a b c d,ρ,os=>(ev a ρ os).bind (k:=⟨fun x os1=>(ev b ρ os1).bind (k:=⟨fun y os2=>(cmp o1 x y os2).bind (k:=⟨fun z os3 =>
   andK (k:=⟨fun os4=>(ev c ρ os4).bind (k:=⟨fun w os5=>(cmp o2 y w os5).bind (k:=⟨fun z2 os6=>andK (k:=⟨fun os7=>(ev d ρ os7).bind (k:=⟨fun u os8=>cmp o3 w u os8⟩)⟩) z2 os6⟩)⟩)⟩) z os3⟩)⟩)⟩)
 | .tup es,ρ,os=>(evs es ρ os).bind (k:=⟨fun ds os1=>.ok (.tup ds) os1⟩)
 | .lst es,ρ,os=>(evs es ρ os).bind (k:=⟨fun ds os1=>.ok (.lst ds) os1⟩)
 | .cell e,ρ,os=>(ev e ρ os).bind (k:=⟨fun d os1=>cellK d os1⟩)
 | .dict t,_,os=>.ok (.cel os.length) (os++[some (.dct t [])])
 | .fz e,ρ,os=>(ev e ρ os).bind (k:=⟨fun d os1=>fzK d os1⟩)
 | .asI e,ρ,os=>(ev e ρ os).bind (k:=⟨fun d os1=>asIK d os1⟩)
 | .comp nl fr t it cd el,ρ,os=>(evI it ρ os).bind (k:=⟨fun xs os1=>.gd (xs.2.length≤SZ)
   ((compL (f:=⟨fun x os2=>noExc (turnK (k:=⟨fun τ os3=>(evC cd τ os3).bind (k:=⟨fun b os4=>iteK (a:=⟨fun os5=>(ev el τ os5).bind (k:=⟨fun y os6=>.ok (some y) os6⟩)⟩) (b:=⟨fun os5=>.ok none os5⟩) b os4⟩)⟩) os2
    (bindT t x (capt ρ nl fr)))⟩) (stay os1 xs.1) xs.2 os1).bind (k:=⟨fun ys os3=>.ok (.lst ys) os3⟩))⟩)
 | .compX nl fr t it cd el,ρ,os=>(evI it ρ os).bind (k:=⟨fun xs os1=>.gd (xs.2.length≤SZ)
   ((compL (f:=⟨fun x os2=>turnK (k:=⟨fun τ os3=>(evC cd τ os3).bind (k:=⟨fun b os4=>iteK (a:=⟨fun os5=>(ev el τ os5).bind (k:=⟨fun y os6=>.ok (some y) os6⟩)⟩) (b:=⟨fun os5=>.ok none os5⟩) b os4⟩)⟩) os2
    (bindT t x (capt ρ nl fr))⟩) (stay os1 xs.1) xs.2 os1).bind (k:=⟨fun ys os3=>.ok (.lst ys) os3⟩))⟩)
 | .orS a b,ρ,os=>(ev a ρ os).bind (k:=⟨fun d os1=>orSK (k:=⟨fun os2=>ev b ρ os2⟩) d os1⟩)
 | .sortK e k,ρ,os=>(ev e ρ os).bind (k:=⟨fun d os1=>sortKK (keyOf ρ os1 k) os1 (items os1 d)⟩)
noncomputable def evs:Es→Fr→OS→R (List D)
 | .nil,_,os=>.ok [] os
 | .cons e es,ρ,os=>(ev e ρ os).bind (k:=⟨fun d os1=>(evs es ρ os1).bind (k:=⟨fun ds os2=>.ok (d::ds) os2⟩)⟩)
noncomputable def evC:C→Fr→OS→R Bool
 | .tt,_,os=>.ok true os
 | .e e,ρ,os=>(ev e ρ os).bind (k:=⟨fun d os1=>.ofO (truth os1 d) os1⟩)
 | .and a b,ρ,os=>(evC a ρ os).bind (k:=⟨fun x os1=>iteK (a:=⟨fun os2=>evC b ρ os2⟩) (b:=⟨fun os2=>.ok false os2⟩) x os1⟩)
 | .or a b,ρ,os=>(evC a ρ os).bind (k:=⟨fun x os1=>iteK (a:=⟨fun os2=>.ok true os2⟩) (b:=⟨fun os2=>evC b ρ os2⟩) x os1⟩)
 | .not a,ρ,os=>(evC a ρ os).bind (k:=⟨fun x os1=>.ok (!x) os1⟩)
noncomputable def evI:It→Fr→OS→R (List D × List D)
 | .seq e,ρ,os=>(ev e ρ os).bind (k:=⟨fun d os1=>.ofO ((items os1 d).map fun xs=>([d],xs)) os1⟩)
 | .rng es,ρ,os=>(evs es ρ os).bind (k:=⟨fun ds os1=>rngK ds os1⟩)
 | .enum s e,ρ,os=>(ev e ρ os).bind (k:=⟨fun d os1=>.ofO ((itemsL os1 d).map fun xs=>([d],(xs.zipIdx).map fun p=>.tup [.int (s+(p.2:Nat)),p.1])) os1⟩)
 | .zip a b,ρ,os=>(ev a ρ os).bind (k:=⟨fun x os1=>(ev b ρ os1).bind (k:=⟨fun y os2=>zipK x y os2 (itemsL os2 x) (itemsL os2 y)⟩)⟩)
 | .zrev a b,ρ,os=>(ev a ρ os).bind (k:=⟨fun x os1=>(ev b ρ os1).bind (k:=⟨fun y os2=>zipK x y os2 (((itemsL os2 x).bind asInts).map fun ns=>(ns.map D.int).reverse) (itemsT y)⟩)⟩)
 | .rev e,ρ,os=>(ev e ρ os).bind (k:=⟨fun d os1=>.ofO ((itemsL os1 d).map fun xs=>([d],xs.reverse)) os1⟩)
 | .chars e,ρ,os=>(ev e ρ os).bind (k:=⟨fun d os1=>charsK d os1⟩)
end
end
inductive Flow where | nx | rt (d:D) | bk | ct
noncomputable abbrev Rs:=R (Flow × Fr)
noncomputable def seqK [k:Kt Fr (Flow × Fr)]:Flow × Fr→OS→Rs
 | (.nx,ρ),os=>k.go ρ os
 | (.rt d,ρ),os=>.ok (.rt d,ρ) os
 | (.bk,ρ),os=>.ok (.bk,ρ) os
 | (.ct,ρ),os=>.ok (.ct,ρ) os
noncomputable def loopK [k:Kt Fr (Flow × Fr)]:Flow × Fr→OS→Rs
 | (.nx,ρ),os=>k.go ρ os
 | (.ct,ρ),os=>k.go ρ os
 | (.bk,ρ),os=>.ok (.nx,ρ) os
 | (.rt d,ρ),os=>.ok (.rt d,ρ) os
class Kb where
 go:D→Fr→OS→Rs
noncomputable def forL [body:Kb] (live:OS→Prop) [DecidablePred live]:List D→Fr→OS→Rs
 | [],ρ,os=>if live os then .ok (.nx,ρ) os else .stk
 | x::r,ρ,os=>if live os then (body.go x ρ os).bind (k:=⟨loopK (k:=⟨fun ρ1 os1=>forL live r ρ1 os1⟩)⟩) else .stk
noncomputable def whL [c:Kt Fr Bool] [body:Kt Fr (Flow × Fr)]:Nat→Fr→OS→Rs
 | 0,_,_=>.stk
 | n+1,ρ,os=>(c.go ρ os).bind (k:=⟨iteK (a:=⟨fun os1=>(body.go ρ os1).bind (k:=⟨loopK (k:=⟨fun ρ1 os2=>whL n ρ1 os2⟩)⟩)⟩) (b:=⟨fun os1=>.ok (.nx,ρ) os1⟩)⟩)
noncomputable def setL (n:Nat) (xs:List D) (x:D) (os:OS):Option Nat→R Unit
 | some j=>.ok () (os.set n (some (.lst (xs.set j x))))
 | none=>.stk
noncomputable def setC (n:Nat) (x:D) (os:OS):Option Cell→D→R Unit
 | some (.lst xs),.int i=>setL n xs x os (ixOf xs.length i)
 | some (.dct t kvs),k=>.gd (keyOk t k=true∧kvs.length<SZ) (.ok () (os.set n (some (.dct t (dPut k x kvs)))))
 | _,_=>.stk
noncomputable def setIx:D→D→D→OS→R Unit
 | .cel n,k,x,os=>setC n x os (getC os n) k
 | _,_,_,_=>.stk
noncomputable def putC (n f:Nat) (x:D) (ρ:Fr) (os:OS):Option Cell→Rs
 | some (.ins c fs)=>.gd (fs.length<900) (.ok (.nx,ρ) (os.set n (some (.ins c (fPut f x fs)))))
 | _=>.stk
noncomputable def putK (f:Nat) (x:D) (ρ:Fr):D→OS→Rs
 | .cel n,os=>putC n f x ρ os (getC os n)
 | _,_=>.stk
noncomputable def nxO (os:OS):Option Fr→Rs
 | some ρ=>.ok (.nx,ρ) os
 | none=>.stk
noncomputable def augK (p:Pr) [k:Kt D (Flow × Fr)]:D→D→OS→Rs
 | .int x,.int z,os=>(pr p [.int x,.int z] os).bind
 | _,_,_=>.stk
noncomputable def clsN:Option Cell→Nat
 | some (.ins c _)=>c
 | _=>0
noncomputable def augF (n c0 f:Nat) (p:Pr) (ρ:Fr) (x y:D) (os:OS):Option Cell→Rs
 | some (.ins c fs)=>.gd (c=c0∧fs.length<900) (augK p (k:=⟨fun w os3=>.ok (.nx,ρ) (os3.set n (some (.ins c (fPut f w fs))))⟩) x y os)
 | _=>.stk
noncomputable def turnS [k:Kt Fr (Flow × Fr)] (os:OS):Option Fr→Rs
 | some ρ=>k.go ρ os
 | none=>.stk
noncomputable def setsR (ws:List (Nat × Bool)) (ρ:Fr):Fr:=ws.foldl (fun ρ w=>st ρ w.1 (.bl w.2)) ρ
noncomputable def hdl (i:Nat) (ρ:Fr) (os:OS):Option (List HS)→Rs
 | some h=>(match runH h with | (ws,none)=>.ok (.nx,(setsR ws ρ).set i none) os | (_,some b)=>.ok (.rt (.bl b),ρ) os)
 | none=>.stk
noncomputable def tryK (i:Nat) (hs:List (Nat × List HS)) (ρ:Fr):R D→Rs
 | .ok _ os=>.ok (.nx,ρ) os
 | .exc c _ os=>hdl i ρ os (hs.lookup c)
 | .stk=>.stk
noncomputable def tryKA (j i:Nat) (hs:List (Nat × List HS)) (ρ:Fr):R D→Rs
 | .ok d os=>.ok (.nx,st ρ j d) os
 | .exc c _ os=>hdl i ρ os (hs.lookup c)
 | .stk=>.stk
noncomputable def onlyOk {α β:Type} [k:Kt α β]:R α→R β
 | .ok a os=>k.go a os
 | _=>.stk
noncomputable def fnK (K:Orc) (ds:List D) (os:OS):Option D→R D
 | some (.exn f none)=>K f ds os
 | _=>.stk
noncomputable def excP:List D→Option Int
 | [.int p]=>some p
 | _=>none
noncomputable def celN:D→Nat
 | .cel n=>n
 | _=>0
section
variable (P:Pg) (K:Orc) (W:Nat)
mutual
noncomputable def exec:S→Fr→OS→Rs
 | .set i e,ρ,os=>(ev P K e ρ os).bind (k:=⟨fun d os1=>.ok (.nx,st ρ i d) os1⟩)
 | .tset is e,ρ,os=>(ev P K e ρ os).bind (k:=⟨fun d os1=>nxO os1 (bindT (.tup is) d ρ)⟩)
 | .setix o i e,ρ,os=>(ev P K e ρ os).bind (k:=⟨fun x os1=>(ev P K o ρ os1).bind (k:=⟨fun d os2=>(ev P K i ρ os2).bind (k:=⟨fun k os3=>(setIx d k x os3).bind (k:=⟨fun _ os4=>.ok (.nx,ρ) os4⟩)⟩)⟩)⟩)
 | .setfld o f e,ρ,os=>(ev P K e ρ os).bind (k:=⟨fun x os1=>(ev P K o ρ os1).bind (k:=⟨fun d os2=>putK f x ρ d os2⟩)⟩)
 | .aug i p e,ρ,os=>(R.ofO (lk ρ i) os).bind (k:=⟨fun x os0=>(ev P K e ρ os0).bind (k:=⟨fun y os1=>augK p (k:=⟨fun w os2=>.ok (.nx,st ρ i w) os2⟩) x y os1⟩)⟩)
 | .augfld o f p e,ρ,os=>(ev P K o ρ os).bind (k:=⟨fun d os1=>(fldK f d os1).bind (k:=⟨fun x os2=>(ev P K e ρ os2).bind (k:=⟨fun y os3=>augF (celN d) (clsN (getC os1 (celN d))) f p ρ x y os3 (getC os3 (celN d))⟩)⟩)⟩)
 | .augix o i p e,ρ,os=>(ev P K o ρ os).bind (k:=⟨fun d os1=>(ev P K i ρ os1).bind (k:=⟨fun k os2=>(I.pr .ix [d,k] os2).bind (k:=⟨fun x os3=>(ev P K e ρ os3).bind (k:=⟨fun y os4 =>
   augK p (k:=⟨fun w os5=>(setIx d k w os5).bind (k:=⟨fun _ os6=>.ok (.nx,ρ) os6⟩)⟩) x y os4⟩)⟩)⟩)⟩)
 | .ex e,ρ,os=>(ev P K e ρ os).bind (k:=⟨fun _ os1=>.ok (.nx,ρ) os1⟩)
 | .ret e,ρ,os=>(ev P K e ρ os).bind (k:=⟨fun d os1=>.ok (.rt d,ρ) os1⟩)
 | .retN,ρ,os=>.ok (.rt .non,ρ) os
 | .ite c a b,ρ,os=>(evC P K c ρ os).bind (k:=⟨iteK (a:=⟨fun os1=>execs a ρ os1⟩) (b:=⟨fun os1=>execs b ρ os1⟩)⟩)
 | .wh c b,ρ,os=>whL (c:=⟨fun ρ os=>evC P K c ρ os⟩) (body:=⟨fun ρ os=>execs b ρ os⟩) W ρ os
 | .fr t it b,ρ,os=>(evI P K it ρ os).bind (k:=⟨fun xs os1=>forL (body:=⟨fun x ρ os=>turnS (k:=⟨fun ρ1 os2=>execs b ρ1 os2⟩) os (bindT t x ρ)⟩) (stay os1 xs.1) xs.2 ρ os1⟩)
 | .brk,ρ,os=>.ok (.bk,ρ) os
 | .cont,ρ,os=>.ok (.ct,ρ) os
 | .pass,ρ,os=>.ok (.nx,ρ) os
 | .stop,_,_=>.stk
 | .tryM c es i hs,ρ,os=>onlyOk (k:=⟨fun ds os1=>tryK i hs ρ (mkK K c ds os1 (P.ini c))⟩) (evs P K es ρ os)
 | .tryC f es i hs,ρ,os=>onlyOk (k:=⟨fun ds os1=>tryK i hs ρ (K f ds os1)⟩) (evs P K es ρ os)
 | .tryA j f es i hs,ρ,os=>onlyOk (k:=⟨fun ds os1=>tryKA j i hs ρ (K f ds os1)⟩) (evs P K es ρ os)
 | .tryV v es i hs,ρ,os=>onlyOk (k:=⟨fun ds os1=>tryK i hs ρ (fnK K ds os1 (lk ρ v))⟩) (evs P K es ρ os)
 | .raise c es,ρ,os=>(evs P K es ρ os).bind (k:=⟨fun ds os1=>.exc c (excP ds) os1⟩)
noncomputable def execs:Ss→Fr→OS→Rs
 | .nil,ρ,os=>.ok (.nx,ρ) os
 | .cons s r,ρ,os=>(exec s ρ os).bind (k:=⟨seqK (k:=⟨fun ρ1 os1=>execs r ρ1 os1⟩)⟩)
end
noncomputable def ended:Rs→R D
 | .ok (.rt d,_) os=>.ok d os
 | .ok (.nx,_) os=>.ok .non os
 | .ok _ _=>.stk
 | .exc c p os=>.exc c p os
 | .stk=>.stk
noncomputable def runF (K:Orc) (ds:List D) (os:OS):Option FD→R D
 | some d=>ended (execs P K W d.body (ds.map some++List.replicate (d.n - ds.length) none) os)
 | none=>.stk
noncomputable def call:Nat→Orc
 | 0=>fun _ _ _=>.stk
 | k+1=>fun f ds os=>runF P W (call k) ds os (P.fn f)
end
theorem call_succ (P:Pg) (W k f:Nat) (ds:List D) (os:OS):call P W (k+1) f ds os=runF P W (call P W k) ds os (P.fn f):=rfl
theorem splitC_free {c:Nat}:∀ {a:List Nat},c ∉ a→splitC c a=[a]
 | [],_=>rfl
 | x::r,h=>by
  have hx:x≠c:=fun e=>h (e ▸ .head _)
  have:=splitC_free (c:=c) (a:=r) fun z=>h (.tail _ z)
  show (if x=c then []::splitC c r else match splitC c r with | []=>[[x]] | w::ws=>(x::w)::ws)=_
  rw [if_neg hx,this]
theorem splitC_app {c:Nat} {y:List Nat}:∀ {a:List Nat},c ∉ a→splitC c (a++c::y)=a::splitC c y
 | [],_=>by
  show (if c=c then []::splitC c y else _)=_
  rw [if_pos rfl]
 | x::r,h=>by
  have hx:x≠c:=fun e=>h (e ▸ .head _)
  have:=splitC_app (c:=c) (y:=y) (a:=r) fun z=>h (.tail _ z)
  show (if x=c then []::splitC c (r++c::y) else match splitC c (r++c::y) with | []=>[[x]] | w::ws=>(x::w)::ws)=_
  rw [if_neg hx,this]
theorem splitC_join {c:Nat}:∀ {ws:List (List Nat)},ws≠[]→(∀ w∈ws,c ∉ w)→splitC c (joinL [c] ws)=ws
 | [],h,_=>absurd rfl h
 | [a],_,h=>splitC_free (h a (.head _))
 | a::b::r,_,h=>by
  show splitC c (a++[c]++joinL [c] (b::r))=_
  rw [List.append_assoc]
  show splitC c (a++c::joinL [c] (b::r))=_
  rw [splitC_app (h a (.head _)),splitC_join (by intro z; cases z) fun w hw=>h w (.tail _ hw)]
end I
namespace I
section
variable {P:Pg} {K:Orc} {W:Nat} {ρ:Fr} {os:OS} {α β:Type}
theorem x_seqN {k:Kt Fr (Flow × Fr)}:seqK (k:=k) (.nx,ρ) os=k.go ρ os:=rfl
theorem x_seqR {k:Kt Fr (Flow × Fr)} {d:D}:seqK (k:=k) (.rt d,ρ) os=.ok (.rt d,ρ) os:=rfl
theorem x_seqB {k:Kt Fr (Flow × Fr)}:seqK (k:=k) (.bk,ρ) os=.ok (.bk,ρ) os:=rfl
theorem x_seqC {k:Kt Fr (Flow × Fr)}:seqK (k:=k) (.ct,ρ) os=.ok (.ct,ρ) os:=rfl
theorem x_loopN {k:Kt Fr (Flow × Fr)}:loopK (k:=k) (.nx,ρ) os=k.go ρ os:=rfl
theorem x_loopC {k:Kt Fr (Flow × Fr)}:loopK (k:=k) (.ct,ρ) os=k.go ρ os:=rfl
theorem x_loopB {k:Kt Fr (Flow × Fr)}:loopK (k:=k) (.bk,ρ) os=.ok (.nx,ρ) os:=rfl
theorem x_loopR {k:Kt Fr (Flow × Fr)} {d:D}:loopK (k:=k) (.rt d,ρ) os=.ok (.rt d,ρ) os:=rfl
theorem x_iteT {a b:Ko α}:iteK (a:=a) (b:=b) true os=a.go os:=rfl
theorem x_iteF {a b:Ko α}:iteK (a:=a) (b:=b) false os=b.go os:=rfl
theorem x_andT {k:Ko D}:andK (k:=k) (.bl true) os=k.go os:=rfl
theorem x_andF {k:Ko D}:andK (k:=k) (.bl false) os=.ok (.bl false) os:=rfl
theorem x_orT {k:Ko D}:orK (k:=k) (.bl true) os=.ok (.bl true) os:=rfl
theorem x_orF {k:Ko D}:orK (k:=k) (.bl false) os=k.go os:=rfl
theorem x_not {b:Bool}:notK (.bl b) os=.ok (.bl (!b)) os:=rfl
theorem x_ofO {a:α}:R.ofO (some a) os=.ok a os:=rfl
theorem x_turnK {k:Kt Fr (Option D)}:turnK (k:=k) os (some ρ)=k.go ρ os:=rfl
theorem x_turnS {k:Kt Fr (Flow × Fr)}:turnS (k:=k) os (some ρ)=k.go ρ os:=rfl
theorem x_nxO:nxO os (some ρ)=.ok (.nx,ρ) os:=rfl
theorem x_endR {d:D}:ended (.ok (.rt d,ρ) os)=.ok d os:=rfl
theorem x_endN:ended (.ok (.nx,ρ) os)=.ok .non os:=rfl
theorem x_endE {c:Nat} {p:Option Int}:ended (.exc c p os)=.exc c p os:=rfl
theorem x_lk0 {x:Option D}:lk (x::ρ) 0=x:=rfl
theorem x_lkS {x:Option D} {i:Nat}:lk (x::ρ) (i+1)=lk ρ i:=rfl
theorem x_st0 {x:Option D} {d:D}:st (x::ρ) 0 d=some d::ρ:=rfl
theorem x_stS {x:Option D} {d:D} {i:Nat}:st (x::ρ) (i+1) d=x::st ρ i d:=rfl
theorem x_bindV {i:Nat} {d:D}:bindT (.v i) d ρ=some (st ρ i d):=rfl
theorem x_bindT {is:List Nat} {ds:List D}:bindT (.tup is) (.tup ds) ρ=stAll ρ is ds:=rfl
theorem x_stAll0:stAll ρ [] []=some ρ:=rfl
theorem x_stAllS {i:Nat} {is:List Nat} {d:D} {ds:List D}:stAll ρ (i::is) (d::ds)=stAll (st ρ i d) is ds:=rfl
theorem x_add {i j:Int}:pr .add [.int i,.int j] os=.ok (.int (i+j)) os:=rfl
theorem x_addL {xs ys:List D}:pr .add [.lst xs,.lst ys] os=.gd (xs.length+ys.length≤SZ) (.ok (.lst (xs++ys)) os):=rfl
theorem x_addT {xs ys:List D}:pr .add [.tup xs,.tup ys] os=.gd (xs≠[]∧xs.length+ys.length≤SZ) (.ok (.tup (xs++ys)) os):=rfl
theorem x_sub {i j:Int}:pr .sub [.int i,.int j] os=.ok (.int (i - j)) os:=rfl
theorem x_mul {i j:Int}:pr .mul [.int i,.int j] os=.gd (mulOk i j) (.ok (.int (i * j)) os):=rfl
theorem x_mulL {xs:List D} {k:Int}:pr .mul [.lst xs,.int k] os=.gd (-(2 ^ 63)≤k∧k<2 ^ 63∧xs.length * k.toNat≤SZ) (.ok (.lst (List.replicate k.toNat xs).flatten) os):=rfl
theorem x_fdiv {i j:Int}:pr .fdiv [.int i,.int j] os=.gd (0<j∧j<2 ^ 200) (.ok (.int (i / j)) os):=rfl
theorem x_mod {i j:Int}:pr .mod [.int i,.int j] os=.gd (0<j) (.ok (.int (i % j)) os):=rfl
theorem x_pow {i j:Int}:pr .pow [.int i,.int j] os=.gd (0≤j∧j≤1000000∧i.natAbs<2 ^ 64) (.ok (.int (i ^ j.toNat)) os):=rfl
theorem x_shl {i j:Int}:pr .shl [.int i,.int j] os=.gd (0≤j∧j≤1000000∧i.natAbs<2 ^ 200) (.ok (.int (i * 2 ^ j.toNat)) os):=rfl
theorem x_shr {i j:Int}:pr .shr [.int i,.int j] os=.gd (0≤j) (.ok (.int (i / 2 ^ j.toNat)) os):=rfl
theorem x_band {i j:Int}:pr .band [.int i,.int j] os=.gd (0≤i∧0≤j) (.ok (.int (bandI i j)) os):=rfl
theorem x_bor {i j:Int}:pr .bor [.int i,.int j] os=.gd (0≤i∧0≤j) (.ok (.int (borI i j)) os):=rfl
theorem x_bxor {i j:Int}:pr .bxor [.int i,.int j] os=.gd (0≤i∧0≤j) (.ok (.int (bxorI i j)) os):=rfl
theorem x_neg {i:Int}:pr .neg [.int i] os=.ok (.int (-i)) os:=rfl
theorem x_cmp {o:Cop} {a b:D}:pr (.cmp o) [a,b] os=cmp o a b os:=rfl
theorem x_eqI {i j:Int}:cmp .eq (.int i) (.int j) os=.ok (.bl (decide (i=j))) os:=rfl
theorem x_neI {i j:Int}:cmp .ne (.int i) (.int j) os=.ok (.bl (!decide (i=j))) os:=rfl
theorem x_ltI {i j:Int}:cmp .lt (.int i) (.int j) os=.ok (.bl (decide (i<j))) os:=rfl
theorem x_leI {i j:Int}:cmp .le (.int i) (.int j) os=.ok (.bl (decide (i≤j))) os:=rfl
theorem x_gtI {i j:Int}:cmp .gt (.int i) (.int j) os=.ok (.bl (decide (j<i))) os:=rfl
theorem x_geI {i j:Int}:cmp .ge (.int i) (.int j) os=.ok (.bl (decide (j≤i))) os:=rfl
theorem x_eqL {xs ys:List D}:cmp .eq (.lst xs) (.lst ys) os=.ofO ((D.eq (.lst xs) (.lst ys)).map .bl) os:=rfl
theorem x_neL {xs ys:List D}:cmp .ne (.lst xs) (.lst ys) os=.ofO ((D.eq (.lst xs) (.lst ys)).map fun x=>.bl (!x)) os:=rfl
theorem x_eqT {xs ys:List D}:cmp .eq (.tup xs) (.tup ys) os=.ofO ((D.eq (.tup xs) (.tup ys)).map .bl) os:=rfl
theorem x_neT {xs ys:List D}:cmp .ne (.tup xs) (.tup ys) os=.ofO ((D.eq (.tup xs) (.tup ys)).map fun x=>.bl (!x)) os:=rfl
theorem x_lenL {xs:List D}:pr .len [.lst xs] os=.ok (.int xs.length) os:=rfl
theorem x_lenT {xs:List D}:pr .len [.tup xs] os=.ok (.int xs.length) os:=rfl
theorem x_ixL {xs:List D} {i:Int}:pr .ix [.lst xs,.int i] os=.ofO ((ixOf xs.length i).bind fun j=>xs[j]?) os:=rfl
theorem x_ixT {xs:List D} {i:Int}:pr .ix [.tup xs,.int i] os=.ofO ((ixOf xs.length i).bind fun j=>xs[j]?) os:=rfl
theorem x_sl {xs:List D} {a b:Int}:pr (.sl true true) [.lst xs,.int a,.int b] os=.ok (.lst (cut xs (some a) (some b))) os:=rfl
theorem x_sl1 {xs:List D} {a:Int}:pr (.sl true false) [.lst xs,.int a] os=.ok (.lst (cut xs (some a) none)) os:=rfl
theorem x_sl2 {xs:List D} {b:Int}:pr (.sl false true) [.lst xs,.int b] os=.ok (.lst (cut xs none (some b))) os:=rfl
theorem x_lenS {xs:List D}:pr .len [.scr xs] os=.ok (.int xs.length) os:=rfl
theorem x_ixS {xs:List D} {i:Int}:pr .ix [.scr xs,.int i] os=.ofO ((ixOf xs.length i).bind fun j=>xs[j]?) os:=rfl
theorem x_itemsS {xs:List D}:items os (.scr xs)=some xs:=rfl
theorem x_list {xs:List D}:pr .list [.lst xs] os=.ok (.lst xs) os:=rfl
theorem x_listT {xs:List D}:pr .list [.tup xs] os=.ok (.lst xs) os:=rfl
theorem x_tuple {xs:List D}:pr .tuple [.lst xs] os=.ok (.tup xs) os:=rfl
theorem x_min {i j:Int}:pr .min2 [.int i,.int j] os=.ok (.int (if j<i then j else i)) os:=rfl
theorem x_max {i j:Int}:pr .max2 [.int i,.int j] os=.ok (.int (if i<j then j else i)) os:=rfl
theorem x_bitlen {i:Int}:pr .bitlen [.int i] os=.ok (.int (bitLen i)) os:=rfl
theorem x_inst {t:Ty} {x:D}:pr (.isInst t) [x] os=.ofO ((isTy t (deref os x)).map .bl) os:=rfl
theorem x_itemsL {xs:List D}:itemsL os (.lst xs)=some xs:=rfl
theorem x_items {xs:List D}:items os (.lst xs)=some xs:=rfl
theorem x_itemsT {xs:List D}:items os (.tup xs)=some xs:=rfl
theorem x_trB {b:Bool}:truth os (.bl b)=some b:=rfl
theorem x_trL {xs:List D}:truth os (.lst xs)=some (!xs.isEmpty):=rfl
theorem x_trI {i:Int}:truth os (.int i)=some (decide (i≠0)):=rfl
theorem x_map {f:α→β} {a:α}:Option.map f (some a)=some (f a):=rfl
theorem x_obind {f:α→Option β} {a:α}:Option.bind (some a) f=f a:=rfl
theorem x_rng1 {j:Int}:rngK [.int j] os=.gd (-(2 ^ 62)≤j∧j<2 ^ 62) (.ok ([],(List.range j.toNat).map fun k=>.int (k:Nat)) os):=rfl
theorem x_rng2 {i j:Int}:rngK [.int i,.int j] os=.gd (-(2 ^ 62)≤i∧i<2 ^ 62∧-(2 ^ 62)≤j∧j<2 ^ 62) (.ok ([],(List.range (j - i).toNat).map fun k=>.int (i+(k:Nat))) os):=rfl
theorem x_zip {a b:D} {xs ys:List D}:zipK a b os (some xs) (some ys)=.ok ([a,b],(xs.zip ys).map fun p=>.tup [p.1,p.2]) os:=rfl
theorem x_cell {xs:List D}:cellK (.lst xs) os=.ok (.cel os.length) (os++[some (.lst xs)]):=rfl
theorem x_fz {n:Nat}:fzK (.cel n) os=fzC n os (getC os n):=rfl
theorem x_fzC {n:Nat} {xs:List D}:fzC n os (some (.lst xs))=.ok (.lst xs) (os.set n none):=rfl
theorem x_fld {n f:Nat}:fldK f (.cel n) os=fldC f os (getC os n):=rfl
theorem x_fldC {f c:Nat} {fs:List (Nat × D)}:fldC f os (some (.ins c fs))=.ofO (fGet f fs) os:=rfl
theorem x_setix {n:Nat} {k x:D}:setIx (.cel n) k x os=setC n x os (getC os n) k:=rfl
theorem x_setCL {n:Nat} {xs:List D} {x:D} {i:Int}:setC n x os (some (.lst xs)) (.int i)=setL n xs x os (ixOf xs.length i):=rfl
theorem x_setL {n j:Nat} {xs:List D} {x:D}:setL n xs x os (some j)=.ok () (os.set n (some (.lst (xs.set j x)))):=rfl
theorem x_aug {p:Pr} {k:Kt D (Flow × Fr)} {i j:Int}:augK p (k:=k) (.int i) (.int j) os = @R.bind _ _ (pr p [.int i,.int j] os) k:=rfl
theorem x_asI {i:Int}:asIK (.int i) os=.ok (.int i) os:=rfl
theorem c_get0 {c:Cell} {l:OS}:getC (os++some c::l) os.length=some c:=by unfold getC; simp
theorem c_get {i:Nat} {l:OS}:getC (os++l) (os.length+i)=(l[i]?).join:=by unfold getC; rw [List.getElem?_append_right (Nat.le_add_right _ _),Nat.add_sub_cancel_left]
theorem c_set0 {c d:Option Cell} {l:OS}:(os++c::l).set os.length d=os++d::l:=by rw [List.set_append_right _ _ (Nat.le_refl _),Nat.sub_self]; rfl
theorem c_set {i:Nat} {d:Option Cell} {l:OS}:(os++l).set (os.length+i) d=os++l.set i d:=by rw [List.set_append_right _ _ (Nat.le_add_right _ _),Nat.add_sub_cancel_left]
end
end I
namespace I
section
variable {P:Pg} {K:Orc} {W:Nat} {ρ:Fr} {os:OS} {α β:Type}
noncomputable def Ok {α:Type} (r:R α) (Φ:α→OS→Prop):Prop:=match r with
 | .ok a os=>Φ a os
 | _=>False
theorem Ok.mono {r:R α} {Φ Ψ:α→OS→Prop} (h:Ok r Φ) (m:∀ a os,Φ a os→Ψ a os):Ok r Ψ:=by
 cases r <;> first | exact m _ _ h | exact h
theorem Ok.get {r:R α} {Φ:α→OS→Prop} (h:Ok r Φ):∃ a os,r=.ok a os∧Φ a os:=by
 cases r <;> first | exact ⟨_,_,rfl,h⟩ | exact h.elim
theorem ok_ok {a:α} {Φ:α→OS→Prop}:Ok (.ok a os) Φ=Φ a os:=rfl
theorem ok_gd {c:Prop} [Decidable c] {r:R α} {Φ:α→OS→Prop}:Ok (.gd c r) Φ=(c∧Ok r Φ):=by
 unfold R.gd
 by_cases h:c
 ·simp [h]
 ·simp [h,Ok]
theorem ok_ofO {o:Option α} {Φ:α→OS→Prop}:Ok (.ofO o os) Φ=∃ a,o=some a∧Φ a os:=by
 cases o with
 | none=>simp [R.ofO,Ok]
 | some a=>simp [R.ofO,Ok]
theorem Ok.bind {r:R α} {f:α→OS→R β} {Φ:β→OS→Prop} (h:Ok r (fun a os=>Ok (f a os) Φ)):Ok (@R.bind α β r ⟨f⟩) Φ:=by
 cases r <;> exact h
theorem Ok.bind' {r:R α} {k:Kt α β} {Φ:β→OS→Prop} (h:Ok r (fun a os=>Ok (k.go a os) Φ)):Ok (@R.bind α β r k) Φ:=by
 cases r <;> exact h
theorem bind_gd {c:Prop} [Decidable c] {r:R α} {k:Kt α β}:@R.bind α β (.gd c r) k=.gd c (@R.bind α β r k):=by
 unfold R.gd
 by_cases h:c <;> simp [h,R.bind]
theorem bind_ite {t:Bool} {a b:Ko α} {k:Kt α β}:@R.bind α β (iteK (a:=a) (b:=b) t os) k=iteK (a:=⟨fun os => @R.bind α β (a.go os) k⟩) (b:=⟨fun os => @R.bind α β (b.go os) k⟩) t os:=by
 cases t <;> rfl
theorem bind_bind {γ:Type} {r:R α} {f:Kt α β} {g:Kt β γ}:@R.bind β γ (@R.bind α β r f) g = @R.bind α γ r ⟨fun a os => @R.bind β γ (f.go a os) g⟩:=by
 cases r <;> rfl
theorem ok_ite {t:Bool} {a b:Ko α} {Φ:α→OS→Prop}:Ok (iteK (a:=a) (b:=b) t os) Φ=((t=true→Ok (a.go os) Φ)∧(t=false→Ok (b.go os) Φ)):=by
 cases t <;> simp [iteK]
theorem ok_and {t:Bool} {k:Ko D} {Φ:D→OS→Prop}:Ok (andK (k:=k) (.bl t) os) Φ=((t=true→Ok (k.go os) Φ)∧(t=false→Φ (.bl false) os)):=by
 cases t <;> simp [andK,Ok]
theorem ok_or {t:Bool} {k:Ko D} {Φ:D→OS→Prop}:Ok (orK (k:=k) (.bl t) os) Φ=((t=true→Φ (.bl true) os)∧(t=false→Ok (k.go os) Φ)):=by
 cases t <;> simp [orK,Ok]
theorem bind_and {t:Bool} {k:Ko D} {f:Kt D β}:@R.bind D β (andK (k:=k) (.bl t) os) f=iteK (a:=⟨fun os => @R.bind D β (k.go os) f⟩) (b:=⟨fun os=>f.go (.bl false) os⟩) t os:=by
 cases t <;> rfl
theorem bind_or {t:Bool} {k:Ko D} {f:Kt D β}:@R.bind D β (orK (k:=k) (.bl t) os) f=iteK (a:=⟨fun os=>f.go (.bl true) os⟩) (b:=⟨fun os => @R.bind D β (k.go os) f⟩) t os:=by
 cases t <;> rfl
theorem ok_ended {r:Rs} {Φ:D→OS→Prop} (h:Ok r (fun f os=>match f.1 with | .rt d=>Φ d os | .nx=>Φ .non os | _=>False)):Ok (ended r) Φ:=by
 cases r with
 | stk=>exact h
 | exc c p os=>exact h
 | ok a os=>obtain ⟨fl,ρ⟩:=a; cases fl <;> exact h
theorem ok_call {f k:Nat} {d:FD} {ds:List D} {Φ:D→OS→Prop} (hd:P.fn f=some d) (h:Ok (ended (execs P (call P W k) W d.body (ds.map some++List.replicate (d.n - ds.length) none) os)) Φ):Ok (call P W (k+1) f ds os) Φ:=by
 rw [call_succ,hd]; exact h
theorem ok_pure {r:R D} {Φ:D→OS→Prop} (h:Ok r (fun d os'=>os'.take os.length=os∧d.low os.length=true∧Φ d os)):Ok (pure1 os r) Φ:=by
 cases r with
 | stk=>exact h
 | exc c p os'=>exact h.elim
 | ok d os' =>
  obtain ⟨h1,h2,h3⟩:=h
  have e:pure1 os (.ok d os')=.ok d os:=by simp only [pure1,h1,h2,and_self,if_true]
  rw [e]
  exact h3
theorem ok_noExc {r:R α} {Φ:α→OS→Prop} (h:Ok r Φ):Ok (noExc r) Φ:=by
 cases r <;> exact h
theorem ok_for {body:Kb} {live:OS→Prop} [DecidablePred live] (Inv:Nat→Fr→OS→Prop) {Φ:Flow × Fr→OS→Prop}:∀ (xs ys:List D) {ρ:Fr} {os:OS},Inv ys.length ρ os →
  (∀ i x ρ os,(ys++xs)[i]?=some x→Inv i ρ os→live os∧Ok (body.go x ρ os) (fun f os'=>(f.1=.nx∧Inv (i+1) f.2 os')∨(∃ d,f.1=.rt d∧Φ (.rt d,f.2) os'))) →
  (∀ ρ os,Inv (ys++xs).length ρ os→live os∧Φ (.nx,ρ) os)→Ok (forL (body:=body) live xs ρ os) Φ
 | [],ys,ρ,os,h0,hs,he=>by
  have:=he ρ os (by rw [List.append_nil]; exact h0)
  unfold forL
  rw [if_pos this.1]
  exact this.2
 | x::r,ys,ρ,os,h0,hs,he=>by
  have h1:=hs ys.length x ρ os (by simp) h0
  unfold forL
  rw [if_pos h1.1]
  refine Ok.bind' (h1.2.mono fun f os' h => ?_)
  obtain ⟨fl,ρ'⟩:=f
  rcases h with ⟨e,h⟩ | ⟨d,e,h⟩
  ·cases (show fl=.nx from e)
   refine ok_for Inv r (ys++[x]) (by simpa using h) (fun i y ρ os hy=>hs i y ρ os (by simpa using hy)) (fun ρ os hh=>he ρ os (by simpa using hh))
  ·cases (show fl=.rt d from e)
   exact h
theorem ok_while {c:Kt Fr Bool} {body:Kt Fr (Flow × Fr)} {Inv:Nat→Fr→OS→Prop} {Φ:Flow × Fr→OS→Prop}
  (hs:∀ m ρ os,Inv m ρ os→Ok (c.go ρ os) (fun b os1=>(b=true→∃ m',m=m'+1∧Ok (body.go ρ os1) (fun f os'=>(f.1=.nx∧Inv m' f.2 os')∨(∃ d,f.1=.rt d∧Φ (.rt d,f.2) os')∨(f.1=.bk∧Φ (.nx,f.2) os')))∧(b=false→Φ (.nx,ρ) os1))):∀ (n m:Nat) {ρ:Fr} {os:OS},m<n→Inv m ρ os→Ok (whL (c:=c) (body:=body) n ρ os) Φ
 | 0,m,ρ,os,h,_=>by omega
 | n+1,m,ρ,os,h,hi=>by
  unfold whL
  refine Ok.bind' ((hs m ρ os hi).mono fun b os1 hb => ?_)
  cases b with
  | false=>exact hb.2 rfl
  | true =>
   obtain ⟨m',rfl,hb2⟩:=hb.1 rfl
   refine Ok.bind' (Ok.mono hb2 fun f os' hf => ?_)
   obtain ⟨fl,ρ'⟩:=f
   rcases hf with ⟨e,hf⟩ | ⟨d,e,hf⟩ | ⟨e,hf⟩
   ·cases (show fl=.nx from e)
    exact ok_while hs n m' (by omega) hf
   ·cases (show fl=.rt d from e)
    exact hf
   ·cases (show fl=.bk from e)
    exact hf
theorem ok_comp {f:Kt D (Option D)} {live:OS→Prop} [DecidablePred live] {Φ:List D→OS→Prop} (hl:live os) (g:D→Option D) (xs:List D) (h:∀ x∈xs,f.go x os=.ok (g x) os) (hq:Φ (xs.filterMap g) os):Ok (compL (f:=f) live xs os) Φ:=by
 have key:∀ (xs:List D),(∀ x∈xs,f.go x os=.ok (g x) os)→compL (f:=f) live xs os=.ok (xs.filterMap g) os:=fun xs=>by
  induction xs with
  | nil=>intro _; unfold compL; rw [if_pos hl]; rfl
  | cons x r ih =>
   intro h
   unfold compL
   rw [if_pos hl,h x (.head _),bind_ok,ih (fun y hy=>h y (.tail _ hy)),bind_ok,List.filterMap_cons]
   cases g x <;> rfl
 rw [key xs h]
 exact hq
theorem ok_compI {f:Kt D (Option D)} {live:OS→Prop} [DecidablePred live] (Inv:Nat→List D→OS→Prop) {Φ:List D→OS→Prop}:∀ (xs ys:List D) (done:List D) {os:OS},Inv ys.length done os →
  (∀ i x done os,(ys++xs)[i]?=some x→Inv i done os→live os∧Ok (f.go x os) (fun y os'=>Inv (i+1) (done++y.toList) os'))→(∀ done os,Inv (ys++xs).length done os→live os) →
  (∀ zs os,Inv (ys++xs).length (done++zs) os→Φ zs os)→Ok (compL (f:=f) live xs os) Φ
 | [],ys,done,os,h0,hs,hl,he=>by
  unfold compL
  rw [if_pos (hl done os (by rw [List.append_nil]; exact h0))]
  exact he [] os (by rw [List.append_nil,List.append_nil]; exact h0)
 | x::r,ys,done,os,h0,hs,hl,he=>by
  have h1:=hs ys.length x done os (by simp) h0
  unfold compL
  rw [if_pos h1.1]
  refine Ok.bind (h1.2.mono fun y os' h => ?_)
  refine Ok.bind (Ok.mono (ok_compI (Φ:=fun zs os=>Inv (ys++x::r).length (done++y.toList++zs) os) Inv r (ys++[x]) (done++y.toList) (by simpa using h) (fun i z d os hz=>hs i z d os (by simpa using hz)) (fun d os hh=>hl d os (by simpa using hh)) (fun zs os hh=>by simpa using hh)) fun zs os2 hz => ?_)
  have:consO y zs=y.toList++zs:=by cases y <;> rfl
  show Φ (consO y zs) os2
  rw [this]
  exact he _ _ (by rw [← List.append_assoc]; exact hz)
theorem get_same {n:Nat} {c:Option Cell} (h:n<os.length):getC (os.set n c) n=c:=by
 unfold getC
 rw [List.getElem?_set_self h]
 rfl
theorem get_other {n m:Nat} {c:Option Cell} (h:n≠m):getC (os.set n c) m=getC os m:=by
 unfold getC
 rw [List.getElem?_set_ne h]
theorem get_lt {n:Nat} {c:Cell} (h:getC os n=some c):n<os.length:=by
 unfold getC at h
 by_cases hn:n<os.length
 ·exact hn
 ·rw [List.getElem?_eq_none (by omega)] at h; cases h
theorem get_app {n:Nat} {l:OS} (h:n<os.length):getC (os++l) n=getC os n:=by
 unfold getC
 rw [List.getElem?_append_left h]
theorem get_end {c:Option Cell} {l:OS}:getC (os++c::l) os.length=c:=by
 unfold getC; simp
theorem ix_pos {n:Nat} {i:Int} (h0:0≤i) (h1:i<n):ixOf n i=some i.toNat:=by
 unfold ixOf
 rw [if_pos h0,if_pos h1]
theorem ix_neg {n:Nat} {i:Int} (h0:i<0) (h1:-(n:Int)≤i):ixOf n i=some (i+n).toNat:=by
 unfold ixOf
 rw [if_neg (by omega),if_pos h1]
end
end I
namespace I
theorem ok_callF {P:Pg} {W:Nat} {os:OS} {f k:Nat} {b:Ss} {n:Nat} {tb:Option Nat} {ds:List D} {Φ:D→OS→Prop} (fr:Fr) (hd:P.fn f=some ⟨n,b,tb⟩) (hf:ds.map some++List.replicate (n - ds.length) none=fr)
  (h:Ok (execs P (call P W k) W b fr os) (fun f os=>match f.1 with | .rt d=>Φ d os | .nx=>Φ .non os | _=>False)):Ok (call P W (k+1) f ds os) Φ :=
 ok_call hd (by subst hf; exact ok_ended h)
end I
namespace I
section
variable {P:Pg} {K:Orc} {W:Nat} {ρ:Fr} {os:OS} {α β:Type} {n:Nat} {xs ys:List D} {k y:D}
noncomputable def ixC (os:OS) (k:D) (c:Option Cell):R D:=match c,k with
 | some (.lst xs),.int i=>.ofO ((ixOf xs.length i).bind fun j=>xs[j]?) os
 | some (.dct t kvs),k=>.gd (keyOk t k=true) (.ofO (dGet k kvs) os)
 | _,_=>.stk
noncomputable def lenC (os:OS) (c:Option Cell):R D:=match c with
 | some (.lst xs)=>.ok (.int xs.length) os | some (.dct false kvs)=>.ok (.int kvs.length) os | _=>.stk
noncomputable def appC (os:OS) (n:Nat) (y:D) (c:Option Cell):R D:=match c with
 | some (.lst xs)=>.gd (xs.length<SZ) (.ok .non (os.set n (some (.lst (xs++[y]))))) | _=>.stk
noncomputable def extC (os:OS) (n:Nat) (c:Option Cell) (y:D):R D:=match c,y with
 | some (.lst xs),.lst ys=>.gd (xs.length+ys.length≤SZ) (.ok .non (os.set n (some (.lst (xs++ys))))) | _,_=>.stk
noncomputable def derC (n:Nat) (c:Option Cell):D:=match c with | some (.lst xs)=>.lst xs | _=>.cel n
noncomputable def itC (c:Option Cell):Option (List D):=match c with | some (.lst xs)=>some xs | _=>none
noncomputable def trC (c:Option Cell):Option Bool:=match c with | some (.lst xs)=>some (!xs.isEmpty) | some (.dct false kvs)=>some (!kvs.isEmpty) | some (.ins _ _)=>none | _=>none
noncomputable def get2C (os:OS) (k d:D) (c:Option Cell):R D:=match c with | some (.dct t kvs)=>.gd (keyOk t k=true) (.ok ((dGet k kvs).getD d) os) | _=>.stk
noncomputable def sdO (os:OS) (n:Nat) (t:Bool) (k d:D) (kvs:List (D × D)) (o:Option D):R D:=match o with
 | some v=>.ok v os
 | none=>.ok d (os.set n (some (.dct t (dPut k d kvs))))
noncomputable def sdC (os:OS) (n:Nat) (k d:D) (c:Option Cell):R D:=match c with
 | some (.dct t kvs)=>.gd (keyOk t k=true∧kvs.length<SZ) (sdO os n t k d kvs (dGet k kvs))
 | _=>.stk
theorem y_ix:pr .ix [.cel n,k] os=ixC os k (getC os n):=rfl
theorem y_ixL {i:Int}:ixC os (.int i) (some (.lst xs))=.ofO ((ixOf xs.length i).bind fun j=>xs[j]?) os:=rfl
theorem y_ixD {t:Bool} {kvs:List (D × D)}:ixC os k (some (.dct t kvs))=.gd (keyOk t k=true) (.ofO (dGet k kvs) os):=by cases k <;> rfl
theorem y_len:pr .len [.cel n] os=lenC os (getC os n):=rfl
theorem y_lenL:lenC os (some (.lst xs))=.ok (.int xs.length) os:=rfl
theorem y_app:pr .append [.cel n,y] os=appC os n y (getC os n):=rfl
theorem y_appL:appC os n y (some (.lst xs))=.gd (xs.length<SZ) (.ok .non (os.set n (some (.lst (xs++[y]))))):=rfl
theorem y_ext:pr .extend [.cel n,y] os=extC os n (getC os n) (deref os y):=rfl
theorem y_extL:extC os n (some (.lst xs)) (.lst ys)=.gd (xs.length+ys.length≤SZ) (.ok .non (os.set n (some (.lst (xs++ys))))):=rfl
theorem y_der:deref os (.cel n)=derC n (getC os n):=rfl
theorem y_derL:derC n (some (.lst xs))=.lst xs:=rfl
theorem y_der1:deref os (.lst xs)=.lst xs:=rfl
theorem y_der2:deref os (.tup xs)=.tup xs:=rfl
theorem y_der3 {i:Int}:deref os (.int i)=.int i:=rfl
theorem y_der4 {i:Bool}:deref os (.bl i)=.bl i:=rfl
theorem y_der5:deref os (.scr xs)=.scr xs:=rfl
theorem y_it:items os (.cel n)=itC (getC os n):=rfl
theorem y_itL:itC (some (.lst xs))=some xs:=rfl
theorem y_itl:itemsL os (.cel n)=itC (getC os n):=rfl
theorem y_tr:truth os (.cel n)=trC (getC os n):=rfl
theorem y_trL:trC (some (.lst xs))=some (!xs.isEmpty):=rfl
theorem y_get2 {d:D}:pr .get2 [.cel n,k,d] os=get2C os k d (getC os n):=rfl
theorem y_get2D {d:D} {t:Bool} {kvs:List (D × D)}:get2C os k d (some (.dct t kvs))=.gd (keyOk t k=true) (.ok ((dGet k kvs).getD d) os):=rfl
theorem y_sd {d:D}:pr .setdef [.cel n,k,d] os=sdC os n k d (getC os n):=rfl
theorem y_sdD {d:D} {t:Bool} {kvs:List (D × D)}:sdC os n k d (some (.dct t kvs))=.gd (keyOk t k=true∧kvs.length<SZ) (sdO os n t k d kvs (dGet k kvs)):=rfl
theorem y_sdS {d v:D} {t:Bool} {kvs:List (D × D)}:sdO os n t k d kvs (some v)=.ok v os:=rfl
theorem y_sdN {d:D} {t:Bool} {kvs:List (D × D)}:sdO os n t k d kvs none=.ok d (os.set n (some (.dct t (dPut k d kvs)))):=rfl
theorem y_list:pr .list [y] os=.ofO ((items os y).map .lst) os:=rfl
theorem y_sl0:pr (.sl false false) [y] os=slK os (deref os y) (some (none,none)):=rfl
theorem y_sl1 {a:Int}:pr (.sl true false) [y,.int a] os=slK os (deref os y) (some (some a,none)):=rfl
theorem y_sl2 {b:Int}:pr (.sl false true) [y,.int b] os=slK os (deref os y) (some (none,some b)):=rfl
theorem y_sl3 {a b:Int}:pr (.sl true true) [y,.int a,.int b] os=slK os (deref os y) (some (some a,some b)):=rfl
theorem y_slL {a b:Option Int}:slK os (.lst xs) (some (a,b))=.ok (.lst (cut xs a b)) os:=rfl
theorem y_slS {a b:Option Int}:slK os (.scr xs) (some (a,b))=.ok (.lst (cut xs a b)) os:=rfl
theorem y_tup:pr .tuple [.cel n] os=.ofO ((itC (getC os n)).map .tup) os:=rfl
theorem y_eq {a b:D}:cmp .eq a b os=.ofO ((D.eq (deref os a) (deref os b)).map .bl) os:=rfl
theorem y_ne {a b:D}:cmp .ne a b os=.ofO ((D.eq (deref os a) (deref os b)).map fun x=>.bl (!x)) os:=rfl
theorem y_eqI {a b:Int}:D.eq (.int a) (.int b)=some (decide (a=b)):=rfl
theorem y_rcL:recv os (rkOf .append) (.cel n)=cellIs .list (getC os n):=rfl
theorem y_rcE:recv os (rkOf .extend) (.cel n)=cellIs .list (getC os n):=rfl
theorem y_rcG:recv os (rkOf .get2) (.cel n)=cellIs .dict (getC os n):=rfl
theorem y_rcS:recv os (rkOf .setdef) (.cel n)=cellIs .dict (getC os n):=rfl
theorem y_isL:cellIs .list (some (.lst xs))=true:=rfl
theorem y_isD {t:Bool} {kvs:List (D × D)}:cellIs .dict (some (.dct t kvs))=true:=rfl
theorem y_tyI {t:Ty} {i:Int}:isTy t (.int i)=some (match t with | .int=>true | _=>false):=by cases t <;> rfl
theorem y_tyB {t:Ty} {i:Bool}:isTy t (.bl i)=some (match t with | .int=>true | .bool=>true | _=>false):=by cases t <;> rfl
theorem y_tyL {t:Ty}:isTy t (.lst xs)=some (match t with | .list=>true | _=>false):=by cases t <;> rfl
theorem y_tyT {t:Ty}:isTy t (.tup xs)=some (match t with | .tuple=>true | _=>false):=by cases t <;> rfl
theorem y_noExc {a:α}:noExc (.ok a os)=.ok a os:=rfl
theorem y_rt {d:D} {Φ:D→OS→Prop}:(match (Flow.rt d,ρ).1 with | .rt d=>Φ d os | .nx=>Φ .non os | _=>False)=Φ d os:=rfl
noncomputable abbrev intz (ns:List Int):List D:=ns.map D.int
theorem same_ints:∀ (a b:List Int),D.sames (intz a) (intz b)=decide (a=b)
 | [],[]=>rfl
 | [],_::_=>rfl
 | _::_,[]=>rfl
 | x::a,y::b=>by
  show (decide (x=y)&&D.sames (intz a) (intz b))=_
  rw [same_ints a b]
  by_cases h:x=y <;> by_cases h2:a=b <;> simp [h,h2]
theorem pl_ints (n:Nat):∀ (a:List Int),(intz a).all (D.pl n)=true
 | []=>rfl
 | x::a=>by
  show (D.pl n (.int x)&&(intz a).all (D.pl n))=true
  rw [pl_ints n a]
  cases n <;> rfl
theorem nm_ints:∀ (a b:List Int),D.nms (intz a) (intz b)=true
 | [],[]=>rfl
 | [],_::_=>rfl
 | _::_,[]=>rfl
 | x::a,y::b=>by
  show (true&&D.nms (intz a) (intz b))=true
  rw [nm_ints a b]; rfl
theorem eq_ints (a b:List Int):D.eq (.lst (intz a)) (.lst (intz b))=some (decide (a=b)):=by
 unfold D.eq
 rw [if_pos]
 ·show some (D.sames (intz a) (intz b))=_
  rw [same_ints]
 ·show ((intz a).all (D.pl 59)&&(intz b).all (D.pl 59)&&D.nms (intz a) (intz b))=true
  rw [pl_ints,pl_ints,nm_ints]; rfl
theorem get_ints {a:List Int} {i:Nat} (h:i<a.length):(intz a)[i]?=some (.int (a.getD i 0)):=by
 rw [List.getElem?_map,List.getElem?_eq_getElem h]
 simp [List.getD,List.getElem?_eq_getElem h]
theorem cut_ints {a:List Int} {l h:Option Int}:cut (intz a) l h=intz (cut a l h):=by
 unfold cut intz
 rw [List.length_map,List.map_take,List.map_drop]
end
end I
namespace I
section
variable {P:Pg} {K:Orc} {W:Nat} {ρ:Fr} {os:OS} {α β:Type} {Φ:Flow × Fr→OS→Prop} {Ψ:D→OS→Prop} {Χ:List D→OS→Prop} {Θ:Bool→OS→Prop} {Ξ:List D × List D→OS→Prop}
theorem ok_bind {r:R α} {k:Kt α β} {Ω:β→OS→Prop}:Ok (@R.bind α β r k) Ω=Ok r (fun a os=>Ok (k.go a os) Ω):=by cases r <;> rfl
noncomputable def sq (P:Pg) (K:Orc) (W:Nat) (r:Ss) (Φ:Flow × Fr→OS→Prop):Flow × Fr→OS→Prop:=fun f os=>match f.1 with
 | .nx=>Ok (execs P K W r f.2 os) Φ
 | _=>Φ f os
noncomputable def fin (Ψ:D→OS→Prop):Flow × Fr→OS→Prop:=fun f os=>match f.1 with
 | .rt d=>Ψ d os
 | .nx=>Ψ .non os
 | _=>False
theorem sq_nx {r:Ss}:sq P K W r Φ (.nx,ρ) os=Ok (execs P K W r ρ os) Φ:=rfl
theorem sq_rt {r:Ss} {d:D}:sq P K W r Φ (.rt d,ρ) os=Φ (.rt d,ρ) os:=rfl
theorem sq_bk {r:Ss}:sq P K W r Φ (.bk,ρ) os=Φ (.bk,ρ) os:=rfl
theorem sq_ct {r:Ss}:sq P K W r Φ (.ct,ρ) os=Φ (.ct,ρ) os:=rfl
theorem fin_rt {d:D}:fin Ψ (.rt d,ρ) os=Ψ d os:=rfl
theorem fin_nx:fin Ψ (.nx,ρ) os=Ψ .non os:=rfl
theorem o_nil:Ok (execs P K W .nil ρ os) Φ=Φ (.nx,ρ) os:=rfl
theorem o_cons {s:S} {r:Ss}:Ok (execs P K W (.cons s r) ρ os) Φ=Ok (exec P K W s ρ os) (sq P K W r Φ):=by
 show Ok (@R.bind _ _ (exec P K W s ρ os) ⟨seqK (k:=⟨fun ρ1 os1=>execs P K W r ρ1 os1⟩)⟩) Φ=_
 rw [ok_bind]
 congr 1
 funext f os
 obtain ⟨fl,ρ⟩:=f
 cases fl <;> rfl
theorem o_one {s:S}:Ok (execs P K W (.cons s .nil) ρ os) Φ=Ok (exec P K W s ρ os) Φ:=by
 rw [o_cons]
 congr 1
 funext f os
 obtain ⟨fl,ρ⟩:=f
 cases fl <;> rfl
theorem o_set {i:Nat} {e:E}:Ok (exec P K W (.set i e) ρ os) Φ=Ok (ev P K e ρ os) (fun d os1=>Φ (.nx,st ρ i d) os1):=ok_bind
theorem o_tset {is:List Nat} {e:E}:Ok (exec P K W (.tset is e) ρ os) Φ=Ok (ev P K e ρ os) (fun d os1=>Ok (nxO os1 (bindT (.tup is) d ρ)) Φ):=ok_bind
theorem o_setix {o i e:E}:Ok (exec P K W (.setix o i e) ρ os) Φ=Ok (ev P K e ρ os) (fun x os1=>Ok (ev P K o ρ os1) (fun d os2=>Ok (ev P K i ρ os2) (fun k os3=>Ok (setIx d k x os3) (fun _ os4=>Φ (.nx,ρ) os4)))):=by
 show Ok (@R.bind _ _ (ev P K e ρ os) ⟨_⟩) Φ=_
 rw [ok_bind]
 congr 1; funext x os1
 show Ok (@R.bind _ _ (ev P K o ρ os1) ⟨_⟩) Φ=_
 rw [ok_bind]
 congr 1; funext d os2
 show Ok (@R.bind _ _ (ev P K i ρ os2) ⟨_⟩) Φ=_
 rw [ok_bind]
 congr 1; funext k os3
 show Ok (@R.bind _ _ (setIx d k x os3) ⟨_⟩) Φ=_
 rw [ok_bind]; rfl
theorem o_aug {i:Nat} {p:Pr} {e:E}:Ok (exec P K W (.aug i p e) ρ os) Φ=Ok (R.ofO (lk ρ i) os) (fun x os0=>Ok (ev P K e ρ os0) (fun y os1=>Ok (augK p (k:=⟨fun w os2=>.ok (.nx,st ρ i w) os2⟩) x y os1) Φ)):=by
 show Ok (@R.bind _ _ (R.ofO (lk ρ i) os) ⟨_⟩) Φ=_
 rw [ok_bind]
 congr 1; funext x os0
 show Ok (@R.bind _ _ (ev P K e ρ os0) ⟨_⟩) Φ=_
 rw [ok_bind]; rfl
theorem o_augI {p:Pr} {i:Nat} {x z:Int}:Ok (augK p (k:=⟨fun w os2=>.ok (.nx,st ρ i w) os2⟩) (.int x) (.int z) os) Φ=Ok (pr p [.int x,.int z] os) (fun w os2=>Φ (.nx,st ρ i w) os2):=ok_bind
theorem o_ex {e:E}:Ok (exec P K W (.ex e) ρ os) Φ=Ok (ev P K e ρ os) (fun _ os1=>Φ (.nx,ρ) os1):=ok_bind
theorem o_ret {e:E}:Ok (exec P K W (.ret e) ρ os) Φ=Ok (ev P K e ρ os) (fun d os1=>Φ (.rt d,ρ) os1):=ok_bind
theorem o_retN:Ok (exec P K W .retN ρ os) Φ=Φ (.rt .non,ρ) os:=rfl
theorem o_if {c:C} {a b:Ss}:Ok (exec P K W (.ite c a b) ρ os) Φ=Ok (evC P K c ρ os) (fun t os1=>(t=true→Ok (execs P K W a ρ os1) Φ)∧(t=false→Ok (execs P K W b ρ os1) Φ)):=by
 show Ok (@R.bind _ _ (evC P K c ρ os) ⟨_⟩) Φ=_
 rw [ok_bind]
 congr 1; funext t os1
 exact ok_ite
theorem o_for {t:Tg} {it:It} {b:Ss}:Ok (exec P K W (.fr t it b) ρ os) Φ=Ok (evI P K it ρ os) (fun xs os1=>Ok (forL (body:=⟨fun x ρ os=>turnS (k:=⟨fun ρ1 os2=>execs P K W b ρ1 os2⟩) os (bindT t x ρ)⟩) (stay os1 xs.1) xs.2 ρ os1) Φ):=ok_bind
theorem o_wh {c:C} {b:Ss}:Ok (exec P K W (.wh c b) ρ os) Φ=Ok (whL (c:=⟨fun ρ os=>evC P K c ρ os⟩) (body:=⟨fun ρ os=>execs P K W b ρ os⟩) W ρ os) Φ:=rfl
theorem o_v {i:Nat}:Ok (ev P K (.v i) ρ os) Ψ=Ok (R.ofO (lk ρ i) os) Ψ:=rfl
theorem o_c {d:D}:Ok (ev P K (.c d) ρ os) Ψ=Ψ d os:=rfl
theorem o_g {i:Nat}:Ok (ev P K (.g i) ρ os) Ψ=Ψ (P.g i) os:=rfl
theorem o_pr {p:Pr} {es:Es}:Ok (ev P K (.pr p es) ρ os) Ψ=Ok (evs P K es ρ os) (fun ds os1=>Ok (pr p ds os1) Ψ):=ok_bind
theorem o_bm {p:Pr} {o:E} {es:Es}:Ok (ev P K (.bm p o es) ρ os) Ψ=Ok (ev P K o ρ os) (fun d os1=>recv os1 (rkOf p) d=true∧Ok (evs P K es ρ os1) (fun ds os2=>Ok (pr p (d::ds) os2) Ψ)):=by
 show Ok (@R.bind _ _ (ev P K o ρ os) ⟨_⟩) Ψ=_
 rw [ok_bind]
 congr 1; funext d os1
 show Ok (R.gd (recv os1 (rkOf p) d=true) (@R.bind _ _ (evs P K es ρ os1) ⟨_⟩)) Ψ=_
 rw [ok_gd,ok_bind]; rfl
theorem o_call {f:Nat} {es:Es}:Ok (ev P K (.call f es) ρ os) Ψ=Ok (evs P K es ρ os) (fun ds os1=>Ok (K f ds os1) Ψ):=ok_bind
theorem o_callP {f:Nat} {es:Es}:Ok (ev P K (.callP f es) ρ os) Ψ=Ok (evs P K es ρ os) (fun ds os1=>Ok (pure1 os1 (K f ds os1)) Ψ):=ok_bind
theorem o_andE {a b:E}:Ok (ev P K (.and a b) ρ os) Ψ=Ok (ev P K a ρ os) (fun d os1=>Ok (andK (k:=⟨fun os2=>ev P K b ρ os2⟩) d os1) Ψ):=ok_bind
theorem o_orE {a b:E}:Ok (ev P K (.or a b) ρ os) Ψ=Ok (ev P K a ρ os) (fun d os1=>Ok (orK (k:=⟨fun os2=>ev P K b ρ os2⟩) d os1) Ψ):=ok_bind
theorem o_notE {a:E}:Ok (ev P K (.not a) ρ os) Ψ=Ok (ev P K a ρ os) (fun d os1=>Ok (notK d os1) Ψ):=ok_bind
theorem o_iteE {c:C} {a b:E}:Ok (ev P K (.ite c a b) ρ os) Ψ=Ok (evC P K c ρ os) (fun t os1=>(t=true→Ok (ev P K a ρ os1) Ψ)∧(t=false→Ok (ev P K b ρ os1) Ψ)):=by
 show Ok (@R.bind _ _ (evC P K c ρ os) ⟨_⟩) Ψ=_
 rw [ok_bind]
 congr 1; funext t os1
 exact ok_ite
theorem o_chain {o1 o2:Cop} {a b c:E}:Ok (ev P K (.chain o1 o2 a b c) ρ os) Ψ=Ok (ev P K a ρ os) (fun x os1=>Ok (ev P K b ρ os1) (fun y os2=>Ok (cmp o1 x y os2) (fun z os3=>Ok (andK (k:=⟨fun os4 => @R.bind _ _ (ev P K c ρ os4) ⟨fun w os5=>cmp o2 y w os5⟩⟩) z os3) Ψ))):=by
 show Ok (@R.bind _ _ (ev P K a ρ os) ⟨_⟩) Ψ=_
 rw [ok_bind]
 congr 1; funext x os1
 show Ok (@R.bind _ _ (ev P K b ρ os1) ⟨_⟩) Ψ=_
 rw [ok_bind]
 congr 1; funext y os2
 show Ok (@R.bind _ _ (cmp o1 x y os2) ⟨_⟩) Ψ=_
 rw [ok_bind]; rfl
theorem o_tup {es:Es}:Ok (ev P K (.tup es) ρ os) Ψ=Ok (evs P K es ρ os) (fun ds os1=>Ψ (.tup ds) os1):=ok_bind
theorem o_lst {es:Es}:Ok (ev P K (.lst es) ρ os) Ψ=Ok (evs P K es ρ os) (fun ds os1=>Ψ (.lst ds) os1):=ok_bind
theorem o_cell {e:E}:Ok (ev P K (.cell e) ρ os) Ψ=Ok (ev P K e ρ os) (fun d os1=>Ok (cellK d os1) Ψ):=ok_bind
theorem o_dict {t:Bool}:Ok (ev P K (.dict t) ρ os) Ψ=Ψ (.cel os.length) (os++[some (.dct t [])]):=rfl
theorem o_fz {e:E}:Ok (ev P K (.fz e) ρ os) Ψ=Ok (ev P K e ρ os) (fun d os1=>Ok (fzK d os1) Ψ):=ok_bind
theorem o_asI {e:E}:Ok (ev P K (.asI e) ρ os) Ψ=Ok (ev P K e ρ os) (fun d os1=>Ok (asIK d os1) Ψ):=ok_bind
theorem o_comp {nl:Nat} {fr:List Nat} {t:Tg} {it:It} {cd:C} {el:E}:Ok (ev P K (.comp nl fr t it cd el) ρ os) Ψ=Ok (evI P K it ρ os) (fun xs os1=>xs.2.length≤SZ ∧
   Ok (compL (f:=⟨fun x os2=>noExc (turnK (k:=⟨fun τ os3=>(evC P K cd τ os3).bind (k:=⟨fun b os4=>iteK (a:=⟨fun os5=>(ev P K el τ os5).bind (k:=⟨fun y os6=>.ok (some y) os6⟩)⟩) (b:=⟨fun os5=>.ok none os5⟩) b os4⟩)⟩) os2
    (bindT t x (capt ρ nl fr)))⟩) (stay os1 xs.1) xs.2 os1) (fun ys os3=>Ψ (.lst ys) os3)):=by
 show Ok (@R.bind _ _ (evI P K it ρ os) ⟨_⟩) Ψ=_
 rw [ok_bind]
 congr 1; funext xs os1
 refine Eq.trans (ok_gd (c:=xs.2.length≤SZ)) ?_
 rw [ok_bind]; rfl
theorem o_turn {x:D} {t:Tg} {cd:C} {el:E} {Ω:Option D→OS→Prop} (h:∃ τ,bindT t x ρ=some τ∧Ok (evC P K cd τ os) (fun b os4=>(b=true→Ok (ev P K el τ os4) (fun y os6=>Ω (some y) os6))∧(b=false→Ω none os4))) :
  Ok (noExc (turnK (k:=⟨fun τ os3=>(evC P K cd τ os3).bind (k:=⟨fun b os4=>iteK (a:=⟨fun os5=>(ev P K el τ os5).bind (k:=⟨fun y os6=>.ok (some y) os6⟩)⟩) (b:=⟨fun os5=>.ok none os5⟩) b os4⟩)⟩) os (bindT t x ρ))) Ω:=by
 obtain ⟨τ,e,h⟩:=h
 rw [e]
 refine ok_noExc ?_
 show Ok (@R.bind _ _ (evC P K cd τ os) ⟨_⟩) Ω
 refine Ok.bind (h.mono fun b os4 hb => ?_)
 cases b with
 | false=>exact hb.2 rfl
 | true=>exact Ok.bind (hb.1 rfl)
theorem o_nilE:Ok (evs P K .nil ρ os) Χ=Χ [] os:=rfl
theorem o_consE {e:E} {es:Es}:Ok (evs P K (.cons e es) ρ os) Χ=Ok (ev P K e ρ os) (fun d os1=>Ok (evs P K es ρ os1) (fun ds os2=>Χ (d::ds) os2)):=by
 show Ok (@R.bind _ _ (ev P K e ρ os) ⟨_⟩) Χ=_
 rw [ok_bind]
 congr 1; funext d os1
 show Ok (@R.bind _ _ (evs P K es ρ os1) ⟨_⟩) Χ=_
 rw [ok_bind]; rfl
theorem o_tt:Ok (evC P K .tt ρ os) Θ=Θ true os:=rfl
theorem o_ce {e:E}:Ok (evC P K (.e e) ρ os) Θ=Ok (ev P K e ρ os) (fun d os1=>Ok (R.ofO (truth os1 d) os1) Θ):=ok_bind
theorem o_cand {a b:C}:Ok (evC P K (.and a b) ρ os) Θ=Ok (evC P K a ρ os) (fun t os1=>(t=true→Ok (evC P K b ρ os1) Θ)∧(t=false→Θ false os1)):=by
 show Ok (@R.bind _ _ (evC P K a ρ os) ⟨_⟩) Θ=_
 rw [ok_bind]
 congr 1; funext t os1
 exact ok_ite
theorem o_cor {a b:C}:Ok (evC P K (.or a b) ρ os) Θ=Ok (evC P K a ρ os) (fun t os1=>(t=true→Θ true os1)∧(t=false→Ok (evC P K b ρ os1) Θ)):=by
 show Ok (@R.bind _ _ (evC P K a ρ os) ⟨_⟩) Θ=_
 rw [ok_bind]
 congr 1; funext t os1
 exact ok_ite
theorem o_cnot {a:C}:Ok (evC P K (.not a) ρ os) Θ=Ok (evC P K a ρ os) (fun t os1=>Θ (!t) os1):=ok_bind
theorem o_seq {e:E}:Ok (evI P K (.seq e) ρ os) Ξ=Ok (ev P K e ρ os) (fun d os1=>Ok (R.ofO ((items os1 d).map fun xs=>([d],xs)) os1) Ξ):=ok_bind
theorem o_rng {es:Es}:Ok (evI P K (.rng es) ρ os) Ξ=Ok (evs P K es ρ os) (fun ds os1=>Ok (rngK ds os1) Ξ):=ok_bind
theorem o_enum {s:Int} {e:E}:Ok (evI P K (.enum s e) ρ os) Ξ=Ok (ev P K e ρ os) (fun d os1=>Ok (R.ofO ((itemsL os1 d).map fun xs=>([d],(xs.zipIdx).map fun p=>D.tup [.int (s+(p.2:Nat)),p.1])) os1) Ξ):=ok_bind
theorem o_ofS {a:α} {Ω:α→OS→Prop}:Ok (R.ofO (some a) os) Ω=Ω a os:=rfl
theorem ok_callB {f k n:Nat} {tb:Option Nat} {b:Ss} {ds:List D} (fr:Fr) (hd:P.fn f=some ⟨n,b,tb⟩) (hf:ds.map some++List.replicate (n - ds.length) none=fr) (h:Ok (execs P (call P W k) W b fr os) (fin Ψ)):Ok (call P W (k+1) f ds os) Ψ :=
 ok_callF fr hd hf h
theorem o_forL {t:Tg} {b:Ss} {live:OS→Prop} [DecidablePred live] (Inv:Nat→Fr→OS→Prop) (xs:List D) {ρ:Fr} {os:OS} (h0:Inv 0 ρ os)
  (hs:∀ i x ρ os,xs[i]?=some x→Inv i ρ os→live os∧∃ τ,bindT t x ρ=some τ∧Ok (execs P K W b τ os) (fun f os'=>(f.1=.nx∧Inv (i+1) f.2 os')∨(∃ d,f.1=.rt d∧Φ (.rt d,f.2) os')))
  (he:∀ ρ os,Inv xs.length ρ os→live os∧Φ (.nx,ρ) os):Ok (forL (body:=⟨fun x ρ os=>turnS (k:=⟨fun ρ1 os2=>execs P K W b ρ1 os2⟩) os (bindT t x ρ)⟩) live xs ρ os) Φ :=
 ok_for Inv xs [] h0 (fun i x ρ os hx hi=>by
  obtain ⟨h1,τ,e,h2⟩:=hs i x ρ os hx hi
  refine ⟨h1,?_⟩
  show Ok (turnS (k:=⟨fun ρ1 os2=>execs P K W b ρ1 os2⟩) os (bindT t x ρ)) _
  rw [e]
  exact h2) he
end
end I
namespace I
theorem o_cut {P:Pg} {K:Orc} {W:Nat} {ρ:Fr} {os:OS} {s:S} {r:Ss} {Φ:Flow × Fr→OS→Prop} (Mid:Fr→OS→Prop) (h1:Ok (exec P K W s ρ os) (fun f os'=>f.1=.nx∧Mid f.2 os')) (h2:∀ ρ' os',Mid ρ' os'→Ok (execs P K W r ρ' os') Φ):Ok (execs P K W (.cons s r) ρ os) Φ:=by
 rw [o_cons]
 refine h1.mono fun f os' h => ?_
 obtain ⟨fl,ρ'⟩:=f
 obtain ⟨e,h⟩:=h
 cases (show fl=.nx from e)
 exact h2 ρ' os' h
theorem mulOk_sm {i j:Int} (h:i.natAbs<2 ^ 64):mulOk i j:=.inl (.inl h)
theorem mulOk_sm' {i j:Int} (h:j.natAbs<2 ^ 64):mulOk i j:=.inl (.inr h)
theorem mulOk_big {i j:Int} (h:i.natAbs<2 ^ 2000) (h2:j.natAbs<2 ^ 2000):mulOk i j:=.inr ⟨h,h2⟩
end I
namespace I
theorem rng_get {n i:Nat} {x:D} (h:(List.map (fun k:Nat=>D.int (k:Nat)) (List.range n))[i]?=some x):i<n∧x=.int (i:Nat):=by
 have hi:i<n:=by
  have:=(List.getElem?_eq_some_iff.mp h).1
  simpa using this
 refine ⟨hi,?_⟩
 rw [List.getElem?_map,List.getElem?_range hi] at h
 exact (Option.some.inj h).symm
end I
namespace I
theorem Ok.gen {α:Type} {r:R α} {Φ0:α→OS→Prop} (A:α→OS→Prop) (h1:∀ Φ:α→OS→Prop,(∀ a os,A a os→Φ a os)→Ok r Φ) (h2:∀ a os,A a os→Φ0 a os):Ok r Φ0:=h1 Φ0 h2
end I
namespace I
theorem ok_comp2 {os:OS} {f:Kt D (Option D)} {live:OS→Prop} [DecidablePred live] {Φ:List D→OS→Prop} (hl:live os) (g:D→Option D) (xs:List D) (h:∀ x∈xs,Ok (f.go x os) (fun y os'=>y=g x∧os'=os)) (hq:Φ (xs.filterMap g) os):Ok (compL (f:=f) live xs os) Φ :=
 ok_comp hl g xs (fun x hx=>by obtain ⟨a,os',e,rfl,rfl⟩:=(h x hx).get; exact e) hq
end I
namespace I
section
variable {P:Pg} {K:Orc} {W:Nat} {ρ:Fr} {os:OS} {Ψ:D→OS→Prop} {Ξ:List D × List D→OS→Prop} {Φ:Flow × Fr→OS→Prop}
theorem o_methP {m:Nat} {o:E} {es:Es}:Ok (ev P K (.methP m o es) ρ os) Ψ=Ok (ev P K o ρ os) (fun d os1=>Ok (methO (k:=⟨fun f os2=>(evs P K es ρ os2).bind (k:=⟨fun ds os3=>pure1 os3 (K f (d::ds) os3)⟩)⟩) os1 (methOf P m os1 d)) Ψ):=ok_bind
theorem o_meth {m:Nat} {o:E} {es:Es}:Ok (ev P K (.meth m o es) ρ os) Ψ=Ok (ev P K o ρ os) (fun d os1=>Ok (methO (k:=⟨fun f os2=>(evs P K es ρ os2).bind (k:=⟨fun ds os3=>K f (d::ds) os3⟩)⟩) os1 (methOf P m os1 d)) Ψ):=ok_bind
theorem o_mOP {f:Nat} {d:D} {es:Es}:Ok (methO (k:=⟨fun f os2=>(evs P K es ρ os2).bind (k:=⟨fun ds os3=>pure1 os3 (K f (d::ds) os3)⟩)⟩) os (some f)) Ψ=Ok (evs P K es ρ os) (fun ds os3=>Ok (pure1 os3 (K f (d::ds) os3)) Ψ):=ok_bind
theorem o_mOM {f:Nat} {d:D} {es:Es}:Ok (methO (k:=⟨fun f os2=>(evs P K es ρ os2).bind (k:=⟨fun ds os3=>K f (d::ds) os3⟩)⟩) os (some f)) Ψ=Ok (evs P K es ρ os) (fun ds os3=>Ok (K f (d::ds) os3) Ψ):=ok_bind
theorem x_mOf {m n:Nat}:methOf P m os (.cel n)=methC P m (getC os n):=rfl
theorem x_mC {m c:Nat} {fs:List (Nat × D)}:methC P m (some (.ins c fs))=P.meth c m:=rfl
theorem o_mk {c:Nat} {es:Es}:Ok (ev P K (.mk c es) ρ os) Ψ=Ok (evs P K es ρ os) (fun ds os1=>Ok (mkK K c ds os1 (P.ini c)) Ψ):=ok_bind
theorem o_mkK {c f:Nat} {ds:List D}:Ok (mkK K c ds os (some f)) Ψ=Ok (K f (.cel os.length::ds) (os++[some (.ins c [])])) (fun d os2=>Ok (madeK os.length d os2) Ψ):=ok_bind
theorem o_made {n:Nat}:Ok (madeK n .non os) Ψ=Ψ (.cel n) os:=rfl
theorem o_fld {f:Nat} {o:E}:Ok (ev P K (.fld o f) ρ os) Ψ=Ok (ev P K o ρ os) (fun d os1=>Ok (fldK f d os1) Ψ):=ok_bind
theorem o_setfld {f:Nat} {o e:E}:Ok (exec P K W (.setfld o f e) ρ os) Φ=Ok (ev P K e ρ os) (fun x os1=>Ok (ev P K o ρ os1) (fun d os2=>Ok (putK f x ρ d os2) Φ)):=by
 show Ok (@R.bind _ _ (ev P K e ρ os) ⟨_⟩) Φ=_
 rw [ok_bind]
 congr 1; funext x os1
 show Ok (@R.bind _ _ (ev P K o ρ os1) ⟨_⟩) Φ=_
 rw [ok_bind]; rfl
theorem x_put {f n:Nat} {x:D}:putK f x ρ (.cel n) os=putC n f x ρ os (getC os n):=rfl
theorem x_putC {f n c:Nat} {x:D} {fs:List (Nat × D)}:putC n f x ρ os (some (.ins c fs))=.gd (fs.length<900) (.ok (.nx,ρ) (os.set n (some (.ins c (fPut f x fs))))):=rfl
theorem x_fPut0 {f:Nat} {x:D}:fPut f x []=[(f,x)]:=rfl
theorem x_fGet0 {f:Nat} {x:D} {r:List (Nat × D)}:fGet f ((f,x)::r)=some x:=if_pos rfl
theorem o_chain3 {o1 o2 o3:Cop} {a b c d:E}:Ok (ev P K (.chain3 o1 o2 o3 a b c d) ρ os) Ψ=Ok (ev P K a ρ os) (fun x os1=>Ok (ev P K b ρ os1) (fun y os2=>Ok (cmp o1 x y os2) (fun z os3 =>
  Ok (andK (k:=⟨fun os4=>(ev P K c ρ os4).bind (k:=⟨fun w os5=>(cmp o2 y w os5).bind (k:=⟨fun z2 os6=>andK (k:=⟨fun os7=>(ev P K d ρ os7).bind (k:=⟨fun u os8=>cmp o3 w u os8⟩)⟩) z2 os6⟩)⟩)⟩) z os3) Ψ))):=by
 show Ok (@R.bind _ _ (ev P K a ρ os) ⟨_⟩) Ψ=_
 rw [ok_bind]; congr 1; funext x os1
 show Ok (@R.bind _ _ (ev P K b ρ os1) ⟨_⟩) Ψ=_
 rw [ok_bind]; congr 1; funext y os2
 show Ok (@R.bind _ _ (cmp o1 x y os2) ⟨_⟩) Ψ=_
 rw [ok_bind]; rfl
theorem o_c3a {o2 o3:Cop} {c d:E} {y:D}:Ok (andK (k:=⟨fun os4=>(ev P K c ρ os4).bind (k:=⟨fun w os5=>(cmp o2 y w os5).bind (k:=⟨fun z2 os6=>andK (k:=⟨fun os7=>(ev P K d ρ os7).bind (k:=⟨fun u os8=>cmp o3 w u os8⟩)⟩) z2 os6⟩)⟩)⟩) (.bl true) os) Ψ =
  Ok (ev P K c ρ os) (fun w os5=>Ok (cmp o2 y w os5) (fun z2 os6=>Ok (andK (k:=⟨fun os7=>(ev P K d ρ os7).bind (k:=⟨fun u os8=>cmp o3 w u os8⟩)⟩) z2 os6) Ψ)):=by
 show Ok (@R.bind _ _ (ev P K c ρ os) ⟨_⟩) Ψ=_
 rw [ok_bind]; congr 1; funext w os5
 show Ok (@R.bind _ _ (cmp o2 y w os5) ⟨_⟩) Ψ=_
 rw [ok_bind]; rfl
theorem o_c3b {o3:Cop} {d:E} {w:D}:Ok (andK (k:=⟨fun os7=>(ev P K d ρ os7).bind (k:=⟨fun u os8=>cmp o3 w u os8⟩)⟩) (.bl true) os) Ψ=Ok (ev P K d ρ os) (fun u os8=>Ok (cmp o3 w u os8) Ψ):=ok_bind
theorem o_zrev {a b:E}:Ok (evI P K (.zrev a b) ρ os) Ξ=Ok (ev P K a ρ os) (fun x os1=>Ok (ev P K b ρ os1) (fun y os2=>Ok (zipK x y os2 (((itemsL os2 x).bind asInts).map fun ns=>(ns.map D.int).reverse) (itemsT y)) Ξ)):=by
 show Ok (@R.bind _ _ (ev P K a ρ os) ⟨_⟩) Ξ=_
 rw [ok_bind]; congr 1; funext x os1
 show Ok (@R.bind _ _ (ev P K b ρ os1) ⟨_⟩) Ξ=_
 rw [ok_bind]; rfl
theorem x_zipK {a b:D} {xs ys:List D}:zipK a b os (some xs) (some ys)=.ok ([a,b],(xs.zip ys).map fun p=>.tup [p.1,p.2]) os:=rfl
theorem x_itL {xs:List D}:itemsL os (.lst xs)=some xs:=rfl
theorem x_itT {xs:List D}:itemsT (.ktu xs)=some xs:=rfl
theorem asInts_intz:∀ (R:List Int),asInts (intz R)=some R
 | []=>rfl
 | x::r=>by
  show (asInts (intz r)).map (x :: ·)=_
  rw [asInts_intz r]
  rfl
theorem z_sum {R:List Int}:pr .sum [.lst (intz R)] os=.ok (.int R.sum) os:=by
 show (match (some (intz R)).bind asInts with | some ns=>I.R.ok (D.int ns.sum) os | none=>I.R.stk)=_
 rw [show (some (intz R)).bind asInts=some R from asInts_intz R]
theorem asBools_map:∀ (R:List Bool),asBools (R.map .bl)=some R
 | []=>rfl
 | x::r=>by
  show (asBools (r.map .bl)).map (x :: ·)=_
  rw [asBools_map r]
  rfl
theorem z_all {R:List Bool}:pr .all [.lst (R.map .bl)] os=.ok (.bl (R.all id)) os:=by
 show I.R.ofO (((some (R.map D.bl)).bind asBools).map fun bs=>D.bl (bs.all id)) os=_
 rw [show (some (R.map D.bl)).bind asBools=some R from asBools_map R]
 rfl
end
end I
namespace I
section
variable {os:OS} {n:Nat}
theorem Ok.eq {α:Type} {r:R α} {v:α} {os':OS} (h:Ok r (fun d o=>d=v∧o=os')):r=.ok v os':=by
 obtain ⟨a,o,e,rfl,rfl⟩:=h.get
 exact e
theorem ok_of {α:Type} {r:R α} {v:α} {o:OS} {Φ:α→OS→Prop} (h:r=.ok v o):Ok r Φ=Φ v o:=by rw [h]; rfl
theorem low_ints:∀ (xs:List Int),D.lows n (intz xs)=true
 | []=>rfl
 | x::r=>by
  show (true&&D.lows n (intz r))=true
  rw [low_ints r]; rfl
noncomputable abbrev rows (bs:List (List Int)):List D:=bs.map fun b=>D.lst (intz b)
theorem low_rows:∀ (bs:List (List Int)),D.lows n (rows bs)=true
 | []=>rfl
 | b::r=>by
  show (D.lows n (intz b)&&D.lows n (rows r))=true
  rw [low_ints,low_rows r]; rfl
theorem pu_int {i:Int}:pure1 os (.ok (.int i) os)=.ok (.int i) os:=pure1_ok' rfl
theorem pu_bl {i:Bool}:pure1 os (.ok (.bl i) os)=.ok (.bl i) os:=pure1_ok' rfl
theorem pu_ints {xs:List Int}:pure1 os (.ok (.lst (intz xs)) os)=.ok (.lst (intz xs)) os:=pure1_ok' (low_ints xs)
theorem pu_intsA {xs:List Int} {ex:OS}:pure1 os (.ok (.lst (intz xs)) (os++ex))=.ok (.lst (intz xs)) os:=pure1_ok (low_ints xs)
theorem pu_rows {xs:List (List Int)}:pure1 os (.ok (.lst (rows xs)) os)=.ok (.lst (rows xs)) os:=pure1_ok' (low_rows xs)
theorem pu_rowsA {xs:List (List Int)} {ex:OS}:pure1 os (.ok (.lst (rows xs)) (os++ex))=.ok (.lst (rows xs)) os:=pure1_ok (low_rows xs)
theorem pu_intA {i:Int} {ex:OS}:pure1 os (.ok (.int i) (os++ex))=.ok (.int i) os:=pure1_ok rfl
theorem pu_blA {i:Bool} {ex:OS}:pure1 os (.ok (.bl i) (os++ex))=.ok (.bl i) os:=pure1_ok rfl
theorem sames_rows:∀ (a b:List (List Int)),D.sames (rows a) (rows b)=decide (a=b)
 | [],[]=>rfl
 | [],_::_=>rfl
 | _::_,[]=>rfl
 | x::a,y::b=>by
  show (D.sames (intz x) (intz y)&&D.sames (rows a) (rows b))=_
  rw [same_ints,sames_rows a b]
  by_cases h:x=y <;> by_cases h2:a=b <;> simp [h,h2]
theorem pl_rows (n:Nat):∀ (a:List (List Int)),(rows a).all (D.pl (n+1))=true
 | []=>rfl
 | x::a=>by
  show ((intz x).all (D.pl n)&&(rows a).all (D.pl (n+1)))=true
  rw [pl_rows n a,pl_ints]; rfl
theorem nm_rows:∀ (a b:List (List Int)),D.nms (rows a) (rows b)=true
 | [],[]=>rfl
 | [],_::_=>rfl
 | _::_,[]=>rfl
 | x::a,y::b=>by
  show (D.nms (intz x) (intz y)&&D.nms (rows a) (rows b))=true
  rw [nm_ints,nm_rows a b]; rfl
theorem eq_rows (a b:List (List Int)):D.eq (.lst (rows a)) (.lst (rows b))=some (decide (a=b)):=by
 unfold D.eq
 rw [if_pos]
 ·show some (D.sames (rows a) (rows b))=_
  rw [sames_rows]
 ·show ((rows a).all (D.pl 59)&&(rows b).all (D.pl 59)&&D.nms (rows a) (rows b))=true
  rw [pl_rows,pl_rows,nm_rows]; rfl
theorem cut_rows {a:List (List Int)} {l h:Option Int}:cut (rows a) l h=rows (cut a l h):=by
 unfold cut rows
 rw [List.length_map,List.map_take,List.map_drop]
theorem cut_mid {α:Type} {xs:List α} {a b:Int} (h0:0≤a) (h1:a≤b):cut xs (some a) (some b)=(xs.drop a.toNat).take (b.toNat - a.toNat):=by
 have ha:slAt xs.length 0 (some a)=min a.toNat xs.length:=if_pos h0
 have hb:slAt xs.length xs.length (some b)=min b.toNat xs.length:=if_pos (by omega)
 unfold cut
 rw [ha,hb]
 by_cases h:a.toNat≤xs.length
 ·rw [Nat.min_eq_left h]
  by_cases h2:b.toNat≤xs.length
  ·rw [Nat.min_eq_left h2]
  ·rw [Nat.min_eq_right (by omega)]
   rw [List.take_of_length_le (by rw [List.length_drop]; omega),List.take_of_length_le (by rw [List.length_drop]; omega)]
 ·rw [Nat.min_eq_right (show xs.length≤a.toNat by omega),List.drop_of_length_le (Nat.le_refl _),List.drop_of_length_le (by omega)]
  simp
theorem cut_from {α:Type} {xs:List α} {a:Int} (h0:0≤a):cut xs (some a) none=xs.drop a.toNat:=by
 have ha:slAt xs.length 0 (some a)=min a.toNat xs.length:=if_pos h0
 have hb:slAt xs.length xs.length none=xs.length:=rfl
 unfold cut
 rw [ha,hb]
 by_cases h:a.toNat≤xs.length
 ·rw [Nat.min_eq_left h,List.take_of_length_le (by rw [List.length_drop]; omega)]
 ·rw [Nat.min_eq_right (by omega),List.drop_of_length_le (Nat.le_refl _),List.drop_of_length_le (by omega)]
  simp
theorem cut_to {α:Type} {xs:List α} {b:Int} (h0:0≤b):cut xs none (some b)=xs.take b.toNat:=by
 have ha:slAt xs.length 0 none=0:=rfl
 have hb:slAt xs.length xs.length (some b)=min b.toNat xs.length:=if_pos h0
 unfold cut
 rw [ha,hb,List.drop_zero,Nat.sub_zero]
 by_cases h:b.toNat≤xs.length
 ·rw [Nat.min_eq_left h]
 ·rw [Nat.min_eq_right (by omega),List.take_of_length_le (Nat.le_refl _),List.take_of_length_le (by omega)]
theorem getD_mem {α:Type} {xs:List α} {i:Nat} {d:α} (h:i<xs.length):xs.getD i d∈xs:=by
 rw [List.getD_eq_getElem?_getD,List.getElem?_eq_getElem h]
 exact List.getElem_mem _
theorem rng2_get {a:Int} {n i:Nat} {x:D} (h:(List.map (fun k:Nat=>D.int (a+(k:Nat))) (List.range n))[i]?=some x):i<n∧x=.int (a+(i:Nat)):=by
 have hi:i<n:=by
  have:=(List.getElem?_eq_some_iff.mp h).1
  simpa using this
 refine ⟨hi,?_⟩
 rw [List.getElem?_map,List.getElem?_range hi] at h
 exact (Option.some.inj h).symm
end
end I
namespace I
theorem enum_get {xs:List Int} {s:Int} {i:Nat} {x:D} (h:(List.map (fun p:D × Nat=>D.tup [.int (s+(p.2:Nat)),p.1]) (List.zipIdx (intz xs)))[i]?=some x):∃ c,xs[i]?=some c∧x=.tup [.int (s+(i:Nat)),.int c]:=by
 rw [List.getElem?_map,List.getElem?_zipIdx,List.getElem?_map] at h
 cases hc:xs[i]? with
 | none=>rw [hc] at h; cases h
 | some c =>
  rw [hc] at h
  refine ⟨c,rfl,(Option.some.inj h).symm.trans ?_⟩
  simp
theorem rows_get {xs:List (List Int)} {i:Nat} {x:D} (h:(rows xs)[i]?=some x):∃ b,xs[i]?=some b∧x=.lst (intz b):=by
 rw [List.getElem?_map] at h
 cases hc:xs[i]? with
 | none=>rw [hc] at h; cases h
 | some c =>
  rw [hc] at h
  exact ⟨c,rfl,(Option.some.inj h).symm⟩
theorem ints_get {xs:List Int} {i:Nat} {x:D} (h:(intz xs)[i]?=some x):∃ b,xs[i]?=some b∧x=.int b:=by
 rw [List.getElem?_map] at h
 cases hc:xs[i]? with
 | none=>rw [hc] at h; cases h
 | some c =>
  rw [hc] at h
  exact ⟨c,rfl,(Option.some.inj h).symm⟩
end I
namespace I
theorem ix_last {α:Type} {xs:List α} {a:α}:ixOf (xs++[a]).length (-1)=some xs.length:=by
 rw [List.length_append,List.length_singleton,ix_neg (by omega) (by omega)]
 congr 1
 omega
theorem ix_m1 {n:Nat} (h:0<n):ixOf n (-1)=some (n - 1):=by
 rw [ix_neg (by omega) (by omega)]
 congr 1
 omega
end I
namespace I
section
variable {os:OS}
theorem x_in {k:Int} {xs:List Int}:cmp .isIn (.int k) (.lst (intz xs)) os=.ok (.bl (decide (k∈xs))) os:=by
 show R.ofO ((((some (intz xs)).bind fun xs=>isIn (.int k) xs)).map D.bl) os=_
 show R.ofO (((asInts (intz xs)).map fun ns=>decide (k∈ns)).map D.bl) os=_
 rw [asInts_intz]
 rfl
theorem find_get:∀ {ns:List Int} {c:Int},c∈ns→∃ j:Nat,(ns.findIdx? fun z=>decide (z=c))=some j∧ns[j]?=some c
 | [],_,h=>nomatch h
 | x::r,c,h=>by
  rw [List.findIdx?_cons]
  by_cases e:x=c
  ·exact ⟨0,by simp [e],by simp [e]⟩
  ·rcases List.mem_cons.mp h with z | z
   ·exact absurd z.symm e
   ·obtain ⟨j,h1,h2⟩:=find_get z
    exact ⟨j+1,by simp [e,h1],by simpa using h2⟩
theorem x_index {c:Int} {ns:List Int} {j:Nat} (h:(ns.findIdx? fun z=>decide (z=c))=some j):pr .index [.lst (intz ns),.int c] os=.ok (.int (j:Nat)) os:=by
 show R.ofO ((asInts (intz ns)).bind fun ns=>(ns.findIdx? fun z=>decide (z=c)).map fun j=>D.int (j:Nat)) os=_
 rw [asInts_intz]
 show R.ofO ((ns.findIdx? fun z=>decide (z=c)).map fun j=>D.int (j:Nat)) os=_
 rw [h]
 rfl
theorem y_rcI {xs:List D}:recv os (rkOf .index) (.lst xs)=true:=rfl
noncomputable def fltG (f:Int→Bool):D→Option D:=fun x=>match x with | .int c=>if f c=true then some (.int c) else none | _=>none
theorem fltG_int {f:Int→Bool} {c:Int}:fltG f (.int c)=if f c=true then some (.int c) else none:=rfl
theorem flt_ints (f:Int→Bool):∀ (xs:List Int),(intz xs).filterMap (fltG f)=intz (xs.filter f)
 | []=>rfl
 | x::r=>by
  have ih:=flt_ints f r
  show (D.int x::intz r).filterMap _=_
  rw [List.filterMap_cons,List.filter_cons,ih,fltG_int]
  by_cases h:f x=true <;> simp [h]
end
end I
namespace I
noncomputable def walkL:=And.intro @o_set <| And.intro @o_tset <| And.intro @o_setix <| And.intro @o_aug <| And.intro @o_augI <| And.intro @o_ex <| And.intro @o_ret <| And.intro @o_retN <| And.intro @o_if <| And.intro @o_for <| And.intro @o_v <| And.intro @o_c <| And.intro @o_g <| And.intro @o_pr <| And.intro @o_bm <| And.intro @o_call <| And.intro @o_callP <| And.intro @o_andE <| And.intro @o_orE <| And.intro @o_notE <| And.intro @o_iteE <| And.intro @o_chain <| And.intro @o_tup <| And.intro @o_lst <| And.intro @o_cell <| And.intro @o_dict <| And.intro @o_fz <| And.intro @o_asI <| And.intro @o_comp <| And.intro @o_methP <| And.intro @o_mOP <| And.intro @x_mOf <| And.intro @x_mC <| And.intro @o_mk <| And.intro @o_mkK <| And.intro @o_made <| And.intro @o_fld <| And.intro @o_setfld <| And.intro @x_put <| And.intro @x_putC <| And.intro @x_fPut0 <| And.intro @x_fGet0 <| And.intro @o_chain3 <| And.intro @o_c3a <| And.intro @o_c3b <| And.intro @o_zrev <| And.intro @x_zipK <| And.intro @x_itL <| And.intro @x_itT <| And.intro @x_in <| And.intro @y_rcI <| And.intro @pu_int <| And.intro @pu_bl <| And.intro @pu_ints <| And.intro @pu_intsA <| And.intro @pu_rows <| And.intro @pu_rowsA <| And.intro @pu_intA <| And.intro @pu_blA <| And.intro @o_nilE <| And.intro @o_consE <| And.intro @o_tt <| And.intro @o_ce <| And.intro @o_cand <| And.intro @o_cor <| And.intro @o_cnot <| And.intro @o_seq <| And.intro @o_rng <| And.intro @o_enum <| And.intro @o_ofS <| And.intro @o_nil <| And.intro @sq_nx <| And.intro @sq_rt <| And.intro @sq_bk <| And.intro @sq_ct <| And.intro @fin_rt <| And.intro @fin_nx <| And.intro @ok_bind <| And.intro @ok_ok <| And.intro @ok_gd <| And.intro @ok_and <| And.intro @ok_or <| And.intro @ok_ite <| And.intro @x_not <| And.intro @x_nxO <| And.intro @x_lk0 <| And.intro @x_lkS <| And.intro @x_st0 <| And.intro @x_stS <| And.intro @x_bindV <| And.intro @x_bindT <| And.intro @x_stAll0 <| And.intro @x_stAllS <| And.intro @x_add <| And.intro @x_addL <| And.intro @x_addT <| And.intro @x_sub <| And.intro @x_mul <| And.intro @x_mulL <| And.intro @x_fdiv <| And.intro @x_mod <| And.intro @x_pow <| And.intro @x_shl <| And.intro @x_shr <| And.intro @x_band <| And.intro @x_bor <| And.intro @x_bxor <| And.intro @x_neg <| And.intro @x_cmp <| And.intro @x_ltI <| And.intro @x_leI <| And.intro @x_gtI <| And.intro @x_geI <| And.intro @x_lenL <| And.intro @x_lenT <| And.intro @x_lenS <| And.intro @x_ixL <| And.intro @x_ixT <| And.intro @x_ixS <| And.intro @x_list <| And.intro @x_listT <| And.intro @x_tuple <| And.intro @x_min <| And.intro @x_max <| And.intro @x_bitlen <| And.intro @x_inst <| And.intro @x_items <| And.intro @x_itemsT <| And.intro @x_itemsS <| And.intro @x_trB <| And.intro @x_trL <| And.intro @x_trI <| And.intro @x_map <| And.intro @x_obind <| And.intro @x_rng1 <| And.intro @x_rng2 <| And.intro @x_zip <| And.intro @x_cell <| And.intro @x_fz <| And.intro @x_fzC <| And.intro @x_fld <| And.intro @x_fldC <| And.intro @x_setix <| And.intro @x_setCL <| And.intro @x_setL <| And.intro @x_asI <| And.intro @y_ix <| And.intro @y_ixL <| And.intro @y_ixD <| And.intro @y_len <| And.intro @y_lenL <| And.intro @y_app <| And.intro @y_appL <| And.intro @y_ext <| And.intro @y_extL <| And.intro @y_der <| And.intro @y_derL <| And.intro @y_der1 <| And.intro @y_der2 <| And.intro @y_der3 <| And.intro @y_der4 <| And.intro @y_der5 <| And.intro @y_it <| And.intro @y_itL <| And.intro @y_itl <| And.intro @y_tr <| And.intro @y_trL <| And.intro @y_get2 <| And.intro @y_get2D <| And.intro @y_sd <| And.intro @y_sdD <| And.intro @y_sdS <| And.intro @y_sdN <| And.intro @y_list <| And.intro @y_sl0 <| And.intro @y_sl1 <| And.intro @y_sl2 <| And.intro @y_sl3 <| And.intro @y_slL <| And.intro @y_slS <| And.intro @y_tup <| And.intro @y_eq <| And.intro @y_ne <| And.intro @y_eqI <| And.intro @y_rcL <| And.intro @y_rcE <| And.intro @y_rcG <| And.intro @y_rcS <| And.intro @y_isL <| And.intro @y_isD <| And.intro @y_tyI <| And.intro @y_tyB <| And.intro @y_tyL <| @y_tyT
end I
namespace I
section
variable {P:Pg} {K:Orc} {W:Nat} {ρ:Fr} {os:OS} {Φ:Flow × Fr→OS→Prop} {Ψ:D→OS→Prop} {Ξ:List D × List D→OS→Prop}
theorem o_augfld {o e:E} {f:Nat} {p:Pr}:Ok (exec P K W (.augfld o f p e) ρ os) Φ=Ok (ev P K o ρ os) (fun d os1=>Ok (fldK f d os1) (fun x os2=>Ok (ev P K e ρ os2) (fun y os3=>Ok (augF (celN d) (clsN (getC os1 (celN d))) f p ρ x y os3 (getC os3 (celN d))) Φ))):=by
 show Ok (@R.bind _ _ (ev P K o ρ os) ⟨_⟩) Φ=_
 rw [ok_bind]
 congr 1; funext d os1
 show Ok (@R.bind _ _ (fldK f d os1) ⟨_⟩) Φ=_
 rw [ok_bind]
 congr 1; funext x os2
 show Ok (@R.bind _ _ (ev P K e ρ os2) ⟨_⟩) Φ=_
 rw [ok_bind]; rfl
theorem x_celN {n:Nat}:celN (.cel n)=n:=rfl
theorem x_clsN {c:Nat} {fs:List (Nat × D)}:clsN (some (.ins c fs))=c:=rfl
theorem o_augF {n c0 c f:Nat} {p:Pr} {x z:Int} {fs:List (Nat × D)}:Ok (augF n c0 f p ρ (.int x) (.int z) os (some (.ins c fs))) Φ=((c=c0∧fs.length<900)∧Ok (pr p [.int x,.int z] os) (fun w os3=>Φ (.nx,ρ) (os3.set n (some (.ins c (fPut f w fs)))))):=by
 show Ok (R.gd _ (@R.bind _ _ (pr p [.int x,.int z] os) ⟨_⟩)) Φ=_
 rw [ok_gd,ok_bind]; rfl
theorem o_rev {e:E}:Ok (evI P K (.rev e) ρ os) Ξ=Ok (ev P K e ρ os) (fun d os1=>Ok (R.ofO ((itemsL os1 d).map fun xs=>([d],xs.reverse)) os1) Ξ):=ok_bind
theorem x_srtR {t:Nat} {n:Int} {ys:List D}:pr (.srtR t) [.int n,.lst ys] os=.gd (tabB t (getC os t)=true) (.ofO (srtRO n ys) os):=rfl
theorem x_min1 {R:List Int}:pr .min1 [.lst (intz R)] os=.ofO ((minL R).map .int) os:=by
 show I.R.ofO (((some (intz R)).bind asInts).bind fun ns=>(minL ns).map D.int) os=_
 rw [show (some (intz R)).bind asInts=some R from asInts_intz R]; rfl
theorem x_max1 {R:List Int}:pr .max1 [.lst (intz R)] os=.ofO ((maxL R).map .int) os:=by
 show I.R.ofO (((some (intz R)).bind asInts).bind fun ns=>(maxL ns).map D.int) os=_
 rw [show (some (intz R)).bind asInts=some R from asInts_intz R]; rfl
theorem x_sorted {R:List Int}:pr .sorted [.lst (intz R)] os=.ofO (srtI R) os:=by
 show I.R.ofO (((some (intz R)).bind asInts).bind srtI) os=_
 rw [show (some (intz R)).bind asInts=some R from asInts_intz R]; rfl
theorem y_popL {n j:Nat} {i:Int} {xs:List D} {y:D} (h:getC os n=some (.lst xs)) (hj:ixOf xs.length i=some j) (hy:xs[j]?=some y):pr .popL [.cel n,.int i] os=.ok y (os.set n (some (.lst (xs.eraseIdx j)))):=by
 show (match getC os n with | some (.lst xs)=>popLK n xs os (ixOf xs.length i) | _=>.stk)=_
 rw [h]
 show popLK n xs os (ixOf xs.length i)=_
 rw [hj]
 show (match xs[j]? with | some y=>R.ok y (os.set n (some (.lst (xs.eraseIdx j)))) | none=>.stk)=_
 rw [hy]
theorem y_pop {n:Nat} {xs:List D} {y:D} (h:getC os n=some (.lst (xs++[y]))):pr .pop [.cel n] os=.ok y (os.set n (some (.lst xs))):=by
 show (match getC os n with | some (.lst xs)=>(match xs.getLast? with | some y=>R.ok y (os.set n (some (.lst xs.dropLast))) | none=>.stk) | _=>.stk)=_
 rw [h]
 show (match (xs++[y]).getLast? with | some z=>R.ok z (os.set n (some (.lst (xs++[y]).dropLast))) | none=>.stk)=_
 rw [List.getLast?_append]
 simp
theorem y_rcP {n:Nat}:recv os (rkOf .popL) (.cel n)=cellIs .list (getC os n):=rfl
theorem y_rcQ {n:Nat}:recv os (rkOf .pop) (.cel n)=cellIs .list (getC os n):=rfl
theorem x_fGetS {f g:Nat} {d:D} {r:List (Nat × D)}:fGet f ((g,d)::r)=if g=f then some d else fGet f r:=rfl
theorem x_fPutS {f g:Nat} {d u:D} {r:List (Nat × D)}:fPut f d ((g,u)::r)=if g=f then (g,d)::r else (g,u)::fPut f d r:=rfl
theorem x_setset {n:Nat} {a b:Option Cell}:List.set (List.set os n a) n b=List.set os n b:=List.set_set ..
theorem x_lenset {n:Nat} {a:Option Cell}:(List.set os n a).length=os.length:=List.length_set ..
theorem x_setCD {n:Nat} {x k:D} {t:Bool} {kvs:List (D × D)}:setC n x os (some (.dct t kvs)) k=.gd (keyOk t k=true∧kvs.length<SZ) (.ok () (os.set n (some (.dct t (dPut k x kvs))))):=rfl
theorem x_keyI {i:Int}:keyOk false (.int i)=true:=rfl
theorem y_insert {n:Nat} {i:Int} {xs:List D} {y:D} (h:getC os n=some (.lst xs)) (h0:0≤i) (h1:i≤xs.length) (hz:xs.length<SZ):pr .insert [.cel n,.int i,y] os=.ok .non (os.set n (some (.lst (xs.take i.toNat++y::xs.drop i.toNat)))):=by
 show (match getC os n with | some (.lst xs)=>R.gd (0≤i∧i≤xs.length∧xs.length<SZ) (R.ok D.non (os.set n (some (Cell.lst (xs.take i.toNat++y::xs.drop i.toNat))))) | _=>R.stk)=_
 rw [h]
 exact gd_pos ⟨h0,h1,hz⟩
theorem y_rcN {n:Nat}:recv os (rkOf .insert) (.cel n)=cellIs .list (getC os n):=rfl
theorem o_try {f i:Nat} {es:Es} {hs:List (Nat × List HS)}:Ok (exec P K W (.tryC f es i hs) ρ os) Φ=Ok (evs P K es ρ os) (fun ds os1=>Ok (tryK i hs ρ (K f ds os1)) Φ):=by
 show Ok (onlyOk (k:=⟨_⟩) (evs P K es ρ os)) Φ=_
 cases evs P K es ρ os <;> rfl
theorem o_tryM {c i:Nat} {es:Es} {hs:List (Nat × List HS)}:Ok (exec P K W (.tryM c es i hs) ρ os) Φ=Ok (evs P K es ρ os) (fun ds os1=>Ok (tryK i hs ρ (mkK K c ds os1 (P.ini c))) Φ):=by
 show Ok (onlyOk (k:=⟨_⟩) (evs P K es ρ os)) Φ=_
 cases evs P K es ρ os <;> rfl
theorem o_tryV {v i:Nat} {es:Es} {hs:List (Nat × List HS)}:Ok (exec P K W (.tryV v es i hs) ρ os) Φ=Ok (evs P K es ρ os) (fun ds os1=>Ok (tryK i hs ρ (fnK K ds os1 (lk ρ v))) Φ):=by
 show Ok (onlyOk (k:=⟨_⟩) (evs P K es ρ os)) Φ=_
 cases evs P K es ρ os <;> rfl
theorem x_fnK {f:Nat} {ds:List D}:fnK K ds os (some (.exn f none))=K f ds os:=rfl
theorem x_isB {x y:Bool}:cmp .isB (.bl x) (.bl y) os=.ok (.bl (x == y)) os:=rfl
theorem o_chars {e:E}:Ok (evI P K (.chars e) ρ os) Ξ=Ok (ev P K e ρ os) (fun d os1=>Ok (charsK d os1) Ξ):=ok_bind
theorem x_chars {s:List Nat}:charsK (.str s) os=.gd ((s.all fun c=>decide (c<128))=true∧s.length≤SZ) (.ok ([],s.map fun c=>.str [c]) os):=rfl
theorem x_toS {i:Int}:pr .toS [.int i] os=.gd (0≤i∧i<10000000000) (.ok (.str (digs i.toNat)) os):=rfl
theorem x_toI {s:List Nat}:pr .toI [.str s] os=.gd ((!s.isEmpty&&s.all isFig)=true∧s.length≤600) (.ok (.int (dval s:Nat)) os):=rfl
theorem x_joinS {sep:List Nat} {xs:List D}:pr .joinS [.str sep,.lst xs] os=joinK sep os (asStrs xs):=rfl
theorem x_splitS {s:List Nat} {c:Nat}:pr .splitS [.str s,.str [c]] os=.gd (s.length≤1000000) (.ok (.lst ((splitC c s).map .str)) os):=rfl
theorem x_startS {s t:List Nat}:pr .startS [.str s,.str t] os=.ok (.bl (t.isPrefixOf s)) os:=rfl
theorem x_leS {x y:Nat}:cmp .leS (.str [x]) (.str [y]) os=.ok (.bl (decide (x≤y))) os:=rfl
theorem y_rsJ {s:List Nat}:recv os (rkOf .joinS) (.str s)=true:=rfl
theorem y_rsS {s:List Nat}:recv os (rkOf .splitS) (.str s)=true:=rfl
theorem y_rsT {s:List Nat}:recv os (rkOf .startS) (.str s)=true:=rfl
theorem x_lnS {s:List Nat}:pr .len [.str s] os=.gd (s.length≤SZ) (.ok (.int s.length) os):=rfl
theorem x_derS {s:List Nat}:deref os (.str s)=.str s:=rfl
theorem x_isS {s:List Nat}:pr (.isInst .str) [.str s] os=.ok (.bl true) os:=rfl
theorem x_inS {c:Nat} {s:List Nat}:cmp .inS (.str [c]) (.str s) os=.ok (.bl (decide (c∈s))) os:=rfl
theorem x_addS {a b:List Nat}:pr .add [.str a,.str b] os=.gd (a.length+b.length≤1000000) (.ok (.str (a++b)) os):=rfl
theorem x_mulS {a:List Nat} {k:Int}:pr .mul [.str a,.int k] os=.gd ((2≤k∧k≤1000)∧1≤a.length∧a.length≤1000) (.ok (.str (List.replicate k.toNat a).flatten) os):=rfl
theorem x_slS {a:List Nat} {p:Option Int × Option Int}:slK os (.str a) (some p)=.gd (a.length≤1000000) (.ok (.str (cut a p.1 p.2)) os):=rfl
theorem o_orS {a b:E}:Ok (ev P K (.orS a b) ρ os) Ψ=Ok (ev P K a ρ os) (fun d os1=>Ok (orSK (k:=⟨fun os2=>ev P K b ρ os2⟩) d os1) Ψ):=ok_bind
theorem x_orS {k:Ko D} {s:List Nat}:orSK (k:=k) (.str s) os=.gd (s.length≤1000000) (if s.isEmpty then k.go os else .ok (.str s) os):=rfl
theorem o_tryA {j f i:Nat} {es:Es} {hs:List (Nat × List HS)}:Ok (exec P K W (.tryA j f es i hs) ρ os) Φ=Ok (evs P K es ρ os) (fun ds os1=>Ok (tryKA j i hs ρ (K f ds os1)) Φ):=by
 show Ok (onlyOk (k:=⟨_⟩) (evs P K es ρ os)) Φ=_
 cases evs P K es ρ os <;> rfl
theorem x_tryA {j i:Nat} {hs:List (Nat × List HS)} {d:D}:tryKA j i hs ρ (.ok d os)=.ok (.nx,st ρ j d) os:=rfl
noncomputable def walkM:=And.intro @x_inS <| And.intro @x_addS <| And.intro @x_mulS <| And.intro @x_slS <| And.intro @o_orS <| And.intro @x_orS <| And.intro @o_tryA <| And.intro @x_tryA <| And.intro @x_lnS <| And.intro @x_derS <| And.intro @x_isS <| And.intro @o_chars <| And.intro @x_chars <| And.intro @x_toS <| And.intro @x_toI <| And.intro @x_joinS <| And.intro @x_splitS <| And.intro @x_startS <| And.intro @x_leS <| And.intro @y_rsJ <| And.intro @y_rsS <| And.intro @y_rsT <| And.intro @z_sum <| And.intro @x_setCD <| And.intro @x_keyI <| And.intro @x_fGetS <| And.intro @x_fPutS <| And.intro @x_setset <| And.intro @x_lenset <| And.intro @o_augfld <| And.intro @x_celN <| And.intro @x_clsN <| And.intro @o_augF <| And.intro @o_rev <| And.intro @x_srtR <| And.intro @x_min1 <| And.intro @x_max1 <| And.intro @x_sorted <| And.intro @y_rcP <| And.intro @y_rcQ <| And.intro @y_rcN <| And.intro @o_try <| And.intro @o_tryM <| And.intro @o_tryV <| And.intro @x_fnK <| And.intro @x_isB <| And.intro @o_meth <| @o_mOM
end
end I
namespace IS
open PySem PySem.Spec L2
open PyProof.Rows hiding St
open I (D Cell OS Fr R SZ)
theorem Same.seqT {K:PySem.W.Frag} {H H':Hp} {a:Addr} {xs:List V} (e:Same H H') (h:SqT K H a xs):SqT K H' a xs:=by
 rcases h with (h | ⟨o,h⟩) | h
 ·exact .inl (.inl (e _ _ h))
 ·exact .inl (.inr ⟨o,e _ _ h⟩)
 ·exact .inr h
noncomputable def dKey:Key→D
 | .inl i=>.int i
 | .inr x=>.str x.cps.toList
structure GI where
 prog:Program
 w:World
 K:PySem.W.Frag
 mg:Str→Option Value
 base:Heap
 CA:Nat→Addr
 fl:Nat→Str
 ok:Nat→Prop
 tA:Nat→Addr
 tq:Nat→Str
 fa:Nat→Option Str
section
variable (G:GI) (ι:List Addr) (Hf:Hp)
mutual
inductive Rp:V→D→Prop
 | non:Rp .non .non
 | bl (b:Bool):Rp (.bl b) (.bl b)
 | int (i:Int):Rp (.int i) (.int i)
 | str (x:Str):Rp (.str x) (.str x.cps.toList)
 | lst {a:Addr} {vs:List V} {xs:List D}:Hf a=some (.lst vs)→vs.length≤sizeLine→Rps vs xs→Rp (.ref a) (.lst xs)
 | scr {a:Addr} {vs:List V} {xs:List D}:SqL G.K Hf a vs→vs.length≤sizeLine→Rps vs xs→Rp (.ref a) (.scr xs)
 | tup {a:Addr} {vs:List V} {xs:List D}:Hf a=some (.tup vs)→vs.length≤sizeLine→Rps vs xs→Rp (.ref a) (.tup xs)
 | ktu {a:Addr} {vs:List V} {xs:List D}:SqT G.K Hf a vs→vs.length≤sizeLine→Rps vs xs→Rp (.ref a) (.ktu xs)
 | cel {a:Addr} {n:Nat}:ι[n]?=some a→Rp (.ref a) (.cel n)
 | fn {a:Addr} {f:Nat} {x:Str}:G.fa f=some x→G.mg x=some (.ref a)→Rp (.ref a) (.exn f none)
inductive Rps:List V→List D→Prop
 | nil:Rps [] []
 | cons {v:V} {d:D} {vs:List V} {ds:List D}:Rp v d→Rps vs ds→Rps (v::vs) (d::ds)
end
noncomputable def CRel (H:Hp) (a:Addr):Cell→Prop
 | .lst xs=>∃ vs,H a=some (.lst vs)∧vs.length≤sizeLine∧Rps G ι Hf vs xs
 | .dct false kvs=>∃ kk:List (Key × V),H a=some (.dK kk)∧kvs.map (·.1)=kk.map (fun p=>dKey p.1)∧Rps G ι Hf (kk.map (·.2)) (kvs.map (·.2))
 | .dct true kvs=>∃ kk:List (List Key × V),H a=some (.dT kk)∧kvs.map (·.1)=kk.map (fun p=>D.tup (p.1.map dKey))∧Rps G ι Hf (kk.map (·.2)) (kvs.map (·.2))
 | .ins c fs=>∃ dx vfs,(H a=some (.ins (G.CA c) dx vfs)∧G.ok c)∧vfs.map (·.1)=fs.map (fun p=>G.fl p.1)∧Rps G ι Hf (vfs.map (·.2)) (fs.map (·.2))
 | .tab n=>∃ ps,H a=some (.tbl ps)∧a=G.tA n∧PySem.TriplesOk ps.toList∧∀ pos cv,PySem.codeAmong pos ps.toList=some cv→∃ c',cv=.ref c'∧Hf c'=some (.ext fun h=>h.CodeRec (.ref c') (G.tq n))
structure Rel (H:Hp) (os:OS):Prop where
 len:ι.length=os.length
 sub:Same Hf H
 cell:∀ n c,I.getC os n=some c→∃ a,ι[n]?=some a∧Hf a=none∧CRel G ι Hf H a c
 inj:∀ n m c c' a,I.getC os n=some c→I.getC os m=some c'→ι[n]?=some a→ι[m]?=some a→n=m
inductive Rf:St→Fr→Prop
 | nil:Rf [] []
 | no {o:Option V} {σ:St} {ρ:Fr}:Rf σ ρ→Rf (o::σ) (none::ρ)
 | so {v:V} {d:D} {σ:St} {ρ:Fr}:Rp G ι Hf v d→Rf σ ρ→Rf (some v::σ) (some d::ρ)
end
structure Ext (ι:List Addr) (Hf:Hp) (ι':List Addr) (Hf':Hp):Prop where
 pre:ι <+: ι'
 sub:Same Hf Hf'
theorem Ext.refl {ι:List Addr} {Hf:Hp}:Ext ι Hf ι Hf:=⟨List.prefix_refl _,Same.refl _⟩
theorem Ext.trans {ι ι' ι'':List Addr} {Hf Hf' Hf'':Hp} (a:Ext ι Hf ι' Hf') (b:Ext ι' Hf' ι'' Hf''):Ext ι Hf ι'' Hf'':=⟨a.pre.trans b.pre,a.sub.trans b.sub⟩
theorem Ext.get {ι ι':List Addr} {Hf Hf':Hp} (e:Ext ι Hf ι' Hf') {n:Nat} {a:Addr} (h:ι[n]?=some a):ι'[n]?=some a:=by
 obtain ⟨t,rfl⟩:=e.pre
 rw [List.getElem?_append_left (List.getElem?_eq_some_iff.mp h).1]
 exact h
section
variable {G:GI} {ι ι':List Addr} {Hf Hf' H H':Hp} {os os':OS}
mutual
theorem Rp.ext (e:Ext ι Hf ι' Hf'):∀ {v:V} {d:D},Rp G ι Hf v d→Rp G ι' Hf' v d
 | _,_,.non=>.non
 | _,_,.bl b=>.bl b
 | _,_,.int i=>.int i
 | _,_,.str x=>.str x
 | _,_,.lst h z r=>.lst (e.sub _ _ h) z (Rps.ext e r)
 | _,_,.scr h z r=>.scr (e.sub.seq h) z (Rps.ext e r)
 | _,_,.tup h z r=>.tup (e.sub _ _ h) z (Rps.ext e r)
 | _,_,.ktu h z r=>.ktu (Same.seqT e.sub h) z (Rps.ext e r)
 | _,_,.cel h=>.cel (e.get h)
 | _,_,.fn h g=>.fn h g
theorem Rps.ext (e:Ext ι Hf ι' Hf'):∀ {v:List V} {d:List D},Rps G ι Hf v d→Rps G ι' Hf' v d
 | _,_,.nil=>.nil
 | _,_,.cons h r=>.cons (Rp.ext e h) (Rps.ext e r)
end
theorem Rf.ext (e:Ext ι Hf ι' Hf'):∀ {σ:St} {ρ:Fr},Rf G ι Hf σ ρ→Rf G ι' Hf' σ ρ
 | _,_,.nil=>.nil
 | _,_,.no r=>.no (Rf.ext e r)
 | _,_,.so h r=>.so (h.ext e) (Rf.ext e r)
mutual
theorem Rp.low:∀ {v:V} {d:D},Rp G ι Hf v d→d.low ι.length=true
 | _,_,.non=>rfl
 | _,_,.bl b=>rfl
 | _,_,.int i=>rfl
 | _,_,.str x=>rfl
 | _,_,.lst h z r=>Rps.low r
 | _,_,.scr h z r=>Rps.low r
 | _,_,.ktu h z r=>Rps.low r
 | _,_,.tup h z r=>Rps.low r
 | _,_,.cel h=>decide_eq_true (List.getElem?_eq_some_iff.mp h).1
 | _,_,.fn _ _=>rfl
theorem Rps.low:∀ {v:List V} {d:List D},Rps G ι Hf v d→D.lows ι.length d=true
 | _,_,.nil=>rfl
 | _,_,.cons h r=>by
  show (_&&_)=true
  rw [Rp.low h,Rps.low r]
  rfl
end
mutual
theorem Rp.cutI (p:ι <+: ι'):∀ {v:V} {d:D},Rp G ι' Hf v d→d.low ι.length=true→Rp G ι Hf v d
 | _,_,.non,_=>.non
 | _,_,.bl b,_=>.bl b
 | _,_,.int i,_=>.int i
 | _,_,.str x,_=>.str x
 | _,_,.lst h z r,l=>.lst h z (Rps.cutI p r l)
 | _,_,.scr h z r,l=>.scr h z (Rps.cutI p r l)
 | _,_,.ktu h z r,l=>.ktu h z (Rps.cutI p r l)
 | _,_,.tup h z r,l=>.tup h z (Rps.cutI p r l)
 | _,_,.fn h g,_=>.fn h g
 | _,_,.cel (n:=n) h,l=>.cel (by
  obtain ⟨t,rfl⟩:=p
  rw [List.getElem?_append_left (of_decide_eq_true l)] at h
  exact h)
theorem Rps.cutI (p:ι <+: ι'):∀ {v:List V} {d:List D},Rps G ι' Hf v d→D.lows ι.length d=true→Rps G ι Hf v d
 | _,_,.nil,_=>.nil
 | _,_,.cons h r,l=>by
  obtain ⟨l1,l2⟩:=Bool.and_eq_true_iff.mp (show (_&&_)=true from l)
  exact .cons (Rp.cutI p h l1) (Rps.cutI p r l2)
end
theorem Rps.len:∀ {v:List V} {d:List D},Rps G ι Hf v d→v.length=d.length
 | _,_,.nil=>rfl
 | _,_,.cons _ r=>by rw [List.length_cons,List.length_cons,Rps.len r]
theorem Rps.get:∀ {vs:List V} {ds:List D} {i:Nat} {d:D},Rps G ι Hf vs ds→ds[i]?=some d→∃ v,vs[i]?=some v∧Rp G ι Hf v d
 | _,_,_,_,.nil,e=>by simp at e
 | _,_,0,_,.cons h _,e=>by simp at e; subst e; exact ⟨_,rfl,h⟩
 | _,_,i+1,_,.cons _ r,e=>by simpa using Rps.get (i:=i) r (by simpa using e)
theorem Rps.app:∀ {a b:List V} {c d:List D},Rps G ι Hf a c→Rps G ι Hf b d→Rps G ι Hf (a++b) (c++d)
 | _,_,_,_,.nil,s=>s
 | _,_,_,_,.cons h r,s=>.cons h (Rps.app r s)
theorem Rps.drop:∀ (n:Nat) {a:List V} {c:List D},Rps G ι Hf a c→Rps G ι Hf (a.drop n) (c.drop n)
 | 0,_,_,r=>r
 | _+1,_,_,.nil=>.nil
 | n+1,_,_,.cons _ r=>Rps.drop n r
theorem Rps.take:∀ (n:Nat) {a:List V} {c:List D},Rps G ι Hf a c→Rps G ι Hf (a.take n) (c.take n)
 | 0,_,_,_=>.nil
 | _+1,_,_,.nil=>.nil
 | n+1,_,_,.cons h r=>.cons h (Rps.take n r)
theorem Rps.set {v:V} {d:D} (h:Rp G ι Hf v d):∀ (n:Nat) {a:List V} {c:List D},Rps G ι Hf a c→Rps G ι Hf (a.set n v) (c.set n d)
 | _,_,_,.nil=>.nil
 | 0,_,_,.cons _ r=>.cons h r
 | n+1,_,_,.cons q r=>.cons q (Rps.set h n r)
theorem Rf.lk:∀ {σ:St} {ρ:Fr} {i:Nat} {d:D},Rf G ι Hf σ ρ→I.lk ρ i=some d→∃ v,σ[i]?=some (some v)∧Rp G ι Hf v d
 | _,_,_,_,.nil,e=>by simp [I.lk] at e
 | _,_,0,_,.no _,e=>by simp [I.lk] at e
 | _,_,0,_,.so h _,e=>by
  simp [I.lk] at e
  subst e
  exact ⟨_,rfl,h⟩
 | _,_,i+1,_,.no r,e=>by simpa using Rf.lk (i:=i) r e
 | _,_,i+1,_,.so _ r,e=>by simpa using Rf.lk (i:=i) r e
theorem Rf.st {v:V} {d:D} (h:Rp G ι Hf v d):∀ {σ:St} {ρ:Fr} (i:Nat),Rf G ι Hf σ ρ→Rf G ι Hf (σ.set i (some v)) (I.st ρ i d)
 | _,_,_,.nil=>.nil
 | _,_,0,.no r=>.so h r
 | _,_,0,.so _ r=>.so h r
 | _,_,i+1,.no r=>.no (Rf.st h i r)
 | _,_,i+1,.so q r=>.so q (Rf.st h i r)
theorem Rf.capt {σ:St} {ρ:Fr} (r:Rf G ι Hf σ ρ) (nl:Nat) (fr:List Nat):Rf G ι Hf (inSt nl fr σ) (I.capt ρ nl fr):=by
 unfold inSt I.capt
 have h2:Rf G ι Hf (fr.map fun j=>(σ[j]?).join) (fr.map fun j=>I.lk ρ j):=by
  induction fr with
  | nil=>exact .nil
  | cons j fr ih =>
   rw [List.map_cons,List.map_cons]
   cases e:I.lk ρ j with
   | none=>exact .no ih
   | some d =>
    obtain ⟨v,h1,h2⟩:=r.lk e
    rw [h1]
    exact .so h2 ih
 induction nl with
 | zero=>exact h2
 | succ n ih=>exact .no ih
theorem CRel.ext (e:Ext ι Hf ι' Hf') {a:Addr} {c:Cell} (h:CRel G ι Hf H a c) (hH:∀ o,H a=some o→H' a=some o):CRel G ι' Hf' H' a c:=by
 cases c with
 | lst xs=>obtain ⟨vs,h1,z,h2⟩:=h; exact ⟨vs,hH _ h1,z,h2.ext e⟩
 | dct t kvs =>
  cases t with
  | false=>obtain ⟨kk,h1,h2,h3⟩:=h; exact ⟨kk,hH _ h1,h2,h3.ext e⟩
  | true=>obtain ⟨kk,h1,h2,h3⟩:=h; exact ⟨kk,hH _ h1,h2,h3.ext e⟩
 | ins c fs=>obtain ⟨dx,vfs,h1,h2,h3⟩:=h; exact ⟨dx,vfs,⟨hH _ h1.1,h1.2⟩,h2,h3.ext e⟩
 | tab n =>
  obtain ⟨ps,h1,h2,h3,h4⟩:=h
  exact ⟨ps,hH _ h1,h2,h3,fun pos cv q=>let ⟨c',e1,e2⟩:=h4 pos cv q; ⟨c',e1,e.sub _ _ e2⟩⟩
theorem CRel.there {a:Addr} {c:Cell} (h:CRel G ι Hf H a c):∃ o,H a=some o:=by
 cases c with
 | lst xs=>obtain ⟨vs,h1,_⟩:=h; exact ⟨_,h1⟩
 | dct t kvs =>
  cases t with
  | false=>obtain ⟨kk,h1,_⟩:=h; exact ⟨_,h1⟩
  | true=>obtain ⟨kk,h1,_⟩:=h; exact ⟨_,h1⟩
 | ins c fs=>obtain ⟨dx,vfs,h1,_⟩:=h; exact ⟨_,h1.1⟩
 | tab n=>obtain ⟨ps,h1,_⟩:=h; exact ⟨_,h1⟩
theorem Rel.froze {p:Addr} {o:HO} (r:Rel G ι Hf H os) (h:H p=none):Ext ι Hf ι (upd Hf p o)∧Rel G ι (upd Hf p o) (upd H p o) os:=by
 have e:Ext ι Hf ι (upd Hf p o):=⟨List.prefix_refl _,Same.new (r.sub.free h) _⟩
 refine ⟨e,r.len,fun b u q => ?_,fun n c hc => ?_,r.inj⟩
 ·by_cases hb:b=p
  ·subst hb; rw [upd_same] at q ⊢; exact q
  ·rw [upd_ne hb] at q ⊢; exact r.sub b u q
 ·obtain ⟨a,h1,h2,h3⟩:=r.cell n c hc
  obtain ⟨o',ho'⟩:=h3.there
  have ne:a≠p:=ne_of_none ho' h
  exact ⟨a,h1,by rw [upd_ne ne]; exact h2,h3.ext e fun u q=>by rw [upd_ne ne]; exact q⟩
theorem getC_len {n:Nat} {c:Cell} (h:I.getC os n=some c):n<os.length:=by
 unfold I.getC at h
 cases e:os[n]? with
 | none=>rw [e] at h; cases h
 | some o=>exact (List.getElem?_eq_some_iff.mp e).1
theorem getC_app {n:Nat} {l:OS} (h:n<os.length):I.getC (os++l) n=I.getC os n:=by
 unfold I.getC
 rw [List.getElem?_append_left h]
theorem getC_new {c:Cell}:I.getC (os++[some c]) os.length=some c:=by
 unfold I.getC
 simp
theorem getC_set {n m:Nat} {c:Option Cell} (h:n<os.length):I.getC (os.set n c) m=if m=n then c else I.getC os m:=by
 unfold I.getC
 by_cases e:m=n
 ·subst e
  rw [if_pos rfl,List.getElem?_set_self h]
  rfl
 ·rw [if_neg e,List.getElem?_set_ne (Ne.symm e)]
theorem Rel.newC {p:Addr} {o:HO} {c:Cell} (r:Rel G ι Hf H os) (h:H p=none) (hc:CRel G (ι++[p]) Hf (upd H p o) p c):Ext ι Hf (ι++[p]) Hf∧Rel G (ι++[p]) Hf (upd H p o) (os++[some c]):=by
 have e:Ext ι Hf (ι++[p]) Hf:=⟨List.prefix_append _ _,Same.refl _⟩
 have hp:=r.sub.free h
 have last:∀ n c',I.getC (os++[some c]) n=some c'→(n=os.length∧c'=c)∨(n<os.length∧I.getC os n=some c'):=fun n c' q=>by
  have hl:=getC_len q
  rw [List.length_append,List.length_singleton] at hl
  by_cases hn:n=os.length
  ·subst hn
   rw [getC_new] at q
   exact .inl ⟨rfl,(Option.some.inj q).symm⟩
  ·rw [getC_app (by omega)] at q
   exact .inr ⟨by omega,q⟩
 have atL:(ι++[p])[os.length]?=some p:=by rw [← r.len]; simp
 have atO:∀ {n a},n<os.length→(ι++[p])[n]?=some a→ι[n]?=some a:=fun {n a} hn q=>by
  rw [List.getElem?_append_left (by rw [r.len]; exact hn)] at q
  exact q
 refine ⟨e,by rw [List.length_append,List.length_append,r.len]; rfl,fun b u q => ?_,fun n c' q => ?_,fun n m c1 c2 a q1 q2 e1 e2 => ?_⟩
 ·rw [upd_ne (ne_of_none q hp)]
  exact r.sub b u q
 ·rcases last n c' q with ⟨rfl,rfl⟩ | ⟨hn,q⟩
  ·exact ⟨p,atL,hp,hc⟩
  ·obtain ⟨a,h1,h2,h3⟩:=r.cell n c' q
   obtain ⟨o',ho'⟩:=h3.there
   have ne:a≠p:=ne_of_none ho' h
   exact ⟨a,e.get h1,h2,h3.ext e fun u q=>by rw [upd_ne ne]; exact q⟩
 ·have old:∀ {n c'},n<os.length→I.getC os n=some c'→(ι++[p])[n]?=some a→a≠p:=fun {n c'} hn q e1=>by
   obtain ⟨a',h1,h2,h3⟩:=r.cell n c' q
   have:=atO hn e1
   rw [h1] at this
   cases this
   obtain ⟨o',ho'⟩:=h3.there
   exact ne_of_none ho' h
  rcases last n c1 q1 with ⟨rfl,_⟩ | ⟨hn,q1⟩
  ·rcases last m c2 q2 with ⟨rfl,_⟩ | ⟨hm,q2⟩
   ·rfl
   ·rw [atL] at e1
    exact absurd (Option.some.inj e1).symm (old hm q2 e2)
  ·rcases last m c2 q2 with ⟨rfl,_⟩ | ⟨hm,q2⟩
   ·rw [atL] at e2
    exact absurd (Option.some.inj e2).symm (old hn q1 e1)
   ·exact r.inj n m c1 c2 a q1 q2 (atO hn e1) (atO hm e2)
theorem Rel.putC {n:Nat} {a:Addr} {o:HO} {c c':Cell} (r:Rel G ι Hf H os) (hn:I.getC os n=some c) (ha:ι[n]?=some a) (hc:CRel G ι Hf (upd H a o) a c'):Rel G ι Hf (upd H a o) (os.set n (some c')):=by
 have hl:=getC_len hn
 obtain ⟨a',h1,h2,h3⟩:=r.cell n c hn
 rw [ha] at h1
 cases h1
 have back:∀ m c1,I.getC (os.set n (some c')) m=some c1→m≠n→I.getC os m=some c1:=fun m c1 q ne=>by
  rw [getC_set hl,if_neg ne] at q
  exact q
 have any:∀ m c1,I.getC (os.set n (some c')) m=some c1→∃ c2,I.getC os m=some c2:=fun m c1 q=>by
  by_cases e:m=n
  ·subst e; exact ⟨c,hn⟩
  ·exact ⟨c1,back m c1 q e⟩
 refine ⟨by rw [List.length_set]; exact r.len,fun b u q => ?_,fun m c1 q => ?_,fun m k c1 c2 b q1 q2 e1 e2 => ?_⟩
 ·rw [upd_ne (ne_of_none q h2)]
  exact r.sub b u q
 ·by_cases e:m=n
  ·subst e
   rw [getC_set hl,if_pos rfl] at q
   cases q
   exact ⟨a,ha,h2,hc⟩
  ·have q':=back m c1 q e
   obtain ⟨b,g1,g2,g3⟩:=r.cell m c1 q'
   have ne:b≠a:=fun z=>e (r.inj m n c1 c b q' hn g1 (by rw [z]; exact ha))
   exact ⟨b,g1,g2,g3.ext .refl fun u q=>by rw [upd_ne ne]; exact q⟩
 ·obtain ⟨d1,q1⟩:=any m c1 q1
  obtain ⟨d2,q2⟩:=any k c2 q2
  exact r.inj m k d1 d2 b q1 q2 e1 e2
theorem Rel.fz {n:Nat} {xs:List D} (r:Rel G ι Hf H os) (hn:I.getC os n=some (.lst xs)):∃ a vs,ι[n]?=some a∧Ext ι Hf ι (upd Hf a (.lst vs))∧Rel G ι (upd Hf a (.lst vs)) H (os.set n none)∧Rp G ι (upd Hf a (.lst vs)) (.ref a) (.lst xs):=by
 have hl:=getC_len hn
 obtain ⟨a,h1,h2,vs,h3,hz,h4⟩:=r.cell n _ hn
 have e:Ext ι Hf ι (upd Hf a (.lst vs)):=⟨List.prefix_refl _,Same.new h2 _⟩
 have back:∀ m c1,I.getC (os.set n none) m=some c1→m≠n∧I.getC os m=some c1:=fun m c1 q=>by
  rw [getC_set hl] at q
  by_cases e:m=n
  ·rw [if_pos e] at q; cases q
  ·rw [if_neg e] at q; exact ⟨e,q⟩
 refine ⟨a,vs,h1,e,⟨by rw [List.length_set]; exact r.len,fun b u q => ?_,fun m c1 q => ?_,fun m k c1 c2 b q1 q2 e1 e2 => ?_⟩,.lst upd_same hz (h4.ext e)⟩
 ·by_cases hb:b=a
  ·subst hb; rw [upd_same] at q; cases q; exact h3
  ·rw [upd_ne hb] at q; exact r.sub b u q
 ·obtain ⟨ne,q⟩:=back m c1 q
  obtain ⟨b,g1,g2,g3⟩:=r.cell m c1 q
  have nb:b≠a:=fun z=>ne (r.inj m n c1 _ b q hn g1 (by rw [z]; exact h1))
  exact ⟨b,g1,by rw [upd_ne nb]; exact g2,g3.ext e fun _ q=>q⟩
 ·exact r.inj m k c1 c2 b (back m c1 q1).2 (back k c2 q2).2 e1 e2
theorem Rel.trunc {Hf0 H0:Hp} (r0:Rel G ι Hf0 H0 os) (e:Ext ι Hf0 ι' Hf') (r:Rel G ι' Hf' H' os') (ht:os'.take os.length=os):Rel G ι Hf' H' os:=by
 have gc:∀ n c,I.getC os n=some c→I.getC os' n=some c:=fun n c q=>by
  have hl:=getC_len q
  unfold I.getC at q ⊢
  rw [← ht,List.getElem?_take_of_lt hl] at q
  exact q
 have low:∀ n c a,I.getC os n=some c→CRel G ι' Hf' H' a c→CRel G ι Hf' H' a c:=fun n c a q h=>by
  obtain ⟨a0,_,_,h0⟩:=r0.cell n c q
  cases c with
  | lst xs =>
   obtain ⟨vs,h1,z,h2⟩:=h
   obtain ⟨_,_,_,g⟩:=h0
   exact ⟨vs,h1,z,h2.cutI e.pre g.low⟩
  | dct t kvs =>
   cases t with
   | false =>
    obtain ⟨_,_,_,g⟩:=h0
    obtain ⟨kk,h1,h2,h3⟩:=h
    exact ⟨kk,h1,h2,h3.cutI e.pre g.low⟩
   | true =>
    obtain ⟨_,_,_,g⟩:=h0
    obtain ⟨kk,h1,h2,h3⟩:=h
    exact ⟨kk,h1,h2,h3.cutI e.pre g.low⟩
  | ins c fs =>
   obtain ⟨dx,vfs,h1,h2,h3⟩:=h
   obtain ⟨_,_,_,_,g⟩:=h0
   exact ⟨dx,vfs,h1,h2,h3.cutI e.pre g.low⟩
  | tab n=>exact h
 refine ⟨r0.len,r.sub,fun n c q => ?_,fun n m c1 c2 a q1 q2 e1 e2=>r.inj n m c1 c2 a (gc n c1 q1) (gc m c2 q2) (e.get e1) (e.get e2)⟩
 obtain ⟨a0,g1,g2,g3⟩:=r0.cell n c q
 obtain ⟨a,h1,h2,h3⟩:=r.cell n c (gc n c q)
 rw [e.get g1] at h1
 cases h1
 exact ⟨a0,g1,h2,low n c a0 q h3⟩
end
end IS
namespace IS
open PySem PySem.Spec L2
open PyProof.Rows hiding St
open I (D Cell OS Fr R SZ Kt Ko)
noncomputable def WR {α:Type} (G:GI) (E:XK) (ι:List Addr) (Hf:Hp) (r:R α) (Q:List Addr→Hp→Hp→OS→α→Prop):Prop:=match r with
 | .ok a os'=>∀ ι' Hf' H',Ext ι Hf ι' Hf'→Rel G ι' Hf' H' os'→Q ι' Hf' H' os' a
 | .exc c _ os'=>∀ ι' Hf' H',Ext ι Hf ι' Hf'→Rel G ι' Hf' H' os'→E (.ref (G.CA c)) none H'
 | .stk=>False
section
variable {G:GI} {E:XK} {ι ι':List Addr} {Hf Hf' H:Hp} {os:OS} {α β:Type} {r:R α} {Q Q':List Addr→Hp→Hp→OS→α→Prop}
theorem WR.ext (w:WR G E ι Hf r Q) (e:Ext ι Hf ι' Hf'):WR G E ι' Hf' r Q:=by
 cases r with
 | ok a os=>exact fun i f h x=>w i f h (e.trans x)
 | exc c p os=>exact fun i f h x=>w i f h (e.trans x)
 | stk=>exact w
theorem WR.mono (w:WR G E ι Hf r Q) (h:∀ ι' Hf' H' os' a,Ext ι Hf ι' Hf'→Rel G ι' Hf' H' os'→Q ι' Hf' H' os' a→Q' ι' Hf' H' os' a):WR G E ι Hf r Q':=by
 cases r with
 | ok a os=>exact fun i f H' x rl=>h i f H' os a x rl (w i f H' x rl)
 | exc c p os=>exact w
 | stk=>exact w
theorem WR.bind {k:Kt α β} {Q:List Addr→Hp→Hp→OS→β→Prop} (w:WR G E ι Hf (@R.bind α β r k) Q):WR G E ι Hf r (fun ι' Hf' _ os' a=>WR G E ι' Hf' (k.go a os') Q):=by
 cases r with
 | ok a os=>exact fun i f h x _=>WR.ext (show WR G E ι Hf (k.go a os) Q from w) x
 | exc c p os=>exact w
 | stk=>exact w
theorem WR.now {a:α} (w:WR G E ι Hf (.ok a os) Q) (rel:Rel G ι Hf H os):Q ι Hf H os a:=w ι Hf H .refl rel
theorem WR.gd {c:Prop} [Decidable c] (w:WR G E ι Hf (.gd c r) Q):c∧WR G E ι Hf r Q:=by
 unfold I.R.gd at w
 split at w
 ·exact ⟨‹c›,w⟩
 ·exact False.elim w
theorem WR.ofO {o:Option α} (w:WR G E ι Hf (.ofO o os) Q):∃ a,o=some a∧WR G E ι Hf (.ok a os) Q:=by
 cases o with
 | none=>exact False.elim w
 | some a=>exact ⟨a,rfl,w⟩
end
theorem WR.int2 {G:GI} {E:XK} {ι:List Addr} {Hf:Hp} {f:Int→Int→R D} {ds:List D} {Q:List Addr→Hp→Hp→OS→D→Prop} (w:WR G E ι Hf (I.int2 f ds) Q):∃ i j,ds=[.int i,.int j]∧WR G E ι Hf (f i j) Q:=by
 unfold I.int2 at w
 split at w
 ·exact ⟨_,_,rfl,w⟩
 ·exact False.elim w
theorem WR.cmpI {G:GI} {E:XK} {ι:List Addr} {Hf:Hp} {o:I.Cop} {a b:D} {os:OS} {Q:List Addr→Hp→Hp→OS→D→Prop} (w:WR G E ι Hf (match a,b with | .int i,.int j=>R.ofO ((I.cmpI o i j).map .bl) os | _,_=>.stk) Q):∃ i j,a=.int i∧b=.int j∧WR G E ι Hf (R.ofO ((I.cmpI o i j).map .bl) os) Q:=by
 split at w
 ·exact ⟨_,_,rfl,rfl,w⟩
 ·exact False.elim w
theorem WR.rng3 {G:GI} {E:XK} {ι:List Addr} {Hf:Hp} {a b c:D} {os:OS} {Q:List Addr→Hp→Hp→OS→List D × List D→Prop} (w:WR G E ι Hf (I.rngK [a,b,c] os) Q):∃ i j k,a=.int i∧b=.int j∧c=.int k:=by
 generalize e:[a,b,c]=l at w
 unfold I.rngK at w
 split at w
 ·cases e
 ·cases e
 ·cases e; exact ⟨_,_,_,rfl,rfl,rfl⟩
 ·exact False.elim w
theorem WR.rng2 {G:GI} {E:XK} {ι:List Addr} {Hf:Hp} {a b:D} {os:OS} {Q:List Addr→Hp→Hp→OS→List D × List D→Prop} (w:WR G E ι Hf (I.rngK [a,b] os) Q):∃ i j,a=.int i∧b=.int j:=by
 generalize e:[a,b]=l at w
 unfold I.rngK at w
 split at w
 ·cases e
 ·cases e; exact ⟨_,_,rfl,rfl⟩
 ·cases e
 ·exact False.elim w
theorem Rp.int_of {G:GI} {ι:List Addr} {Hf:Hp} {x:V} {i:Int} (h:Rp G ι Hf x (.int i)):x=.int i:=by cases h; rfl
theorem PE.weak {X:Cx} {e:Expr} {t t':TE} (h:PE X e t) (m:∀ σ H Q,t' σ H Q→t σ H Q):PE X e t':=fun pins s σ H Q I hw=>h pins s σ H Q I (m σ H Q hw)
theorem PT.weak {X:Cx} {e:Expr} {t t':TT} (h:PT X e t) (m:∀ σ H Q,t' σ H Q→t σ H Q):PT X e t':=fun pins s σ H Q I hw=>h pins s σ H Q I (m σ H Q hw)
theorem PW.weak {X:Cx} {e:Expr} {t t':TT} (h:PW X e t) (m:∀ σ H Q,t' σ H Q→t σ H Q):PW X e t':=fun wh pins s σ H Q I hw=>h wh pins s σ H Q I (m σ H Q hw)
theorem PA.weak {X:Cx} {e:List Expr} {t t':TA} (h:PA X e t) (m:∀ σ H Q,t' σ H Q→t σ H Q):PA X e t':=fun pos pins s σ H Q I hw=>h pos pins s σ H Q I (m σ H Q hw)
theorem PS.weak {X:Cx} {e:Stmt} {t t':TS} (h:PS X e t) (m:∀ D σ H,t' D σ H→t D σ H):PS X e t':=fun pins s σ H D I hw=>h pins s σ H D I (m D σ H hw)
theorem PSs.weak {X:Cx} {e:List Stmt} {t t':TS} (h:PSs X e t) (m:∀ D σ H,t' D σ H→t D σ H):PSs X e t':=fun pins s σ H D I hw=>h pins s σ H D I (m D σ H hw)
theorem PI.weak {X:Cx} {tg e:Expr} {t t':TI} (h:PI X tg e t) (m:∀ σ H R,t' σ H R→t σ H R):PI X tg e t':=fun pins s σ H R I hw=>h pins s σ H R I (m σ H R hw)
theorem PG.weak {X:Cx} {tg:Expr} {t t':TG} (h:PG X tg t) (m:∀ v σ H Q,t' v σ H Q→t v σ H Q):PG X tg t':=fun pins s σ H v u Q I r hw=>h pins s σ H v u Q I r (m v σ H Q hw)
theorem OpR.or {X:Cx} {f:Value→Value→Sem Value} {r r':R2} (h:OpR X f r) (h':OpR X f r'):OpR X f (fun x y H Q=>r x y H Q∨r' x y H Q):=by
 intro pins s σ H x y v u Q I rx ry q
 rcases q with q | q
 ·exact h pins s σ H x y v u Q I rx ry q
 ·exact h' pins s σ H x y v u Q I rx ry q
section
variable (G:GI) (E:XK) (P:I.Pg) (KO:I.Orc) (W:Nat)
noncomputable def T (e:I.E):TE:=fun σ H Q=>∃ ι Hf ρ os,Rel G ι Hf H os∧Rf G ι Hf σ ρ∧WR G E ι Hf (I.ev P KO e ρ os) (fun ι' Hf' H' _ d=>∀ v,Rp G ι' Hf' v d→Q v H')
noncomputable def TF (e:I.E):TE:=fun σ H Q=>∃ ι Hf ρ os,Rel G ι Hf H os∧Rf G ι Hf σ ρ∧WR G E ι Hf (I.ev P KO e ρ os) (fun ι' Hf' H' _ d=>∃ xs,d=.lst xs∧∀ vs p,Rps G ι' Hf' vs xs→vs.length≤sizeLine→H' p=none→Q (.ref p) (upd H' p (.lst vs)))
noncomputable def Ts (es:I.Es):TA:=fun σ H Q=>∃ ι Hf ρ os,Rel G ι Hf H os∧Rf G ι Hf σ ρ∧WR G E ι Hf (I.evs P KO es ρ os) (fun ι' Hf' H' _ ds=>∀ vs,Rps G ι' Hf' vs ds→Q vs H')
noncomputable def TCo (c:I.C):TT:=fun σ H Q=>∃ ι Hf ρ os,Rel G ι Hf H os∧Rf G ι Hf σ ρ∧WR G E ι Hf (I.evC P KO c ρ os) (fun _ _ H' _ b=>Q b H')
noncomputable def JOk (J:It) (ι:List Addr) (Hf:Hp) (os:OS) (d:List D) (xs:List D):Prop :=
 ∀ (i:Nat) ι' Hf' H' os',Ext ι Hf ι' Hf'→Rel G ι' Hf' H' os'→I.stay os d os' →
  (∀ x,xs[i]?=some x→J.go i H'∧∀ v H'',J.yld i H' v H''→∃ Hf'',Ext ι' Hf' ι' Hf''∧Rel G ι' Hf'' H'' os'∧Rp G ι' Hf'' v x)∧(xs[i]?=none→i=xs.length→J.stop i H')
noncomputable def TIr (it:I.It):TI:=fun σ H R=>∃ ι Hf ρ os,Rel G ι Hf H os∧Rf G ι Hf σ ρ∧WR G E ι Hf (I.evI P KO it ρ os) (fun ι' Hf' H' os' q=>∀ J,JOk G J ι' Hf' os' q.1 q.2→R J H')
noncomputable def TTg (t:I.Tg):TG:=fun v σ H Q=>∃ ι Hf ρ os d,Rel G ι Hf H os∧Rf G ι Hf σ ρ∧Rp G ι Hf v d∧∃ ρ',I.bindT t d ρ=some ρ'∧∀ σ',Rf G ι Hf σ' ρ'→Q σ' H
noncomputable def WS (D:Ends):List Addr→Hp→Hp→OS→I.Flow × Fr→Prop
 | ι,Hf,H,_,(.nx,ρ)=>∀ σ,Rf G ι Hf σ ρ→D.nx σ H
 | ι,Hf,H,_,(.bk,ρ)=>∀ σ,Rf G ι Hf σ ρ→D.bk σ H
 | ι,Hf,H,_,(.ct,ρ)=>∀ σ,Rf G ι Hf σ ρ→D.ct σ H
 | ι,Hf,H,_,(.rt d,_)=>∀ v,Rp G ι Hf v d→D.rt v H
noncomputable def TSt (s:I.S):TS:=fun D σ H=>∃ ι Hf ρ os,Rel G ι Hf H os∧Rf G ι Hf σ ρ∧WR G E ι Hf (I.exec P KO W s ρ os) (WS G D)
noncomputable def TSts (s:I.Ss):TS:=fun D σ H=>∃ ι Hf ρ os,Rel G ι Hf H os∧Rf G ι Hf σ ρ∧WR G E ι Hf (I.execs P KO W s ρ os) (WS G D)
end
section
variable {G:GI} {E:XK} {P:I.Pg} {KO:I.Orc} {W:Nat} {X:Cx} {ι:List Addr} {Hf H:Hp} {os:OS} {σ:St} {ρ:Fr}
theorem T.use {e:I.E} {Q:VK} {Q0:List Addr→Hp→Hp→OS→D→Prop} (rel:Rel G ι Hf H os) (rf:Rf G ι Hf σ ρ) (w:WR G E ι Hf (I.ev P KO e ρ os) Q0)
  (h:∀ ι' Hf' H' os' d v,Ext ι Hf ι' Hf'→Rel G ι' Hf' H' os'→Rf G ι' Hf' σ ρ→Rp G ι' Hf' v d→Q0 ι' Hf' H' os' d→Q v H'):T G E P KO e σ H Q :=
 ⟨ι,Hf,ρ,os,rel,rf,w.mono fun ι' Hf' H' os' d x r q v hv=>h ι' Hf' H' os' d v x r (rf.ext x) hv q⟩
theorem Ts.use {es:I.Es} {Q:List V→Hp→Prop} {Q0:List Addr→Hp→Hp→OS→List D→Prop} (rel:Rel G ι Hf H os) (rf:Rf G ι Hf σ ρ) (w:WR G E ι Hf (I.evs P KO es ρ os) Q0)
  (h:∀ ι' Hf' H' os' ds vs,Ext ι Hf ι' Hf'→Rel G ι' Hf' H' os'→Rf G ι' Hf' σ ρ→Rps G ι' Hf' vs ds→Q0 ι' Hf' H' os' ds→Q vs H'):Ts G E P KO es σ H Q :=
 ⟨ι,Hf,ρ,os,rel,rf,w.mono fun ι' Hf' H' os' d x r q v hv=>h ι' Hf' H' os' d v x r (rf.ext x) hv q⟩
theorem TCo.use {c:I.C} {Q:Bool→Hp→Prop} {Q0:List Addr→Hp→Hp→OS→Bool→Prop} (rel:Rel G ι Hf H os) (rf:Rf G ι Hf σ ρ) (w:WR G E ι Hf (I.evC P KO c ρ os) Q0)
  (h:∀ ι' Hf' H' os' b,Ext ι Hf ι' Hf'→Rel G ι' Hf' H' os'→Rf G ι' Hf' σ ρ→Q0 ι' Hf' H' os' b→Q b H'):TCo G E P KO c σ H Q :=
 ⟨ι,Hf,ρ,os,rel,rf,w.mono fun ι' Hf' H' os' d x r q=>h ι' Hf' H' os' d x r (rf.ext x) q⟩
theorem one {a:I.E} {Q:List Addr→Hp→Hp→OS→List D→Prop} (w:WR G E ι Hf (I.evs P KO (.cons a .nil) ρ os) Q):WR G E ι Hf (I.ev P KO a ρ os) (fun ι1 Hf1 H1 os1 d1=>Q ι1 Hf1 H1 os1 [d1]) :=
 (WR.bind (k:=⟨_⟩) w).mono fun _ _ _ _ _ _ r q=>WR.now (WR.now (WR.bind (k:=⟨_⟩) q) r) r
theorem two {a b:I.E} {Q:List Addr→Hp→Hp→OS→List D→Prop} (w:WR G E ι Hf (I.evs P KO (.cons a (.cons b .nil)) ρ os) Q):WR G E ι Hf (I.ev P KO a ρ os) (fun ι1 Hf1 _ os1 d1=>WR G E ι1 Hf1 (I.ev P KO b ρ os1) (fun ι2 Hf2 H2 os2 d2=>Q ι2 Hf2 H2 os2 [d1,d2])) :=
 (WR.bind (k:=⟨_⟩) w).mono fun _ _ _ _ _ _ _ q=>(one (WR.bind (k:=⟨_⟩) q)).mono fun _ _ _ _ _ _ r q=>q.now r
theorem three {a b c:I.E} {Q:List Addr→Hp→Hp→OS→List D→Prop} (w:WR G E ι Hf (I.evs P KO (.cons a (.cons b (.cons c .nil))) ρ os) Q):WR G E ι Hf (I.ev P KO a ρ os) (fun ι1 Hf1 _ os1 d1=>WR G E ι1 Hf1 (I.ev P KO b ρ os1) (fun ι2 Hf2 _ os2 d2=>WR G E ι2 Hf2 (I.ev P KO c ρ os2) (fun ι3 Hf3 H3 os3 d3=>Q ι3 Hf3 H3 os3 [d1,d2,d3]))) :=
 (WR.bind (k:=⟨_⟩) w).mono fun _ _ _ _ _ _ _ q=>(two (WR.bind (k:=⟨_⟩) q)).mono fun _ _ _ _ _ _ _ q=>q.mono fun _ _ _ _ _ _ r q=>q.now r
theorem s_nil:PA X [] (Ts G E P KO .nil):=PA.weak pa_nil fun σ H Q ⟨ι,Hf,ρ,os,rel,rf,w⟩=>w.now rel [] .nil
theorem s_cons {a:I.E} {as:I.Es} {e:Expr} {es:List Expr} (ha:PE X e (T G E P KO a)) (hr:PA X es (Ts G E P KO as)) (hs:starEach (e::es) X.env=(false,eval e X.env)::starEach es X.env):PA X (e::es) (Ts G E P KO (.cons a as)) :=
 PA.weak (pa_cons ha hr hs) fun σ H Q ⟨ι,Hf,ρ,os,rel,rf,w⟩ =>
  T.use rel rf (WR.bind (k:=⟨_⟩) w) fun ι1 Hf1 H1 os1 d v x1 r1 f1 hv q =>
   Ts.use r1 f1 (WR.bind (k:=⟨_⟩) q) fun ι2 Hf2 H2 os2 ds vs x2 r2 f2 hvs q2=>q2.now r2 (v::vs) (.cons (hv.ext x2) hvs)
noncomputable def VR2 (G:GI) (E:XK) (p:I.Pr) (r:R2):Prop:=∀ ι Hf H os x y dx dy (Q:VK),Rel G ι Hf H os→Rp G ι Hf x dx→Rp G ι Hf y dy →
 WR G E ι Hf (I.pr p [dx,dy] os) (fun ι' Hf' H' _ d=>∀ v,Rp G ι' Hf' v d→Q v H')→r x y H Q
noncomputable def VR2F (G:GI) (E:XK) (p:I.Pr) (r:R2):Prop:=∀ ι Hf H os x y dx dy (Q:VK),Rel G ι Hf H os→Rp G ι Hf x dx→Rp G ι Hf y dy →
 WR G E ι Hf (I.pr p [dx,dy] os) (fun ι' Hf' H' _ d=>∃ xs,d=.lst xs∧∀ vs p,Rps G ι' Hf' vs xs→vs.length≤sizeLine→H' p=none→Q (.ref p) (upd H' p (.lst vs)))→r x y H Q
noncomputable def VR1 (G:GI) (E:XK) (p:I.Pr) (r:V→Hp→VK→Prop):Prop:=∀ ι Hf H os x dx (Q:VK),Rel G ι Hf H os→Rp G ι Hf x dx →
 WR G E ι Hf (I.pr p [dx] os) (fun ι' Hf' H' _ d=>∀ v,Rp G ι' Hf' v d→Q v H')→r x H Q
noncomputable def VRs (G:GI) (E:XK) (p:I.Pr) (r:List V→Hp→VK→Prop):Prop:=∀ ι Hf H os xs ds (Q:VK),Rel G ι Hf H os→Rps G ι Hf xs ds →
 WR G E ι Hf (I.pr p ds os) (fun ι' Hf' H' _ d=>∀ v,Rp G ι' Hf' v d→Q v H')→r xs H Q
theorem t_op {r:R2} {p:I.Pr} {a b:I.E} (hv:VR2 G E p r) (σ:St) (H:Hp) (Q:VK) (h:T G E P KO (.pr p (.cons a (.cons b .nil))) σ H Q):tOp r (T G E P KO a) (T G E P KO b) σ H Q:=by
 obtain ⟨ι,Hf,ρ,os,rel,rf,w⟩:=h
 exact T.use rel rf (two (WR.bind (k:=⟨_⟩) w)) fun ι1 Hf1 H1 os1 d1 v1 x1 r1 f1 hv1 q1 =>
  T.use r1 f1 q1 fun ι2 Hf2 H2 os2 d2 v2 x2 r2 f2 hv2 q2=>hv ι2 Hf2 H2 os2 v1 v2 d1 d2 Q r2 (hv1.ext x2) hv2 q2
theorem t_opF {r:R2} {p:I.Pr} {a b:I.E} (hv:VR2F G E p r) (σ:St) (H:Hp) (Q:VK) (h:TF G E P KO (.pr p (.cons a (.cons b .nil))) σ H Q):tOp r (T G E P KO a) (T G E P KO b) σ H Q:=by
 obtain ⟨ι,Hf,ρ,os,rel,rf,w⟩:=h
 exact T.use rel rf (two (WR.bind (k:=⟨_⟩) w)) fun ι1 Hf1 H1 os1 d1 v1 x1 r1 f1 hv1 q1 =>
  T.use r1 f1 q1 fun ι2 Hf2 H2 os2 d2 v2 x2 r2 f2 hv2 q2=>hv ι2 Hf2 H2 os2 v1 v2 d1 d2 Q r2 (hv1.ext x2) hv2 q2
theorem t_un {r:V→Hp→VK→Prop} {p:I.Pr} {a:I.E} (hv:VR1 G E p r) (σ:St) (H:Hp) (Q:VK) (h:T G E P KO (.pr p (.cons a .nil)) σ H Q):tUn r (T G E P KO a) σ H Q:=by
 obtain ⟨ι,Hf,ρ,os,rel,rf,w⟩:=h
 exact T.use rel rf (one (WR.bind (k:=⟨_⟩) w)) fun ι1 Hf1 H1 os1 d1 v1 x1 r1 f1 hv1 q1=>hv ι1 Hf1 H1 os1 v1 d1 Q r1 hv1 q1
theorem t_cb {r:List V→Hp→VK→Prop} {p:I.Pr} {es:I.Es} (hv:VRs G E p r) (σ:St) (H:Hp) (Q:VK) (h:T G E P KO (.pr p es) σ H Q):tCB r (Ts G E P KO es) σ H Q:=by
 obtain ⟨ι,Hf,ρ,os,rel,rf,w⟩:=h
 exact Ts.use rel rf (WR.bind (k:=⟨_⟩) w) fun ι1 Hf1 H1 os1 ds vs x1 r1 f1 hv1 q1=>hv ι1 Hf1 H1 os1 vs ds Q r1 hv1 q1
theorem t_froze {e:I.E} (hd:∀ ρ os d os',I.ev P KO e ρ os=.ok d os'→∃ xs,d=.lst xs) (σ:St) (H:Hp) (Q:VK) (h:T G E P KO e σ H Q):TF G E P KO e σ H Q:=by
 obtain ⟨ι,Hf,ρ,os,rel,rf,w⟩:=h
 refine ⟨ι,Hf,ρ,os,rel,rf,?_⟩
 cases e1:I.ev P KO e ρ os with
 | stk=>rw [e1] at w; exact w
 | exc c p os'=>rw [e1] at w; exact w
 | ok d os' =>
  rw [e1] at w
  obtain ⟨xs,rfl⟩:=hd ρ os d os' e1
  intro ι' Hf' H' x r
  refine ⟨xs,rfl,fun vs p hvs hz hp => ?_⟩
  obtain ⟨x2,r2⟩:=r.froze (o:=.lst vs) hp
  exact w ι' (upd Hf' p (.lst vs)) (upd H' p (.lst vs)) (x.trans x2) r2 (.ref p) (.lst upd_same hz (hvs.ext x2))
theorem t_cell {e:I.E} (σ:St) (H:Hp) (Q:VK) (h:T G E P KO (.cell e) σ H Q):TF G E P KO e σ H Q:=by
 obtain ⟨ι,Hf,ρ,os,rel,rf,w⟩:=h
 refine ⟨ι,Hf,ρ,os,rel,rf,?_⟩
 have w':=WR.bind (k:=⟨_⟩) w
 refine w'.mono fun ι' Hf' H' os' d x r q => ?_
 cases d with
 | lst xs =>
  refine ⟨xs,rfl,fun vs p hvs hz hp => ?_⟩
  have x2:Ext ι' Hf' (ι'++[p]) Hf':=⟨List.prefix_append _ _,Same.refl _⟩
  obtain ⟨_,r2⟩:=r.newC (o:=.lst vs) (c:=.lst xs) hp ⟨vs,upd_same,hz,hvs.ext x2⟩
  exact (show WR G E ι' Hf' (.ok (D.cel os'.length) (os'++[some (.lst xs)])) _ from q) (ι'++[p]) Hf' (upd H' p (.lst vs)) x2 r2 (.ref p) (.cel (by rw [← r.len]; simp))
 | _=>exact False.elim q
end
end IS
namespace L2
open PySem PySem.Spec PyProof.Rows
theorem setFlight_someW {M:Model} {A:Around} {E:Value→Shared→Prop} {s:Shared} {base:Heap} {l:List Env} {e L:Addr} {cls a0 fl:Value} {Q:Unit→Shared→Prop}
  (hkb:base.StaysIn s.heap) (hl:s.heap.FunFrames base l) (ht:s.heap.TracedAtW base e cls a0 fl)
  (h:∀ h',base.StaysIn h'→h'.FunFrames base l→h'.TracedAtW base e cls a0 (rawInt L)→(∀ b o,s.heap.get? b=some o→(∀ vs,o.data≠.fields vs)→h'.get? b=some o)→Q () { s with heap:=h' }) :
  wpAny M A (setFlight (.ref e) (some L)) Q E s:=by
 obtain ⟨oe,vs,T,oT,ts,he,hcls,hd,h1,hnT,hTe,hT,hdT,h3⟩:=ht
 have hsz3:3<ts.size:=(Array.getElem?_eq_some_iff.mp h3).1
 have other:∀ b,b≠T→(s.heap.update T (Obj.mapFields (·.setIfInBounds 3 ((some L).elim Value.none fun f=>rawInt f)))).get? b=s.heap.get? b :=
  fun b hb=>Heap.get?_update_other _ _ (Ne.symm hb)
 have noRecord:∀ b o,s.heap.get? b=some o→(∀ vs,o.data≠.fields vs)→b≠T:=fun b o hb hnf q=>by
  rw [q,hT] at hb; injection hb with hb; subst hb; exact hnf ts hdT
 unfold setFlight
 refine wpAny_bind (wpAny_field he hd h1 ?_)
 rw [if_pos (show (Value.ref T != Value.none)=true from by simp)]
 refine wpAny_setField hT hdT hsz3 (h _ (fun b o hbo=>(other b fun q=>by rw [q,hnT] at hbo; cases hbo).trans (hkb b o hbo))
  (hl.of_keeps fun b o hb hnf=>⟨o,(other b (noRecord b o hb hnf)).trans hb,rfl⟩) ?_ fun b o hb hnf=>(other b (noRecord b o hb hnf)).trans hb)
 exact ⟨oe,vs,T,_,_,(other e (Ne.symm hTe)).trans he,hcls,hd,h1,hnT,hTe,Heap.get?_update_self _ hT (Obj.isFreed_of_fields (Obj.data_mapFields hdT _)),Obj.data_mapFields hdT _,by simp [hsz3]⟩
theorem passOn_W {M:Model} {A:Around} {E:Value→Shared→Prop} {s:Shared} {base:Heap} {l:List Env} {e L:Addr} {cls a0:Value} {what:String} {env:Env} (hf:env.frame=some L) (hh:Heap.HeldW base l e cls a0 L s.heap)
  (h:∀ h',Heap.HeldW base l e cls a0 L h'→(∀ b o,s.heap.get? b=some o→(∀ vs,o.data≠.fields vs)→h'.get? b=some o)→E (.ref e) { s with heap:=h' }) :
  wpAny M A (PySem.passOn what (.ref e) env:Sem Value) (fun _ _=>False) E s:=by
 obtain ⟨k1,k2,k3,k4⟩:=hh
 obtain ⟨oe,vs,T,oT,ts,he,hcls,hd,h1,hnT,hTe,hT,hdT,h3⟩:=id k4
 unfold PySem.passOn
 refine wpAny_bind (wpAny_field he hd h1 ?_)
 rw [if_neg (show ¬ ((Value.ref T == Value.none)=true) from by simp)]
 refine wpAny_bind ?_
 rw [hf]
 exact setFlight_someW k1 k3 k4 fun h' x1 x2 x3 x4=>wpAny_throw (h h' ⟨x1,k2,x2,x3⟩ x4)
structure Hls (X:Cx) (H':Hp) (s':Shared) (a:Addr) (cls a0:Value) (B:Heap):Prop where
 os:s'.os=X.s₀.os
 bare:AllBare s'.gens
 un:Un X.fs [] X.H₀ H' X.s₀.heap s'.heap
 hok:HOk X.prog X.w H' s'.heap
 held:Heap.HeldW B X.stack a cls a0 X.env.locals s'.heap
 trk:∀ b u,H' b=some u→∃ o,B.get? b=some o
 old:∀ b o,X.s₀.heap.get? b=some o→b ∉ X.fs→X.H₀ b=none→B.get? b=some o
 all:∀ b o,X.s₀.heap.get? b=some o→b ∉ X.fs→∃ o',B.get? b=some o'
noncomputable def PassH (X:Cx) (E:XK):Prop:=(∀ cls o H,¬ E cls o H)∨(X.ex=[]∧X.stack=X.env::X.outer∧X.env.frame=some X.env.locals∧∀ (a:Addr) (s':Shared) (cls a0:Value) (B:Heap) (H':Hp),Hls X H' s' a cls a0 B→E cls none H'→X.xe (.ref a) s')
theorem passH0 {X:Cx}:PassH X E0:=.inl fun _ _ _ h=>h
theorem Hls.move {X:Cx} {H':Hp} {s':Shared} {a:Addr} {cls a0:Value} {B h':Heap} (F:Hls X H' s' a cls a0 B) (hs:X.stack=X.env::X.outer) (fly:Heap.FlyingW B X.outer a cls a0 h') (sm:s'.heap.UpToSlots h'):Fls X.prog X.w X.fs X.outer X.H₀ H' X.s₀ { s' with heap:=h' } a cls a0 B:=by
 have hl:s'.heap.FunFrames B X.outer:=by
  have:=F.held.2.2.1
  rw [hs] at this
  exact this.2.2
 refine ⟨F.os,F.bare,⟨fun b o q n hb _=>fly.1 b o (F.old b o q hb n),fun b o q n hb hx => ?_,F.un.free,fun b o q hx => ?_,F.un.tups,F.un.frzs,F.un.tbls⟩,hok_stays F.hok F.trk F.held.1 fly.1,fly,F.trk,F.old,F.all⟩
 ·obtain ⟨sl,e1⟩:=F.un.slot b o q n hb hx
  obtain ⟨_,o',e2,nf⟩:=hl.mem hb
  rw [e1] at e2
  cases e2
  obtain ⟨sl',e3⟩:=sm b _ e1 nf
  exact ⟨sl',e3⟩
 ·by_cases hb:b∈X.fs
  ·obtain ⟨_,o',e2,nf⟩:=hl.mem hb
   obtain ⟨sl',e3⟩:=sm b _ e2 nf
   exact ⟨_,e3⟩
  ·obtain ⟨o',e⟩:=F.all b o q hb
   exact ⟨o',fly.1 b o' e⟩
section
variable {P:Program} {w:World} {K:PySem.W.Frag} {mg:Str→Option Value} {base:Heap} {N:List Str} {qual:Str} {scope:Scope} {f:Addr} {cd:Value} {A:Around} {outer:List Env} {s₀:Shared} {H₀:Hp} {E:XK}
theorem passH:PassH (cxOf (CXE P w) P w K mg base N qual scope f cd A outer s₀ H₀ E) E:=by
 refine .inr ⟨rfl,rfl,rfl,fun a s' cls a0 B H' F q => ?_⟩
 show wpAny (model P w) (cxOf (CXE P w) P w K mg base N qual scope f cd A outer s₀ H₀ E).A (leaving (cxOf (CXE P w) P w K mg base N qual scope f cd A outer s₀ H₀ E).env (.ref a)) _ _ s'
 unfold leaving
 refine wpAny_bind (wpAny_noteFrame_againW rfl F.held.2.2.2 ?_)
 refine wpAny_landsW F.held fun h' x1 x2 => ?_
 obtain ⟨y1,y2,y3,y4⟩:=x1
 exact ⟨a,cls,a0,B,H',rfl,F.move rfl ⟨y1,y2,y3.2.2,y4⟩ x2,q⟩
end
section
variable {M:Model} {A:Around} {E:Value→Shared→Prop} {s:Shared} {env:Env}
noncomputable def compPostE (M:Model) (A:Around) (E:Value→Shared→Prop) (Q:Value→Shared→Prop) (acc:Value) (cenv:Env) (r:Result) (s':Shared):Prop :=
 match r with
 | .ok _=>∃ m,s'.heap.Ns cenv.locals m∧∀ h',Heap.SameBut cenv.locals s'.heap h'→Q acc { s' with heap:=h' }
 | .error x=>∃ m,s'.heap.Ns cenv.locals m∧∀ h',Heap.SameBut cenv.locals s'.heap h'→wpAny M A (PySem.passOn "comprehension.variables-let-go" x cenv:Sem Value) (fun _ _=>False) E { s' with heap:=h' }
theorem wpAny_comprehension_freeE {e:Expr} {scope:Scope} {pos:Pos} {newAcc first:Sem Value} {g:Comprehension} {gs:List Comprehension} {cl:List (Str × Addr)} {Q:Value→Shared→Prop}
  (hcl:clausesOf e=g::gs) (hs:∀ x,foldedSetIterable g.iter env x=pure x) (hclos:closureFor scope env=pure cl)
  (hkind:scope.kind=.function) (hnames:∀ x∈scope.names,x.2=.local→scope.names.lookup x.1=some .local)
  (h:wpAny M A first (fun x s₁=>wpAny M A (pyIter x) (fun it s₂=>wpAny M A newAcc (fun acc s₃ =>
   wpAny M A (newFunctionEnv scope env.globals cl [] env.qual none .none (some env)) (fun cenv s₄ =>
    codeAny M A (.compStart e 0 it acc { cenv with scope:=relabel scope env }) (compPostE M A E Q acc { cenv with scope:=relabel scope env }) s₄) E s₃) E s₂) E s₁) E s) :
  wpAny M A (comprehension e scope env pos newAcc false first none) Q E s:=by
 unfold comprehension
 rw [hclos,hcl]
 refine wpAny_bind (wpAny_mono h (fun x s₁ h₁=>wpAny_bind (wpAny_standAt (wpAny_bind (wpAny_of_eq (hs x) (wpAny_bind (wpAny_holding (wpAny_mono h₁ (fun it s₂ h₂ =>
  wpAny_standIf (wpAny_bind (wpAny_mono h₂ (fun acc s₃ h₃=>wpAny_bind (wpAny_pure (wpAny_bind (wpAny_mono h₃ (fun cenv s₄ h₄ => ?_) fun _ _ h'=>h')))) fun _ _ h'=>h')))
   fun _ _ h'=>h'))))))) fun _ _ h'=>h')
 dsimp only
 have hv:∀ x∈(scope.names.filter fun x=>(x.2 == .local||x.2 == .cell)&&x.1 != (".0" : Str)).reverse,x.2=.local →
   Env.kindOf { cenv with scope:=relabel scope env } x.1=some .local:=fun x hx hl=>lookup_relabel_local (hnames x (List.mem_filter.mp (List.mem_reverse.mp hx)).1 hl)
 refine wpAny_holding (wpAny_bind (wpAny_attempt (wpAny_holding (wpAny_run (codeAny_mono h₄ fun r s' hr => ?_)))))
 cases r with
 | ok f =>
  obtain ⟨m,hn,hr⟩:=hr
  exact wpAny_bind (wpAny_holding (wpAny_comp_letGo (cenv:={ cenv with scope:=relabel scope env }) hkind _ s' m hv hn fun h' m' _ hs'=>wpAny_pure (hr h' hs')))
 | error x =>
  obtain ⟨m,hn,hr⟩:=hr
  exact wpAny_bind (wpAny_holding (wpAny_comp_letGo (cenv:={ cenv with scope:=relabel scope env }) hkind _ s' m hv hn fun h' m' _ hs'=>wpAny_mono (hr h' hs') (fun _ _ f=>f.elim) fun _ _ y=>y))
end
theorem compLoop_anyE {prog:Program} {w:World} {A:Around} {R:Result→Shared→Prop} {s:Shared} {elt tg iter:Expr} {ifs:List Expr} {scope:Scope} {pos:Pos} {it acc:Value} {env:Env} (J:Nat→Shared→Prop) {E:Value→Shared→Prop} (hE:∀ x s,E x s→notedBy (model prog w) A env (fun x s'=>R (.error x) s') x s)
  (turn:∀ n s,J n s→wpAny (model prog w) A (pyNext it) (fun r s1=>match r with
   | none=>R (.ok .next) s1
   | some v=>wpAny (model prog w) A (letOwnedTupleGo tg it v) (fun _ s2=>wpAny (model prog w) A (assign tg env v) (fun _ s3 =>
     wpAny (model prog w) A (forIn ifs true fun c r=>if r=true then do let ok ← isTrue c env (eval c env); pure (ForInStep.yield ok) else pure (ForInStep.yield r)) (fun ok s4 =>
      if ok=true then wpAny (model prog w) A (eval elt env) (fun x s5=>wpAny (model prog w) A (call (.builtin "list.append") [acc,x]) (fun _ s6=>∃ m,m<n∧J m s6) E s5) E s4
      else ∃ m,m<n∧J m s4) E s3) E s2) E s1) E s)
  (n:Nat) (h:J n s):codeAny (model prog w) A (.compLoop (.ListComp elt [⟨tg,iter,ifs,0⟩] scope pos) 0 it acc env) R s:=by
 refine codeAny_loop rfl J (fun n s hJ => ?_) n h
 show wpAny _ A ((compTurn (.ListComp elt [⟨tg,iter,ifs,0⟩] scope pos) 0 it acc env).onRaise (fun x=>do noteFrame x env; theTreesLotGoes x)) _ _ s
 refine wpAny_noted (wpAny_mono (E:=E) ?_ (fun _ _ q=>q) hE)
 rw [compTurn_list]
 refine wpAny_bind (wpAny_standAt (wpAny_bind (thn (turn n s hJ) fun r s1 h1 => ?_)))
 cases r with
 | none=>exact wpAny_pure h1
 | some v =>
  refine wpAny_bind (thn h1 fun _ s2 h2=>wpAny_bind (thn h2 fun _ s3 h3=>wpAny_bind (thn h3 fun ok s4 h4 => ?_)))
  cases ok with
  | false=>exact wpAny_pure ⟨rfl,h4⟩
  | true=>exact wpAny_bind (wpAny_bind (thn h4 fun x s5 h5=>wpAny_bind (thn h5 fun _ s6 h6=>wpAny_pure (wpAny_pure ⟨rfl,h6⟩))))
theorem Hls.to {X:Cx} {H':Hp} {s':Shared} {a:Addr} {cls a0:Value} {B h':Heap} (F:Hls X H' s' a cls a0 B) (hs:X.stack=X.env::X.outer) (held:Heap.HeldW B X.stack a cls a0 X.env.locals h') (sm:s'.heap.UpToSlots h'):Hls X H' { s' with heap:=h' } a cls a0 B:=by
 have hl:s'.heap.FunFrames B X.outer:=by
  have:=F.held.2.2.1
  rw [hs] at this
  exact this.2.2
 refine ⟨F.os,F.bare,⟨fun b o q n hb _=>held.1 b o (F.old b o q hb n),fun b o q n hb hx => ?_,F.un.free,fun b o q hx => ?_,F.un.tups,F.un.frzs,F.un.tbls⟩,hok_stays F.hok F.trk F.held.1 held.1,held,F.trk,F.old,F.all⟩
 ·obtain ⟨sl,e1⟩:=F.un.slot b o q n hb hx
  obtain ⟨_,o',e2,nf⟩:=hl.mem hb
  rw [e1] at e2
  cases e2
  obtain ⟨sl',e3⟩:=sm b _ e1 nf
  exact ⟨sl',e3⟩
 ·by_cases hb:b∈X.fs
  ·obtain ⟨_,o',e2,nf⟩:=hl.mem hb
   obtain ⟨sl',e3⟩:=sm b _ e2 nf
   exact ⟨_,e3⟩
  ·obtain ⟨o',e⟩:=F.all b o q hb
   exact ⟨o',held.1 b o' e⟩
theorem ff_hide {h h' B:Heap} {C:Addr} (sb:Heap.SameBut C h h'):∀ {l:List Env},h.FunFrames B l→(∀ env∈l,∀ a,env.frame=some a→a≠C)→h'.FunFrames (PySem.W.hideAll B [C]) l
 | [],_,_=>trivial
 | env::_,⟨hk,⟨L,o,hf,hn,ho,hd⟩,hr⟩,hne=>⟨hk,⟨L,o,hf,(by
   cases e:(PySem.W.hideAll B [C]).get? L with
   | none=>rfl
   | some o'=>rw [PySem.W.of_hideAll _ e] at hn; cases hn),(sb.2 L (hne env (.head _) L hf)).trans ho,hd⟩,ff_hide sb hr fun e he=>hne e (.tail _ he)⟩
noncomputable abbrev Cx.compE (X:Cx) (EK:XK) (scope:Scope) (N':List Str) (fp:List Addr) (s2:Shared) (H2:Hp) (C:Addr):Cx :=
 { X.comp scope N' fp s2 H2 C with xe:=fun e s'=>∃ pins τ H s,Inv (X.comp scope N' fp s2 H2 C) pins τ H s∧CXE X.prog X.w X.stack H s EK e s' }
section
variable {X:Cx} {tg:Expr}
theorem Cx.Ok.compE {EK:XK} {scope:Scope} {N':List Str} {fp:List Addr} {s2:Shared} {H2:Hp} {C:Addr} (ok:(X.comp scope N' fp s2 H2 C).Ok):(X.compE EK scope N' fp s2 H2 C).Ok :=
 ⟨ok.mod,ok.kind,ok.glob,ok.blt,ok.above,ok.inj,ok.has,ok.cab,ok.hd,ok.frames,ok.stk,ok.exf,ok.bs,ok.bsz,ok.noex,ok.exfs,ok.funs,ok.frf⟩
theorem Cx.Ok.compO {EK:XK} {scope:Scope} {N':List Str} {fp:List Addr} {s2:Shared} {H2:Hp} {C:Addr} (ok:(X.compE EK scope N' fp s2 H2 C).Ok):(X.comp scope N' fp s2 H2 C).Ok :=
 ⟨ok.mod,ok.kind,ok.glob,ok.blt,ok.above,ok.inj,ok.has,ok.cab,ok.hd,ok.frames,ok.stk,ok.exf,ok.bs,ok.bsz,ok.noex,ok.exfs,ok.funs,ok.frf⟩
theorem passC {EK:XK} {scope:Scope} {N':List Str} {fp:List Addr} {s2:Shared} {H2:Hp} {C:Addr}:Passes (CXE X.prog X.w) (X.compE EK scope N' fp s2 H2 C) EK:=fun pins σ H s e s' I h =>
 ⟨pins,σ,H,s,I.ctx I.ok.compO rfl rfl rfl rfl rfl rfl rfl rfl I.pin,h⟩
noncomputable def XOut (X:Cx) (EK:XK) (x:Value) (s':Shared) (C:Addr):Prop:=(∃ m,s'.heap.Ns C m)∧∀ h',Heap.SameBut C s'.heap h'→∃ a cls a0 B H',x=.ref a∧EK cls none H'∧Hls X H' { s' with heap:=h' } a cls a0 B
theorem comp_out {EK:XK} {scope:Scope} {N':List Str} {fp:List Addr} {s2 s7 s':Shared} {H2 H7 H':Hp} {C a:Addr} {cls a0:Value} {B:Heap} {pins pins':List (Addr × Obj)} {σ τ:St} {Q:Unit→Shared→Prop} {E:Value→Shared→Prop} {clo:List (Str × Addr)}
  (hex:X.ex=[]) (hs:X.stack=X.env::X.outer) (hf:X.env.frame=some X.env.locals) (I2:Inv X pins σ H2 s2) (f2:∀ b∈fp,FpOk X pins H2 b) (hC:s2.heap.objs.size≤C) (I7:Inv (X.comp scope N' fp s2 H2 C) pins' τ H7 s7)
  (F:Fls X.prog X.w (frs X.stack) X.stack H7 H' s7 s' a cls a0 B) (q:EK cls none H') (hQ:∀ s'',XOut X EK (.ref a) s'' C→Q () s''):wpAny (model X.prog X.w) X.A (noteFrame (.ref a) (compEnvC scope clo C X.env)) Q E s':=by
 have I7':Inv X pins σ H7 s7:=I2.call' (ch:=fp) I7.os I7.base I7.hok I7.bare fun b hb=>⟨(f2 b hb).2.2.2.1,(f2 b hb).2.1,(f2 b hb).2.2.2.2⟩
 have F0:=F.out I7' hex hs hf
 have nfr:∀ b∈frs X.stack,b≠C:=fun b hb z=>by
  obtain ⟨_,o,ho,_⟩:=I2.stack.mem hb
  exact absurd (Nat.lt_of_lt_of_le (Heap.lt_size ho) (by rw [z]; exact hC)) (Nat.lt_irrefl _)
 obtain ⟨m7,⟨o7,es,ep,g7,d7,r7⟩,_⟩:=I7.loc
 have n7:H7 C=none:=I7.free
 have g':s'.heap.get? C=some o7:=F.un.keep C o7 g7 n7 (fun z=>nfr C z rfl) (fun z=>nomatch z)
 have n':H' C=none:=F.un.free C o7 g7 n7 (fun z=>nomatch z)
 have ns':s'.heap.Ns C m7:=⟨o7,es,ep,g',d7,r7⟩
 show wpAny (model X.prog X.w) X.A (noteFrame (.ref a) X.env) Q E s'
 have hfr:X.A.frames=some (X.env::X.outer):=by rw [← hs]; exact I2.ok.frames
 have fl0:Heap.FlyingW B (X.env::X.outer) a cls a0 s'.heap:=by rw [← hs]; exact F.fly
 refine wpAny_looks_onW hfr hf fl0 fun h4 held sm=>hQ _ ⟨⟨m7,sm.ns ns'⟩,fun h5 sb => ?_⟩
 obtain ⟨k1,k2,k3,k4⟩:=held
 obtain ⟨o4,es4,ep4,g4,d4,_⟩:=sm.ns ns'
 have ofB:∀ {b o},(PySem.W.hideAll B [C]).get? b=some o→B.get? b=some o∧b≠C:=fun {b o} e=>⟨PySem.W.of_hideAll _ e,fun z=>by rw [PySem.W.hideAll_none _ (by rw [z]; exact .head _)] at e; cases e⟩
 have toB:∀ {b o},B.get? b=some o→b≠C→(PySem.W.hideAll B [C]).get? b=some o:=fun {b o} e n=>PySem.W.hideAll_get _ e (by simpa using n)
 have noB:∀ {b},B.get? b=none→(PySem.W.hideAll B [C]).get? b=none:=fun {b} e=>by
  cases e':(PySem.W.hideAll B [C]).get? b with
  | none=>rfl
  | some o=>rw [(ofB e').1] at e; cases e
 have stay5:(PySem.W.hideAll B [C]).StaysIn h5:=fun b o e=>(sb.2 b (ofB e).2).trans (k1 b o (ofB e).1)
 have stay':(PySem.W.hideAll B [C]).StaysIn s'.heap:=fun b o e=>F0.fly.1 b o (ofB e).1
 have hst:∀ env∈X.stack,∀ b,env.frame=some b→b≠C:=fun env he b hb=>nfr b (List.mem_filterMap.mpr ⟨env,he,hb⟩)
 have s0C:∀ {b o},X.s₀.heap.get? b=some o→b≠C:=fun {b o} e z=>absurd (Nat.lt_of_lt_of_le (Heap.lt_size e) (Nat.le_trans I2.sz (by rw [z]; exact hC))) (Nat.lt_irrefl _)
 have trk:∀ b u,H' b=some u→∃ o,(PySem.W.hideAll B [C]).get? b=some o:=fun b u e=>by
  obtain ⟨o,ho⟩:=F0.trk b u e
  exact ⟨o,toB ho fun z=>by rw [z,n'] at e; cases e⟩
 have held5:Heap.HeldW (PySem.W.hideAll B [C]) X.stack a cls a0 X.env.locals h5:=by
  refine ⟨stay5,noB k2,by rw [hs] at hst ⊢; exact ff_hide sb k3 hst,?_⟩
  obtain ⟨oe,vs,T,oT,ts,he,hcls,hd,h1,hnT,hTe,hT,hdT,h3⟩:=k4
  have nf:∀ {b:Addr} {o:Obj} {vs:Array Value},h4.get? b=some o→o.data=.fields vs→b≠C:=fun {b o vs} e d z=>by
   rw [z,g4] at e
   cases e
   rw [d4] at d
   cases d
  exact ⟨oe,vs,T,oT,ts,(sb.2 a (nf he hd)).trans he,hcls,hd,h1,noB hnT,hTe,(sb.2 T (nf hT hdT)).trans hT,hdT,h3⟩
 have old:∀ b o,X.s₀.heap.get? b=some o→b ∉ X.fs→X.H₀ b=none→(PySem.W.hideAll B [C]).get? b=some o:=fun b o e n1 n2=>toB (F0.old b o e n1 n2) (s0C e)
 have all:∀ b o,X.s₀.heap.get? b=some o→b ∉ X.fs→∃ o',(PySem.W.hideAll B [C]).get? b=some o':=fun b o e n1=>let ⟨o',z⟩:=F0.all b o e n1; ⟨o',toB z (s0C e)⟩
 have hl:s'.heap.FunFrames B X.outer:=by
  have:=F0.fly.2.2.1
  rw [hs] at this
  exact this.2.2
 refine ⟨a,cls,a0,_,H',rfl,q,⟨F0.os,F0.bare,⟨fun b o e n hb _=>stay5 b o (old b o e hb n),fun b o e n hb hx => ?_,F0.un.free,fun b o e hx => ?_,F0.un.tups,F0.un.frzs,F0.un.tbls⟩,hok_stays F0.hok trk stay' stay5,held5,trk,old,all⟩⟩
 ·obtain ⟨sl,e1⟩:=F0.un.slot b o e n hb hx
  obtain ⟨_,o',e2,nf⟩:=hl.mem hb
  rw [e1] at e2
  cases e2
  obtain ⟨sl',e3⟩:=sm b _ e1 nf
  exact ⟨sl',(sb.2 b (s0C e)).trans e3⟩
 ·by_cases hb:b∈X.fs
  ·obtain ⟨_,o',e2,nf⟩:=hl.mem hb
   obtain ⟨sl',e3⟩:=sm b _ e2 nf
   exact ⟨_,(sb.2 b (s0C e)).trans e3⟩
  ·obtain ⟨o',z⟩:=all b o e hb
   exact ⟨o',stay5 b o' z⟩
theorem comp_blockE {EK:XK} (hpH:PassH X EK) {elt iter:Expr} {ifs:List Expr} {scope:Scope} {pos:Pos} {N':List Str} {nl:Nat} {fr:List Nat} {g:TG} {ti:TT} {te:TE} {fin:List V→Hp→Prop} {E:Value→Shared→Prop} {RR:Value→Env→Result→Shared→Prop}
  (hK:CompSc X.env.scope X.N scope N' nl fr) (hc:X.calm=true) (hg:∀ fp s2 H2 C,PG (X.compE EK scope N' fp s2 H2 C) tg g) (ht:∀ fp s2 H2 C,PTs (X.compE EK scope N' fp s2 H2 C) ifs ti) (he:∀ fp s2 H2 C,PE (X.compE EK scope N' fp s2 H2 C) elt te)
  {pins:List (Addr × Obj)} {σ:St} {s2:Shared} {itv:Value}
  (h2:PIE X pins σ tg (fun J H1=>∃ W:Nat→Nat→St→List V→Hp→Prop,(∃ m,W 0 m (inSt nl fr σ) [] H1)∧∀ i m τ vs H,W i m τ vs H →
   vs.length≤sizeLine∧((J.stop i H∧fin vs H)∨(J.go i H∧∀ x H',J.yld i H x H'→g x τ H' fun τ2 H2=>ti τ2 H2 fun b H3 =>
    if b=true then te τ2 H3 fun y H4=>∃ m',m'<m∧W (i+1) m' τ2 (vs++[y]) H4 else ∃ m',m'<m∧W (i+1) m' τ2 vs H3))) itv s2)
  (hRR:∀ (D C:Addr) (s':Shared) (vs:List V) (H':Hp) (m:Str→Option Value),H' D=none→fin vs H'→Inv X pins σ (upd H' D (.lst vs)) s'→s'.heap.Ns C m→FpOk X pins (upd H' D (.lst vs)) C→RR (.ref D) (compEnvC scope (cloOf X.env scope.names []) C X.env) (.ok .next) s')
  (hRE:∀ (D C:Addr) (x:Value) (s':Shared),XOut X EK x s' C→RR (.ref D) (compEnvC scope (cloOf X.env scope.names []) C X.env) (.error x) s') :
  wpAny (model X.prog X.w) X.A (newList []) (fun acc s3=>wpAny (model X.prog X.w) X.A (newFunctionEnv scope X.env.globals (cloOf X.env scope.names []) [] X.env.qual none .none (some X.env)) (fun cenv s4 =>
   codeAny (model X.prog X.w) X.A (.compStart (.ListComp elt [⟨tg,iter,ifs,0⟩] scope pos) 0 itv acc { cenv with scope:=relabel scope X.env }) (RR acc { cenv with scope:=relabel scope X.env }) s4) E s3) E s2:=by
 obtain ⟨it,fp,tn,J,H2,e,I2,T,st2,f2,W,⟨m0,w0⟩,turn⟩:=h2
 subst e
 have fl:∀ b∈fp,b<s2.heap.objs.size:=fun b hb=>by
  obtain ⟨o,e,_⟩:=T.obj _ _ st2 b hb
  exact Heap.lt_size e
 refine wpAny_newObj_type (wpAny_newFunctionEnv hK.cell (fun y hy=>(nomatch hy)) (fun h1 hns1 hsb1 => ?_) hK.kind)
 dsimp only at hns1 hsb1 ⊢
 generalize hP:s2.heap.push { cls:=.type "list",dict:=none,data:=.seq ([]:List Value).toArray }=P1 at hns1 hsb1 ⊢
 have eC:P1.objs.size=s2.heap.objs.size+1:=by rw [← hP,Heap.size_push]
 have hDC:s2.heap.objs.size≠P1.objs.size:=by rw [eC]; exact Nat.ne_of_lt (Nat.lt_succ_self _)
 have hCle:s2.heap.objs.size≤P1.objs.size:=by rw [eC]; exact Nat.le_succ _
 have old:∀ b o,s2.heap.get? b=some o→h1.get? b=some o:=fun b o e =>
  hsb1.extBut b o (by rw [eC]; exact Nat.ne_of_lt (Nat.lt_succ_of_lt (Heap.lt_size e))) (Heap.get?_push_of_some _ (hP ▸ Heap.get?_push_of_some _ e))
 have hacc:h1.get? s2.heap.objs.size=some (lstO []):=hsb1.extBut _ _ hDC (Heap.get?_push_of_some _ (hP ▸ Heap.get?_push_size _ rfl))
 have hDH:H2 s2.heap.objs.size=none:=I2.hok.fresh (Nat.le_refl _)
 generalize hCe:P1.objs.size=C at hns1 hsb1 hDC hCle ⊢
 generalize hDe:s2.heap.objs.size=D at hDC hacc hDH ⊢
 have hDle:s2.heap.objs.size≤D:=by rw [hDe]; exact Nat.le_refl _
 have nfD:∀ b∈fp,b≠D:=fun b hb=>Nat.ne_of_lt (Nat.lt_of_lt_of_le (fl b hb) hDle)
 have I0:Inv (X.comp scope N' fp s2 H2 C) [] (inSt nl fr σ) H2 { s2 with heap:=h1,toks:=s2.toks+([]:List (Str × Value)).length }:=I2.comp hK f2 fl hCle old hns1
 have I1:Inv (X.compE EK scope N' fp s2 H2 C) [] (inSt nl fr σ) H2 { s2 with heap:=h1,toks:=s2.toks+([]:List (Str × Value)).length }:=I0.ctx I0.ok.compE rfl rfl rfl rfl rfl rfl rfl rfl I0.pin
 have hEE:∀ x s,(X.compE EK scope N' fp s2 H2 C).xe x s→notedBy (model X.prog X.w) X.A (compEnvC scope (cloOf X.env scope.names []) C X.env) (fun x s'=>RR (.ref D) (compEnvC scope (cloOf X.env scope.names []) C X.env) (.error x) s') x s:=by
  rintro x s ⟨pins',τ,H7,s7,I7,a,cls,a0,B,H',rfl,F,q⟩
  rcases hpH with h | ⟨hex,hs,hf,_⟩
  ·exact absurd q (h _ _ _)
  ·exact comp_out hex hs hf I2 f2 hCle I7 F q fun s'' z=>hRE D C _ s'' z
 have okX:=I1.ok
 have fpX:∀ {H:Hp} {pl:List (Addr × Obj)},(∀ b∈fp,H b=none)→(∀ p∈pl,∀ b∈fp,p.1≠b)→∀ b∈fp,FpOk (X.compE EK scope N' fp s2 H2 C) pl H b:=fun {H pl} hn hp b hb =>
  ⟨hn b hb,(okX.exf b hb).1,okX.exfs b hb,.inl hb,(okX.exf b hb).2,fun p z=>hp p (by simpa using z) b hb⟩
 have nDs:D ∉ (X.compE EK scope N' fp s2 H2 C).fs:=fun z=>by
  obtain ⟨_,o,ho,_⟩:=I2.stack.mem z
  exact absurd (Nat.lt_of_lt_of_le (Heap.lt_size ho) hDle) (Nat.lt_irrefl _)
 have ndat:∀ (ys:List Value) v,(lstO ys).data≠.cell v:=fun ys v z=>(nomatch z)
 have cnD:∀ x c,(X.compE EK scope N' fp s2 H2 C).env.cells.lookup x=some c→c≠D:=fun x c e z=>by
  obtain ⟨v,q⟩:=I1.cell x c e
  have hfc:=I1.freeC x c e
  obtain ⟨o,ho,hd⟩:=q
  rw [z] at ho
  have ho':h1.get? D=some o:=ho
  rw [hacc] at ho'
  cases ho'
  cases hd
 have pinD:∀ {pl:List (Addr × Obj)} {τ:St} {H:Hp} {s:Shared} {ys:List Value},Inv (X.compE EK scope N' fp s2 H2 C) pl τ H s→H D=none→s.heap.get? D=some (lstO ys)→∀ pl':List (Addr × Obj),(∀ p∈pl',p∈pl)→Inv (X.compE EK scope N' fp s2 H2 C) (pl'++[(D,lstO ys)]) τ H s :=
  fun {pl τ H s ys} I hn hd pl' hsub=>I.pins_of fun p hp=>(List.mem_append.mp hp).elim (fun z=>I.pin p (List.mem_append_right _ (hsub p z))) fun z=>by
   have e:=List.mem_singleton.mp z
   subst e
   exact ⟨hd,hn,hDC,nDs,ndat ys⟩
 have loop:codeAny (model X.prog X.w) X.A (.compLoop (.ListComp elt [⟨tg,iter,ifs,0⟩] scope pos) 0 (.ref it) (.ref D) (compEnvC scope (cloOf X.env scope.names []) C X.env)) (RR (.ref D) (compEnvC scope (cloOf X.env scope.names []) C X.env)) { s2 with heap:=h1,toks:=s2.toks+([]:List (Str × Value)).length }:=by
  refine compLoop_anyE (E:=(X.compE EK scope N' fp s2 H2 C).xe) (hE:=hEE) (fun n s'=>∃ i τ vs ys H',Inv (X.compE EK scope N' fp s2 H2 C) [(D,lstO ys)] τ H' s'∧tn i s'.heap∧(∀ b∈fp,H' b=none)∧Vals vs ys∧W i n τ vs H') ?_ m0
   ⟨0,inSt nl fr σ,[],[],H2,pinD I1 hDH hacc [] (fun _ z=>(nomatch z)),T.keep _ _ _ st2 (fun b hb o e=>old b o e),fun b hb=>(f2 b hb).1,.nil,w0⟩
  rintro n s3 ⟨i,τ,vs,ys,H3,I3,st3,fr3,rv,w3⟩
  obtain ⟨hsz,alt⟩:=turn i n τ vs H3 w3
  have pD3:=I3.pin (D,lstO ys) (by simp)
  have fpo:∀ b∈fp,FpOk (X.compE EK scope N' fp s2 H2 C) [(D,lstO ys)] H3 b:=fpX fr3 fun p hp b hb=>by
   rw [List.mem_singleton.mp hp]
   exact (nfD b hb).symm
  rcases alt with ⟨stop,q⟩ | ⟨go,step⟩
  ·refine thn (T.done (X.compE EK scope N' fp s2 H2 C) rfl rfl rfl hc i [(D,lstO ys)] s3 τ H3 _ I3 fpo st3 stop) fun r s4 ⟨hr,I4⟩ => ?_
   subst hr
   have pD4:=I4.pin (D,lstO ys) (by simp)
   have bs:=I4.base
   have hoD:∀ b u,H3 b=some u→b≠D:=fun b u e=>ne_of_none e pD4.2.1
   have I5:Inv X pins σ (upd H3 D (.lst vs)) s4:=by
    refine I2.call' (ch:=fp) I4.os ⟨bs.keep,bs.slot,fun b o e n hx => ?_,bs.there,fun b xs e => ?_,fun b o u e => ?_,fun b ps e => ?_⟩ (fun b u e => ?_) I4.bare fun b hb=>⟨(f2 b hb).2.2.2.1,(f2 b hb).2.1,(f2 b hb).2.2.2.2⟩
    ·rw [upd_ne (Nat.ne_of_lt (Nat.lt_of_lt_of_le (Heap.lt_size e) hDle))]
     exact bs.free b o e n hx
    ·have z:=bs.tups b xs e
     rw [upd_ne (hoD b _ z)]
     exact z
    ·have z:=bs.frzs b o u e
     rw [upd_ne (hoD b _ z)]
     exact z
    ·obtain ⟨more,z⟩:=bs.tbls b ps e
     refine ⟨more,?_⟩
     rw [upd_ne (hoD b _ z)]
     exact z
    ·by_cases hb:b=D
     ·subst hb
      rw [upd_same] at e
      cases e
      exact ⟨hsz,ys,ys.length,rv,pD4.1⟩
     ·rw [upd_ne hb] at e
      exact (I4.hok b u e).stay (fun _ _ _ q=>q) (fun c q=>by rw [upd_ne (hoD c _ q)]; exact q) fun c xs q=>by rw [upd_ne (hoD c _ q)]; exact q
   obtain ⟨m4,hm4,_⟩:=I4.loc
   exact hRR D C s4 vs H3 m4 pD4.2.1 q I5 hm4 (I2.fpOk hCle (by rw [upd_ne hDC.symm]; exact I4.free))
  ·refine thn (T.item (X.compE EK scope N' fp s2 H2 C) rfl rfl rfl hc i [(D,lstO ys)] s3 τ H3 _ I3 fpo st3 go) fun r s4 ⟨u,hr,h4⟩ => ?_
   subst hr
   refine thn h4 fun _ s5 ⟨x,H5,I5,r5,y5,st5,fr5⟩ => ?_
   have I5':=I5.pinned (fpX fr5 fun p hp b hb=>by rw [List.mem_singleton.mp hp]; exact (nfD b hb).symm) (T.obj _ _ st5)
   refine wpAny_mono (hg fp s2 H2 C _ s5 τ H5 x u _ I5' r5 (step x H5 y5)) (fun _ s6 ⟨τ6,H6,I6,q6⟩ => ?_) fun _ _ f=>f
   refine wpAny_mono (ht fp s2 H2 C _ s6 τ6 H6 _ I6 q6) (fun ok s7 ⟨H7,I7,q7⟩ => ?_) fun _ _ f=>f
   have endT:∀ {H8:Hp} {s8:Shared} {vs':List V} {ys':List Value},Inv (X.compE EK scope N' fp s2 H2 C) (pinsAt fp s5.heap) τ6 H8 s8→H8 D=none→s8.heap.get? D=some (lstO ys')→Vals vs' ys'→(∃ m',m'<n∧W (i+1) m' τ6 vs' H8) →
     ∃ m,m<n∧∃ i τ vs ys H',Inv (X.compE EK scope N' fp s2 H2 C) [(D,lstO ys)] τ H' s8∧tn i s8.heap∧(∀ b∈fp,H' b=none)∧Vals vs ys∧W i m τ vs H':=fun {H8 s8 vs' ys'} I8 n8 d8 rv8 w8=>by
    obtain ⟨m',hm,w8⟩:=w8
    refine ⟨m',hm,i+1,τ6,vs',ys',H8,pinD I8 n8 d8 [] (fun _ z=>(nomatch z)),T.keep _ _ _ st5 fun b hb o e=>(I8.pin (b,o) (by simpa using mem_pinsAt hb e)).1,fun b hb => ?_,rv8,w8⟩
    obtain ⟨o,e,d⟩:=T.obj _ _ st5 b hb
    exact (I8.pin (b,o) (by simpa using mem_pinsAt hb e)).2.1
   cases ok with
   | false =>
    rw [if_neg (by decide)] at q7 ⊢
    have z:=I7.pin (D,lstO ys) (by simp)
    exact endT (I7.pins_of fun p hp=>I7.pin p (by simp [hp])) z.2.1 z.1 rv q7
   | true =>
    rw [if_pos rfl] at q7 ⊢
    refine wpAny_mono (he fp s2 H2 C _ s7 τ6 H7 _ I7 q7) (fun yv s8 ⟨y,H8,I8,r8,q8⟩ => ?_) fun _ _ f=>f
    have z:=I8.pin (D,lstO ys) (by simp)
    have zl:ys.toArray.size≤sizeLine:=by
     rw [List.size_toArray,← rv.length]
     exact hsz
    refine append_at (hsz:=zl) z.1 fun h9 sb9 d9 => ?_
    have I8':Inv (X.compE EK scope N' fp s2 H2 C) (pinsAt fp s5.heap) τ6 H8 s8:=I8.pins_of fun p hp=>I8.pin p (by simp [hp])
    have I9:Inv (X.compE EK scope N' fp s2 H2 C) (pinsAt fp s5.heap) τ6 H8 { s8 with heap:=h9 }:=I8'.turned (t':=s8.toks) (it:=D) (fun b o hb e=>(sb9.2 b hb).trans e) z.2.1 hDC (.inr hDle) cnD fun p hp e=>by
     have hp':p∈pinsAt fp s5.heap:=by simpa using hp
     exact nfD p.1 (of_pinsAt hp').1 e
    exact endT I9 z.2.1 (d9.trans (congrArg some (lstO_snoc ys yv))) (Vals.append rv (.cons r8 .nil)) q8
 exact codeAny_compStart_list loop (T.self _ 0 _ _ _ (T.keep _ _ _ st2 fun b hb o e=>old b o e) loop)
theorem pe_compE {EK:XK} (hpH:PassH X EK) {elt iter:Expr} {ifs:List Expr} {scope:Scope} {pos:Pos} {N':List Str} {nl:Nat} {fr:List Nat} {wi:TI} {g:TG} {ti:TT} {te:TE} {sc:Scope} {N:List Str} (hK:CompSc sc N scope N' nl fr) (hc:X.calm=true) (hi:PI X tg iter wi)
  (hg:∀ fp s2 H2 C,PG (X.compE EK scope N' fp s2 H2 C) tg g) (ht:∀ fp s2 H2 C,PTs (X.compE EK scope N' fp s2 H2 C) ifs ti) (he:∀ fp s2 H2 C,PE (X.compE EK scope N' fp s2 H2 C) elt te) (hs:∀ x,foldedSetIterable iter X.env x=pure x:=by intro _; rfl) (hsc:X.env.scope=sc:=by rfl) (hNN:X.N=N:=by rfl) :
  PE X (.ListComp elt [⟨tg,iter,ifs,0⟩] scope pos) (tComp nl fr wi g ti te):=by
 subst hsc hNN
 intro pins s σ H Q I h
 have hclo:closureFor scope X.env=pure (cloOf X.env scope.names []):=closureFor_clo fun p hp e=>I.ok.has p.1 (by
  rcases hK.free p hp e with z | z
  ·exact .inl z
  ·exact .inr z)
 rw [eval_ListComp]
 refine wpAny_comprehension_freeE rfl hs hclo hK.kind hK.names (thn (hi pins s σ H _ I h) fun v s1 h1=>thn h1 fun itv s2 h2 => ?_)
 refine comp_blockE hpH (RR:=fun acc cenv=>compPostE (model X.prog X.w) X.A X.xe (EP X pins σ Q) acc cenv) hK hc hg ht he h2 (fun D C s' vs H' m hD q I' hn fC => ?_) fun D C x s' z => ?_
 ·refine ⟨m,hn,fun h' sb=>⟨.ref D,_,I'.turned (t':=s'.toks) (fun b o hb e=>(sb.2 b hb).trans e) fC.1 fC.2.1 fC.2.2.2.1 fC.2.2.2.2.1 fC.2.2.2.2.2,rfl,q D hD⟩⟩
 ·obtain ⟨⟨m,hm⟩,z⟩:=z
  refine ⟨m,hm,fun h' sb => ?_⟩
  obtain ⟨a,cls,a0,B,H',rfl,q,F⟩:=z h' sb
  rcases hpH with h | ⟨hex,hs,hf,hx⟩
  ·exact absurd q (h _ _ _)
  ·exact passOn_W hf F.held fun h'' held keep=>hx a _ cls a0 B H' (F.to hs held fun b o e nf=>⟨o.slots,keep b o e nf⟩) q
end
end L2
namespace L2
open PySem PySem.Spec PyProof.Rows
theorem str_ext {a b:Str} (h:a.cps.toList=b.cps.toList):a=b:=by
 have:a.cps=b.cps:=Array.toList_inj.mp h
 cases a; cases b; cases this; rfl
theorem sIx_lo (n:Nat) (i:Int):max 0 (min (if i<0 then i+(n:Int) else i) n)=(((if i<0 then (i+(n:Int)).toNat else min i.toNat n):Nat):Int):=by
 by_cases h:i<0
 ·rw [if_pos h,if_pos h]; omega
 ·rw [if_neg h,if_neg h]; omega
theorem strIx (lo hi:Option Int) (n:Nat):Builtin.Str.strSliceIndices lo hi 1 n=(List.range (HT.sIx n n hi - HT.sIx n 0 lo)).map (HT.sIx n 0 lo + ·):=by
 rw [← sliceRange_one]
 cases lo with
 | none =>
  cases hi with
  | none=>rfl
  | some j =>
   show sliceRange 0 (max 0 (min (if j<0 then j+(n:Int) else j) n)) 1=sliceRange ((0:Nat):Int) (((if j<0 then (j+(n:Int)).toNat else min j.toNat n):Nat):Int) 1
   rw [sIx_lo]; rfl
 | some i =>
  cases hi with
  | none =>
   show sliceRange (max 0 (min (if i<0 then i+(n:Int) else i) n)) n 1=sliceRange (((if i<0 then (i+(n:Int)).toNat else min i.toNat n):Nat):Int) (n:Nat) 1
   rw [sIx_lo]
  | some j =>
   show sliceRange (max 0 (min (if i<0 then i+(n:Int) else i) n)) (max 0 (min (if j<0 then j+(n:Int) else j) n)) 1=sliceRange (((if i<0 then (i+(n:Int)).toNat else min i.toNat n):Nat):Int) (((if j<0 then (j+(n:Int)).toNat else min j.toNat n):Nat):Int) 1
   rw [sIx_lo,sIx_lo]
noncomputable def cutN (l:List Nat) (lo hi:Option Int):List Nat:=(l.drop (HT.sIx l.length 0 lo)).take (HT.sIx l.length l.length hi - HT.sIx l.length 0 lo)
theorem pick_cut (x:Str) (lo hi:Option Int):(Builtin.Str.strSliceIndices lo hi 1 x.length).filterMap (x.cps[·]?)=cutN x.cps.toList lo hi:=by
 rw [strIx,pick_run]
 have e:x.cps.toList.length=x.length:=Array.length_toList
 unfold cutN
 rw [e]
section
variable {X:Cx} {a b:Expr} {rest:List Expr} {ta tb:TE} {pos:Pos}
noncomputable def rSlS:V→Option Int→Option Int→Hp→VK→Prop:=fun x lo hi H Q=>∃ y:Str,x=.str y∧y.length≤sizeLine∧Q (.str ⟨(cutN y.cps.toList lo hi).toArray⟩) H
theorem cutN_len (l:List Nat) (lo hi:Option Int):(cutN l lo hi).length≤l.length:=by
 unfold cutN
 rw [List.length_take,List.length_drop]; omega
theorem sl_str:SlR X rSlS:=by
 intro pins s σ H x v vl vu lo hi sl Q I rx hs pl pu h
 obtain ⟨y,rfl,hz,q⟩:=h
 obtain ⟨t,rfl⟩:=rx
 refine ⟨"str",_,F.slot_str_getitem.lookup,typeIs_str _ _ _,?_⟩
 obtain ⟨l,e1,e2⟩:∃ l:Option (Int × Tok),vl=partValue l∧l.map (·.1)=lo:=by
  cases pl with
  | none=>exact ⟨none,rfl,rfl⟩
  | int i t=>exact ⟨some (i,t),rfl,rfl⟩
 obtain ⟨u,e3,e4⟩:∃ u:Option (Int × Tok),vu=partValue u∧u.map (·.1)=hi:=by
  cases pu with
  | none=>exact ⟨none,rfl,rfl⟩
  | int i t=>exact ⟨some (i,t),rfl,rfl⟩
 have hsl:s.heap.IsSlice sl l u none:=by rw [e1,e3] at hs; exact hs
 refine wpAny_getItem_str_slice hsl rfl ?_
 unfold sliceMade slicePicked
 rw [e2,e4]
 have pc:=pick_cut y lo hi
 split
 ·rename_i hc
  have hl:(Builtin.Str.strSliceIndices lo hi 1 y.length).length=y.length:=by
   have:=(Bool.and_eq_true_iff.mp hc).2
   exact eq_of_beq this
  refine ⟨.str y,H,I,⟨_,rfl⟩,?_⟩
  have:(⟨(cutN y.cps.toList lo hi).toArray⟩:Str)=y:=by
   refine str_ext ?_
   show cutN y.cps.toList lo hi=y.cps.toList
   rw [strIx,List.length_map,List.length_range] at hl
   have e:y.cps.toList.length=y.length:=Array.length_toList
   unfold cutN
   rw [e]
   have s1:HT.sIx y.length y.length hi≤y.length:=HT.sIx_le _ _ (Nat.le_refl _) _
   have:HT.sIx y.length 0 lo=0∨y.length=0:=by omega
   rcases this with z | z
   ·rw [hl,z,List.drop_zero,List.take_of_length_le (by omega)]
   ·rw [List.length_eq_zero_iff.mp (e.trans z)]; simp
  rw [this] at q
  exact q
 ·show _∧_
  have e:(⟨((Builtin.Str.strSliceIndices lo hi ((Option.map (fun x:Int × Tok=>x.1) none).getD 1) y.length).filterMap (y.cps[·]?)).toArray⟩:Str)=⟨(cutN y.cps.toList lo hi).toArray⟩:=congrArg (fun l:List Nat=>(⟨l.toArray⟩:Str)) pc
  rw [e]
  refine ⟨?_,.str _,H,I.tok _,⟨_,rfl⟩,q⟩
  show (cutN y.cps.toList lo hi).toArray.size≤sizeLine
  rw [List.size_toArray]
  exact Nat.le_trans (cutN_len _ _ _) (by rw [Array.length_toList]; exact hz)
noncomputable def rAddS:R2:=fun x y H Q=>∃ a b:Str,x=.str a∧y=.str b∧a.length+b.length≤sizeLine∧Q (.str (a++b)) H
theorem op_addS:OpR X (binaryOp .Add) rAddS:=by
 intro pins s σ H x y v u Q I rx ry h
 obtain ⟨a,b,rfl,rfl,hz,q⟩:=h
 obtain ⟨t,rfl⟩:=rx
 obtain ⟨t',rfl⟩:=ry
 refine PySem.P.add_str ?_
 split
 ·rename_i h0
  have:a++b=b:=str_ext (by
   rw [PySem.W.KT.app_list]
   have:a.cps.toList=[]:=List.length_eq_zero_iff.mp (Array.length_toList.trans (eq_of_beq h0))
   rw [this]; rfl)
  rw [this] at q
  exact ⟨.str _,H,I,⟨_,rfl⟩,q⟩
 ·split
  ·rename_i _ h0
   have:a++b=a:=str_ext (by
    rw [PySem.W.KT.app_list]
    have:b.cps.toList=[]:=List.length_eq_zero_iff.mp (Array.length_toList.trans (eq_of_beq h0))
    rw [this,List.append_nil])
   rw [this] at q
   exact ⟨.str _,H,I,⟨_,rfl⟩,q⟩
  ·exact ⟨by rw [Str.length_append]; exact hz,.str _,H,I.tok _,⟨_,rfl⟩,q⟩
theorem fold_rep (x:Array Nat):∀ (n:Nat) (acc:Array Nat),((List.replicate n x).foldl (· ++ ·) acc).toList=acc.toList++(List.replicate n x.toList).flatten
 | 0,acc=>by simp
 | n+1,acc=>by
  rw [List.replicate_succ,List.foldl_cons,fold_rep x n,List.replicate_succ,List.flatten_cons]
  simp
noncomputable def rRepS:R2:=fun x y H Q=>∃ (a:Str) (k:Int),x=.str a∧y=.int k∧2≤k∧k≤1000∧1≤a.length∧a.length≤1000∧Q (.str ⟨(List.replicate k.toNat a.cps.toList).flatten.toArray⟩) H
theorem flat_lenN (l:List Nat):∀ n:Nat,(List.replicate n l).flatten.length=n * l.length
 | 0=>by simp
 | n+1=>by rw [List.replicate_succ,List.flatten_cons,List.length_append,flat_lenN l n,Nat.succ_mul]; omega
theorem op_repS:OpR X (binaryOp .Mult) rRepS:=by
 intro pins s σ H x y v u Q I rx ry h
 obtain ⟨a,k,rfl,rfl,k1,k2,a1,a2,q⟩:=h
 obtain ⟨t,rfl⟩:=rx
 obtain ⟨t',rfl⟩:=ry
 have ee:(⟨(List.replicate k.toNat a.cps).foldl (· ++ ·) #[]⟩:Str)=⟨(List.replicate k.toNat a.cps.toList).flatten.toArray⟩:=str_ext (by
  show ((List.replicate k.toNat a.cps).foldl (· ++ ·) #[]).toList=_
  rw [fold_rep]; simp)
 have m1:a.length * k.toNat≤1000 * 1000:=Nat.mul_le_mul a2 (by omega)
 refine PySem.P.mul_str (by rw [decide_eq_false (by omega),decide_eq_false (by omega)]; rfl) (fun _ _ => ?_) (fun _ _ => ?_) ?_
 ·have:(2 ^ 63 - 1:Int) / k ≥ (2 ^ 63 - 1:Int) / 1000:=by
   refine Int.le_ediv_of_mul_le (by omega) ?_
   have:(2 ^ 63 - 1:Int) / 1000=9223372036854775:=by decide
   rw [this]
   have:(9223372036854775:Int) * k≤9223372036854775 * 1000:=Int.mul_le_mul_of_nonneg_left k2 (by decide)
   omega
  have:(2 ^ 63 - 1:Int) / 1000=9223372036854775:=by decide
  omega
 ·show decide _=false
  exact decide_eq_false (by rw [sizeLine_eq]; omega)
 ·rw [if_neg (by omega),if_neg (by
   intro z
   rcases Bool.or_eq_true_iff.mp z with z | z
   ·have:=eq_of_beq z; omega
   ·have:=eq_of_beq z; omega)]
  rw [ee]
  refine ⟨?_,.str _,H,I.tok _,⟨_,rfl⟩,q⟩
  show (List.replicate k.toNat a.cps.toList).flatten.toArray.size≤sizeLine
  have e:a.cps.toList.length=a.length:=Array.length_toList
  rw [List.size_toArray,flat_lenN,e,sizeLine_eq,Nat.mul_comm]
  omega
theorem op_inS:OpR X (compareOp .In) (fun x y H Q=>∃ (c:Nat) (b:Str),x=.str ⟨#[c]⟩∧y=.str b∧Q (.bl (decide (c∈b.cps.toList))) H):=by
 intro pins s σ H x y v u Q I rx ry h
 obtain ⟨c,b,rfl,rfl,q⟩:=h
 obtain ⟨t,rfl⟩:=rx
 obtain ⟨t',rfl⟩:=ry
 refine PySem.P.in_str ?_
 rw [StrLaws.found_one]
 exact ⟨.bl _,H,I,rfl,q⟩
noncomputable def tOrS (ta tb:TE):TE:=fun σ H Q=>ta σ H fun x H1=>∃ y:Str,x=.str y∧y.length≤sizeLine∧if y.length=0 then tb σ H1 Q else Q x H1
theorem pe_orS (ha:PE X a ta) (hb:PE X (.BoolOp .Or (b::rest) pos) tb):PE X (.BoolOp .Or (a::b::rest) pos) (tOrS ta tb):=by
 intro pins s σ H Q I h
 refine BoolOp_or (thn (ha pins s σ H _ I h) fun v s1 ⟨x,H1,I1,r1,q1⟩ => ?_)
 obtain ⟨y,rfl,hz,q1⟩:=q1
 obtain ⟨t,rfl⟩:=r1
 refine PySem.P.truthy_str (by have:=line63; omega) ?_
 by_cases h0:y.length=0
 ·rw [if_pos h0] at q1
  rw [show (((y.length:Nat):Int) != 0)=false by rw [h0]; rfl]
  exact hb pins _ σ H1 Q (I1.tok _) q1
 ·rw [if_neg h0] at q1
  rw [show (((y.length:Nat):Int) != 0)=true by simp; omega]
  exact ⟨.str y,H1,I1.tok _,⟨_,rfl⟩,q1⟩
end
end L2
namespace IS
open PySem PySem.Spec L2
open PyProof.Rows hiding St
open I (D Cell OS Fr R SZ Kt Ko)
section
variable {G:GI} {E:XK} {P:I.Pg} {KO:I.Orc} {W:Nat} {X:Cx} {ι:List Addr} {Hf H:Hp} {os:OS} {σ:St} {ρ:Fr}
theorem sz_eq:SZ=sizeLine:=by rw [sizeLine_eq]; rfl
theorem deref_cel {n:Nat} {xs:List D} (h:I.deref os (.cel n)=.lst xs):I.getC os n=some (.lst xs):=by
 have h':(match I.getC os n with | some (.lst xs)=>D.lst xs | _=>D.cel n)=.lst xs:=h
 cases e:I.getC os n with
 | none=>rw [e] at h'; cases h'
 | some c =>
  rw [e] at h'
  cases c with
  | lst ys=>cases h'; rfl
  | _=>cases h'
theorem items_cel {n:Nat} {xs:List D} (h:I.items os (.cel n)=some xs):I.getC os n=some (.lst xs):=by
 have h':(match I.getC os n with | some (.lst xs)=>some xs | _=>none)=some xs:=h
 cases e:I.getC os n with
 | none=>rw [e] at h'; cases h'
 | some c =>
  rw [e] at h'
  cases c with
  | lst ys=>cases h'; rfl
  | _=>cases h'
theorem Rel.asL {x:V} {d:D} {xs:List D} (rel:Rel G ι Hf H os) (h:Rp G ι Hf x d) (hd:I.deref os d=.lst xs):∃ a vs,x=.ref a∧H a=some (.lst vs)∧vs.length≤sizeLine∧Rps G ι Hf vs xs:=by
 cases h with
 | lst h z r=>cases hd; exact ⟨_,_,rfl,rel.sub _ _ h,z,r⟩
 | @cel a n h =>
  obtain ⟨a',h1,h2,vs,h3,z,h4⟩:=rel.cell n _ (deref_cel hd)
  rw [h] at h1
  cases h1
  exact ⟨a,vs,rfl,h3,z,h4⟩
 | _=>cases hd
theorem Rel.asC {x:V} {n:Nat} {xs:List D} (rel:Rel G ι Hf H os) (h:Rp G ι Hf x (.cel n)) (hd:I.getC os n=some (.lst xs)):∃ a vs,x=.ref a∧ι[n]?=some a∧Hf a=none∧H a=some (.lst vs)∧vs.length≤sizeLine∧Rps G ι Hf vs xs:=by
 cases h with
 | @cel a n h =>
  obtain ⟨a',h1,h2,vs,h3,z,h4⟩:=rel.cell n _ hd
  rw [h] at h1
  cases h1
  exact ⟨a,vs,rfl,h,h2,h3,z,h4⟩
theorem Rel.asI {x:V} {d:D} {xs:List D} (rel:Rel G ι Hf H os) (h:Rp G ι Hf x d) (hd:I.items os d=some xs):∃ a vs,x=.ref a∧(SqL G.K H a vs∨SqT G.K H a vs)∧vs.length≤sizeLine∧Rps G ι Hf vs xs:=by
 cases h with
 | lst h z r=>cases hd; exact ⟨_,_,rfl,.inl (SqL.of (rel.sub _ _ h)),z,r⟩
 | scr h z r=>cases hd; exact ⟨_,_,rfl,.inl (rel.sub.seq h),z,r⟩
 | tup h z r=>cases hd; exact ⟨_,_,rfl,.inr (SqT.of (rel.sub _ _ h)),z,r⟩
 | ktu h z r=>cases hd; exact ⟨_,_,rfl,.inr (Same.seqT rel.sub h),z,r⟩
 | @cel a n h =>
  obtain ⟨a',vs,h1,h2,h3,h4,z,h5⟩:=rel.asC (.cel h) (items_cel hd)
  cases h1
  exact ⟨_,vs,rfl,.inl (SqL.of h4),z,h5⟩
 | _=>cases hd
theorem cut_eq (vs:List V) (xs:List D) (r:Rps G ι Hf vs xs) (lo hi:Option Int):Rps G ι Hf (cutV vs lo hi) (I.cut xs lo hi):=by
 have e:∀ (n d:Nat) (o:Option Int),HT.sIx n d o=I.slAt n d o:=fun n d o=>by
  cases o with
  | none=>rfl
  | some i =>
   show (if i<0 then (i+(n:Int)).toNat else min i.toNat n)=if 0≤i then min i.toNat n else (i+(n:Int)).toNat
   by_cases hi:i<0
   ·rw [if_pos hi,if_neg (by omega)]
   ·rw [if_neg hi,if_pos (by omega)]
 unfold cutV I.cut
 rw [e,e,r.len]
 exact (r.drop _).take _
theorem ix_eq (n:Nat) (i:Int):ixN n i=I.ixOf n i:=rfl
theorem v_sub:VR2 G E .sub (rI0 fun i j=>.int (i - j)):=by
 intro ι Hf H os x y dx dy Q rel hx hy w
 obtain ⟨i,j,e,w⟩:=WR.int2 w
 cases e
 obtain rfl:=hx.int_of
 obtain rfl:=hy.int_of
 exact ⟨_,_,rfl,rfl,w.now rel _ (.int _)⟩
theorem v_fdiv:VR2 G E .fdiv (rI (fun _ j=>0<j∧j<2 ^ 200) fun i j=>.int (i / j)):=by
 intro ι Hf H os x y dx dy Q rel hx hy w
 obtain ⟨i,j,e,w⟩:=WR.int2 w
 cases e
 obtain rfl:=hx.int_of
 obtain rfl:=hy.int_of
 exact ⟨_,_,rfl,rfl,(WR.gd w).1,(WR.gd w).2.now rel _ (.int _)⟩
theorem v_mod:VR2 G E .mod (rI (fun _ j=>0<j) fun i j=>.int (i % j)):=by
 intro ι Hf H os x y dx dy Q rel hx hy w
 obtain ⟨i,j,e,w⟩:=WR.int2 w
 cases e
 obtain rfl:=hx.int_of
 obtain rfl:=hy.int_of
 exact ⟨_,_,rfl,rfl,(WR.gd w).1,(WR.gd w).2.now rel _ (.int _)⟩
theorem v_pow:VR2 G E .pow (rI CPow fun i j=>.int (i ^ j.toNat)):=by
 intro ι Hf H os x y dx dy Q rel hx hy w
 obtain ⟨i,j,e,w⟩:=WR.int2 w
 cases e
 obtain rfl:=hx.int_of
 obtain rfl:=hy.int_of
 exact ⟨_,_,rfl,rfl,(WR.gd w).1,(WR.gd w).2.now rel _ (.int _)⟩
theorem v_shr:VR2 G E .shr (rI (fun _ j=>0≤j) fun i j=>.int (i / 2 ^ j.toNat)):=by
 intro ι Hf H os x y dx dy Q rel hx hy w
 obtain ⟨i,j,e,w⟩:=WR.int2 w
 cases e
 obtain rfl:=hx.int_of
 obtain rfl:=hy.int_of
 exact ⟨_,_,rfl,rfl,(WR.gd w).1,(WR.gd w).2.now rel _ (.int _)⟩
theorem bits_lt {i:Int} {n:Nat} (h:i.natAbs<2 ^ n):Builtin.Int.intBits i≤n:=intBits_le_iff.mpr h
theorem v_shl:VR2 G E .shl (rI CShl fun i j=>.int (i * 2 ^ j.toNat)):=by
 intro ι Hf H os x y dx dy Q rel hx hy w
 obtain ⟨i,j,e,w⟩:=WR.int2 w
 cases e
 obtain rfl:=hx.int_of
 obtain rfl:=hy.int_of
 obtain ⟨⟨a,b,c⟩,w⟩:=WR.gd w
 refine ⟨_,_,rfl,rfl,⟨a,?_⟩,w.now rel _ (.int _)⟩
 have:=bits_lt c
 omega
theorem v_mulI:VR2 G E .mul (fun x y H Q=>(rI IntMulOk fun i j=>.int (i * j)) x y H Q∨(rRep x y H Q∨rRepS x y H Q)):=by
 intro ι Hf H os x y dx dy Q rel hx hy w
 cases hx with
 | int i =>
  cases hy with
  | int j =>
   obtain ⟨h,w⟩:=WR.gd w
   refine .inl ⟨_,_,rfl,rfl,?_,w.now rel _ (.int _)⟩
   rcases h with (h | h) | ⟨h1,h2⟩
   ·exact .of_left (bits_lt h)
   ·exact .of_right (bits_lt h)
   ·exact IntMulOk.of_le (bits_lt h1) (bits_lt h2) (by decide)
  | _=>exact False.elim w
 | str a =>
  cases hy with
  | int k =>
   obtain ⟨⟨⟨h1,h2⟩,h3,h4⟩,w⟩:=WR.gd w
   have e:a.cps.toList.length=a.length:=Array.length_toList
   rw [e] at h3 h4
   refine .inr (.inr ⟨a,k,rfl,rfl,h1,h2,h3,h4,w.now rel _ ?_⟩)
   have:=Rp.str (G:=G) (ι:=ι) (Hf:=Hf) ⟨(List.replicate k.toNat a.cps.toList).flatten.toArray⟩
   rw [show (⟨(List.replicate k.toNat a.cps.toList).flatten.toArray⟩:Str).cps.toList=(List.replicate k.toNat a.cps.toList).flatten from List.toList_toArray ..] at this
   exact this
  | _=>exact False.elim w
 | lst h z r =>
  cases hy with
  | int k =>
   obtain ⟨⟨h1,h2,h3⟩,w⟩:=WR.gd w
   refine .inr (.inl ⟨_,_,_,rfl,rfl,rel.sub _ _ h,h1,h2,?_,fun p hp => ?_⟩)
   ·rw [r.len,← sz_eq]; exact h3
   ·obtain ⟨x2,r2⟩:=rel.froze (o:=HO.lst (List.replicate k.toNat _).flatten) hp
    refine w ι _ _ x2 r2 (.ref p) (.lst upd_same ?_ ?_)
    ·rw [len_rep,Nat.mul_comm,r.len,← sz_eq]; exact h3
    ·have:∀ n:Nat,∀ {a:List V} {c:List D},Rps G ι Hf a c→Rps G ι Hf (List.replicate n a).flatten (List.replicate n c).flatten:=fun n=>by
      induction n with
      | zero=>exact fun _=>.nil
      | succ n ih =>
       intro a c h
       rw [List.replicate_succ,List.replicate_succ,List.flatten_cons,List.flatten_cons]
       exact h.app (ih h)
     exact (this _ r).ext x2
  | _=>exact False.elim w
 | _=>cases hy <;> exact False.elim w
theorem v_band:VR2 G E .band (rI0 fun i j=>.int (Builtin.bitAnd i j)):=by
 intro ι Hf H os x y dx dy Q rel hx hy w
 obtain ⟨i,j,e,w⟩:=WR.int2 w
 cases e
 obtain rfl:=hx.int_of
 obtain rfl:=hy.int_of
 obtain ⟨⟨a,b⟩,w⟩:=WR.gd w
 refine ⟨_,_,rfl,rfl,?_⟩
 have q:=w.now rel _ (.int _)
 obtain ⟨n,rfl⟩:=Int.eq_ofNat_of_zero_le a
 obtain ⟨m,rfl⟩:=Int.eq_ofNat_of_zero_le b
 exact q
theorem v_bor:VR2 G E .bor (rI0 fun i j=>.int (Builtin.bitOr i j)):=by
 intro ι Hf H os x y dx dy Q rel hx hy w
 obtain ⟨i,j,e,w⟩:=WR.int2 w
 cases e
 obtain rfl:=hx.int_of
 obtain rfl:=hy.int_of
 obtain ⟨⟨a,b⟩,w⟩:=WR.gd w
 refine ⟨_,_,rfl,rfl,?_⟩
 have q:=w.now rel _ (.int _)
 obtain ⟨n,rfl⟩:=Int.eq_ofNat_of_zero_le a
 obtain ⟨m,rfl⟩:=Int.eq_ofNat_of_zero_le b
 show Q (V.int (Builtin.bitOr _ _)) H
 rw [PyProof.Rows.bitOr_and]
 exact q
theorem v_bxor:VR2 G E .bxor (rI0 fun i j=>.int (Builtin.bitXor i j)):=by
 intro ι Hf H os x y dx dy Q rel hx hy w
 obtain ⟨i,j,e,w⟩:=WR.int2 w
 cases e
 obtain rfl:=hx.int_of
 obtain rfl:=hy.int_of
 obtain ⟨⟨a,b⟩,w⟩:=WR.gd w
 refine ⟨_,_,rfl,rfl,?_⟩
 have q:=w.now rel _ (.int _)
 obtain ⟨n,rfl⟩:=Int.eq_ofNat_of_zero_le a
 obtain ⟨m,rfl⟩:=Int.eq_ofNat_of_zero_le b
 show Q (V.int (Builtin.bitOr _ _ - Builtin.bitAnd _ _)) H
 rw [PyProof.Rows.bitOr_and]
 exact q
theorem v_neg:VR1 G E .neg (rU fun i=>.int (-i)):=by
 intro ι Hf H os x dx Q rel hx w
 cases hx <;> first
  | exact False.elim w
  | exact ⟨_,rfl,w.now rel _ (.int _)⟩
noncomputable def rAddA (K:PySem.W.Frag):R2:=fun x y H Q=>(rI0 (fun i j=>.int (i+j)) x y H Q∨rCat x y H Q)∨(rCatT K x y H Q∨rAddS x y H Q)
theorem op_addA (hK:X.K=G.K):OpR X (binaryOp .Add) (rAddA G.K):=OpR.or (OpR.or op_add op_cat) (OpR.or (hK ▸ op_catT) op_addS)
theorem v_add:VR2 G E .add (rAddA G.K):=by
 intro ι Hf H os x y dx dy Q rel hx hy w
 have lists:∀ xs ys,I.deref os dx=.lst xs→I.deref os dy=.lst ys→WR G E ι Hf (.gd (xs.length+ys.length≤SZ) (.ok (.lst (xs++ys)) os)) (fun ι' Hf' H' _ d=>∀ v,Rp G ι' Hf' v d→Q v H')→rAddA G.K x y H Q:=fun xs ys e1 e2 w=>by
  obtain ⟨a,vs,rfl,h1,z1,r1⟩:=rel.asL hx e1
  obtain ⟨b,us,rfl,h2,z2,r2⟩:=rel.asL hy e2
  obtain ⟨hz,w⟩:=WR.gd w
  have hz':vs.length+us.length≤sizeLine:=by rw [r1.len,r2.len,← sz_eq]; exact hz
  refine .inl (.inr ⟨a,b,vs,us,rfl,rfl,h1,h2,hz',fun p hp => ?_⟩)
  obtain ⟨x2,rr⟩:=rel.froze (o:=.lst (vs++us)) hp
  exact w ι _ _ x2 rr (.ref p) (.lst upd_same (by rw [List.length_append]; exact hz') ((r1.app r2).ext x2))
 have stuck:∀ {A:Prop},(∀ xs ys,I.deref os dx=.lst xs→I.deref os dy=.lst ys→WR G E ι Hf (.gd (xs.length+ys.length≤SZ) (.ok (.lst (xs++ys)) os)) (fun ι' Hf' H' _ d=>∀ v,Rp G ι' Hf' v d→Q v H')→A) →
   WR G E ι Hf (match I.deref os dx,I.deref os dy with | .lst xs,.lst ys=>R.gd (xs.length+ys.length≤SZ) (R.ok (D.lst (xs++ys)) os) | _,_=>R.stk) (fun ι' Hf' H' _ d=>∀ v,Rp G ι' Hf' v d→Q v H')→A:=fun f w=>by
  split at w
  ·exact f _ _ ‹_› ‹_› w
  ·exact False.elim w
 cases hx with
 | int i =>
  cases hy with
  | int j=>exact .inl (.inl ⟨_,_,rfl,rfl,w.now rel _ (.int _)⟩)
  | _=>exact stuck lists w
 | tup h z r =>
  cases hy with
  | tup h' z' r' =>
   obtain ⟨⟨hn,hz⟩,w⟩:=WR.gd w
   refine .inr (.inl ⟨_,_,_,_,rfl,rfl,SqT.of (rel.sub _ _ h),SqT.of (rel.sub _ _ h'),?_,by rw [r.len,r'.len,← sz_eq]; exact hz,fun e => ?_,fun e p hp => ?_⟩)
   ·intro e; subst e; cases r; exact hn rfl
   ·subst e
    cases r'
    rw [List.append_nil] at w
    exact w.now rel _ (.tup h z r)
   ·obtain ⟨x2,rr⟩:=rel.froze (o:=HO.tup (_++_)) hp
    exact w ι _ _ x2 rr (.ref p) (.tup upd_same (by rw [List.length_append,r.len,r'.len,← sz_eq]; exact hz) ((r.app r').ext x2))
  | _=>exact stuck lists w
 | str a =>
  cases hy with
  | str b =>
   obtain ⟨hz,w⟩:=WR.gd w
   have e1:a.cps.toList.length=a.length:=Array.length_toList
   have e2:b.cps.toList.length=b.length:=Array.length_toList
   rw [e1,e2] at hz
   refine .inr (.inr ⟨a,b,rfl,rfl,by rw [sizeLine_eq]; omega,w.now rel _ ?_⟩)
   have:=Rp.str (G:=G) (ι:=ι) (Hf:=Hf) (a++b)
   rw [PySem.W.KT.app_list] at this
   exact this
  | _=>exact stuck lists w
 | _=>cases hy <;> exact stuck lists w
theorem v_addF:VR2F G E .add (rAddA G.K):=by
 intro ι Hf H os x y dx dy Q rel hx hy w
 have lists:∀ xs ys,I.deref os dx=.lst xs→I.deref os dy=.lst ys→WR G E ι Hf (.gd (xs.length+ys.length≤SZ) (.ok (.lst (xs++ys)) os)) (fun ι' Hf' H' _ d=>∃ xs,d=D.lst xs∧∀ vs p,Rps G ι' Hf' vs xs→vs.length≤sizeLine→H' p=none→Q (V.ref p) (upd H' p (HO.lst vs)))→rAddA G.K x y H Q:=fun xs ys e1 e2 w=>by
  obtain ⟨a,vs,rfl,h1,z1,r1⟩:=rel.asL hx e1
  obtain ⟨b,us,rfl,h2,z2,r2⟩:=rel.asL hy e2
  obtain ⟨hz,w⟩:=WR.gd w
  have hz':vs.length+us.length≤sizeLine:=by rw [r1.len,r2.len,← sz_eq]; exact hz
  refine .inl (.inr ⟨a,b,vs,us,rfl,rfl,h1,h2,hz',fun p hp => ?_⟩)
  obtain ⟨zs,e,w⟩:=w.now rel
  cases e
  exact w _ p (r1.app r2) (by rw [List.length_append]; exact hz') hp
 have stuck:WR G E ι Hf (match I.deref os dx,I.deref os dy with | .lst xs,.lst ys=>R.gd (xs.length+ys.length≤SZ) (R.ok (D.lst (xs++ys)) os) | _,_=>R.stk) (fun ι' Hf' H' _ d=>∃ xs,d=D.lst xs∧∀ vs p,Rps G ι' Hf' vs xs→vs.length≤sizeLine→H' p=none→Q (V.ref p) (upd H' p (HO.lst vs)))→rAddA G.K x y H Q:=fun w=>by
  split at w
  ·exact lists _ _ ‹_› ‹_› w
  ·exact False.elim w
 cases hx with
 | int i =>
  cases hy with
  | int j=>obtain ⟨_,e,_⟩:=w.now rel; cases e
  | _=>exact stuck w
 | tup h z r =>
  cases hy with
  | tup h' z' r'=>obtain ⟨_,e,_⟩:=(WR.gd w).2.now rel; cases e
  | _=>exact stuck w
 | str a =>
  cases hy with
  | str b=>obtain ⟨_,e,_⟩:=(WR.gd w).2.now rel; cases e
  | _=>exact stuck w
 | _=>cases hy <;> exact stuck w
end
end IS
namespace IS
open PySem PySem.Spec L2
open PyProof.Rows hiding St
open I (D Cell OS Fr R SZ Kt Ko)
mutual
inductive DatK (K:PySem.W.Frag) (H:Hp):V→PyData→Prop
 | non:DatK K H .non .none
 | bl (b:Bool):DatK K H (.bl b) (.bool b)
 | int (i:Int):DatK K H (.int i) (.int i)
 | str (x:Str):DatK K H (.str x) (.str x)
 | lst {a:Addr} {xs:List V} {ds:List PyData}:SqL K H a xs→DatsK K H xs ds→DatK K H (.ref a) (.list ds)
 | tup {a:Addr} {xs:List V} {ds:List PyData}:SqT K H a xs→DatsK K H xs ds→DatK K H (.ref a) (.tuple ds)
inductive DatsK (K:PySem.W.Frag) (H:Hp):List V→List PyData→Prop
 | nil:DatsK K H [] []
 | cons {x:V} {d:PyData} {xs:List V} {ds:List PyData}:DatK K H x d→DatsK K H xs ds→DatsK K H (x::xs) (d::ds)
end
section
variable {X:Cx} {pins:List (Addr × Obj)} {σ:St} {H:Hp} {s:Shared}
mutual
theorem DatK.reads (I:Inv X pins σ H s):∀ {x:V} {d:PyData} {u:Value},DatK X.K H x d→RelV x u→∃ as,Reads s.heap u d as
 | _,_,_,.non,r=>⟨[],by cases r; exact .none⟩
 | _,_,_,.bl b,r=>⟨[],by cases r; exact .bool b⟩
 | _,_,_,.int i,r=>⟨[],by obtain ⟨t,rfl⟩:=r; exact .int i t⟩
 | _,_,_,.str x,r=>⟨[],by obtain ⟨t,rfl⟩:=r; exact .str x t⟩
 | _,_,_,.lst h hd,r=>by
  cases r
  obtain ⟨its,rv,p,_⟩:=I.list h
  obtain ⟨as,ra⟩:=DatsK.reads I hd rv
  obtain ⟨o,ho,hc,n,hdt⟩:=p.isList
  exact ⟨_,.list ho hc hdt (by simpa using ra)⟩
 | _,_,_,.tup h hd,r=>by
  cases r
  obtain ⟨its,rv,p,_⟩:=I.tuple h
  obtain ⟨as,ra⟩:=DatsK.reads I hd rv
  obtain ⟨o,ho,hc,n,hdt⟩:=p
  exact ⟨_,.tuple ho hc hdt (by simpa using ra)⟩
theorem DatsK.reads (I:Inv X pins σ H s):∀ {xs:List V} {ds:List PyData} {us:List Value},DatsK X.K H xs ds→Vals xs us→∃ as,ReadsAll s.heap us ds as
 | _,_,_,.nil,r=>⟨[],by cases r; exact .nil⟩
 | _,_,_,.cons h hd,r=>by
  cases r with
  | cons r1 rr =>
   obtain ⟨as,ra⟩:=DatK.reads I h r1
   obtain ⟨bs,rb⟩:=DatsK.reads I hd rr
   exact ⟨_,.cons ra rb⟩
end
noncomputable def rEqK (K:PySem.W.Frag) (neg:Bool):R2:=fun x y H Q=>∃ d d':PyData,DatK K H x d∧DatK K H y d'∧SeqAt.shaped d=true∧SeqAt.shaped d'=true∧SeqAt.noMix d d'=true∧Q (.bl (if neg then !same d d' else same d d')) H
theorem op_eqK (hu:X.A.units+64<cLine):OpR X (compareOp .Eq) (rEqK X.K false):=by
 intro pins s σ H x y v u Q I rx ry h
 obtain ⟨d,d',h1,h2,s1,s2,nm,q⟩:=h
 obtain ⟨as,ra⟩:=h1.reads I rx
 obtain ⟨bs,rb⟩:=h2.reads I ry
 exact eq_dataH_same ra rb s1 s2 hu nm ⟨.bl (same d d'),H,I,rfl,q⟩
theorem op_neK (hu:X.A.units+64<cLine):OpR X (compareOp .NotEq) (rEqK X.K true):=by
 intro pins s σ H x y v u Q I rx ry h
 obtain ⟨d,d',h1,h2,s1,s2,nm,q⟩:=h
 obtain ⟨as,ra⟩:=h1.reads I rx
 obtain ⟨bs,rb⟩:=h2.reads I ry
 exact ne_dataH_same ra rb s1 s2 hu nm ⟨.bl (!same d d'),H,I,rfl,q⟩
end
mutual
noncomputable def toPy:D→PyData
 | .bl b=>.bool b
 | .int i=>.int i
 | .str s=>.str ⟨s.toArray⟩
 | .lst xs=>.list (toPys xs)
 | .tup xs=>.tuple (toPys xs)
 | _=>.none
noncomputable def toPys:List D→List PyData
 | []=>[]
 | x::r=>toPy x::toPys r
end
theorem pl_str {n:Nat} {s:List Nat} (h:D.pl n (.str s)=true):(s.all fun c=>decide (c<55296))=true:=by cases n <;> exact h
theorem pl_lst {n:Nat} {xs:List D} (h:D.pl n (.lst xs)=true):∃ m,n=m+1∧∀ x∈xs,D.pl m x=true:=by
 cases n with
 | zero=>cases h
 | succ m=>exact ⟨m,rfl,List.all_eq_true.mp h⟩
theorem pl_tup {n:Nat} {xs:List D} (h:D.pl n (.tup xs)=true):∃ m,n=m+1∧∀ x∈xs,D.pl m x=true:=by
 cases n with
 | zero=>cases h
 | succ m=>exact ⟨m,rfl,List.all_eq_true.mp h⟩
section
variable {G:GI} {E:XK} {ι:List Addr} {Hf H:Hp} {os:OS}
mutual
theorem Rp.dat (hs:Same Hf H):∀ {v:V} {d:D} {n:Nat},Rp G ι Hf v d→D.pl n d=true→DatK G.K H v (toPy d)
 | _,_,_,.non,_=>.non
 | _,_,_,.bl b,_=>.bl b
 | _,_,_,.int i,_=>.int i
 | _,_,_,.str x,_=>.str x
 | _,_,n,.lst h z r,p=>by
  obtain ⟨m,_,q⟩:=pl_lst p
  exact .lst (SqL.of (hs _ _ h)) (Rps.dat hs r q)
 | _,_,n,.tup h z r,p=>by
  obtain ⟨m,_,q⟩:=pl_tup p
  exact .tup (SqT.of (hs _ _ h)) (Rps.dat hs r q)
 | _,_,n,.scr h z r,p=>by cases n <;> cases p
 | _,_,n,.ktu h z r,p=>by cases n <;> cases p
 | _,_,n,.cel h,p=>by cases n <;> cases p
 | _,_,n,.fn _ _,p=>by cases n <;> cases p
theorem Rps.dat (hs:Same Hf H):∀ {vs:List V} {ds:List D} {n:Nat},Rps G ι Hf vs ds→(∀ d∈ds,D.pl n d=true)→DatsK G.K H vs (toPys ds)
 | _,_,_,.nil,_=>.nil
 | _,_,_,.cons h r,q=>.cons (Rp.dat hs h (q _ (.head _))) (Rps.dat hs r fun d hd=>q d (.tail _ hd))
end
theorem Rp.dat' (rel:Rel G ι Hf H os) {v:V} {d:D} {n:Nat} (h:Rp G ι Hf v d) (p:D.pl n (I.deref os d)=true):DatK G.K H v (toPy (I.deref os d)):=by
 cases h with
 | cel h =>
  rename_i a m
  cases e:I.getC os m with
  | none =>
   have:I.deref os (.cel m)=.cel m:=by show (match I.getC os m with | some (.lst xs)=>D.lst xs | _=>D.cel m)=_; rw [e]
   rw [this] at p
   cases n <;> cases p
  | some c =>
   cases c with
   | lst xs =>
    have ed:I.deref os (.cel m)=.lst xs:=by show (match I.getC os m with | some (.lst xs)=>D.lst xs | _=>D.cel m)=_; rw [e]
    rw [ed] at p ⊢
    obtain ⟨a',vs,h1,h2,h3,h4,z,h5⟩:=rel.asC (.cel h) e
    cases h1
    obtain ⟨m',_,q⟩:=pl_lst p
    exact .lst (SqL.of h4) (Rps.dat rel.sub h5 q)
   | _ =>
    have:I.deref os (.cel m)=.cel m:=by show (match I.getC os m with | some (.lst xs)=>D.lst xs | _=>D.cel m)=_; rw [e]
    rw [this] at p
    cases n <;> cases p
 | non=>exact Rp.dat (ι:=ι) rel.sub .non p
 | bl b=>exact Rp.dat (ι:=ι) rel.sub (.bl b) p
 | int b=>exact Rp.dat (ι:=ι) rel.sub (.int b) p
 | str b=>exact Rp.dat (ι:=ι) rel.sub (.str b) p
 | lst a b c=>exact Rp.dat rel.sub (.lst a b c) p
 | tup a b c=>exact Rp.dat rel.sub (.tup a b c) p
 | scr a b c=>exact Rp.dat rel.sub (.scr a b c) p
 | ktu a b c=>exact Rp.dat rel.sub (.ktu a b c) p
 | fn a b=>exact Rp.dat (ι:=ι) rel.sub (.fn a b) p
end
mutual
theorem same_py:∀ (a b:D) {n m:Nat},D.pl n a=true→D.pl m b=true→same (toPy a) (toPy b)=D.same a b
 | .non,b,_,m,_,q=>by cases b <;> first | (simp [toPy,same,D.same]; done) | (cases m <;> cases q)
 | .bl x,b,_,m,_,q=>by cases b <;> first | (simp [toPy,same,D.same]; done) | (cases m <;> cases q)
 | .int x,b,_,m,_,q=>by
  cases b <;> first | (simp [toPy,same,D.same]; done) | (simp [toPy,same,D.same,Bool.beq_eq_decide_eq]; done) | (cases m <;> cases q; done)
 | .str x,b,_,m,_,q=>by
  cases b with
  | str y =>
   simp only [toPy,same,D.same]
   by_cases h:x=y
   ·subst h; simp
   ·rw [decide_eq_false h]
    refine beq_eq_false_iff_ne.mpr fun e=>h ?_
    have:=congrArg (fun s:Str=>s.cps.toList) e
    simpa using this
  | _=>first | (simp [toPy,same,D.same]; done) | (cases m <;> cases q)
 | .lst xs,b,n,m,p,q=>by
  cases b with
  | lst ys =>
   obtain ⟨n',_,p'⟩:=pl_lst p
   obtain ⟨m',_,q'⟩:=pl_lst q
   simp only [toPy,same,D.same]
   exact sames_py xs ys p' q'
  | _=>first | (simp [toPy,same,D.same]; done) | (cases m <;> cases q)
 | .tup xs,b,n,m,p,q=>by
  cases b with
  | tup ys =>
   obtain ⟨n',_,p'⟩:=pl_tup p
   obtain ⟨m',_,q'⟩:=pl_tup q
   simp only [toPy,same,D.same]
   exact sames_py xs ys p' q'
  | _=>first | (simp [toPy,same,D.same]; done) | (cases m <;> cases q)
 | .scr _,_,n,_,p,_=>by cases n <;> cases p
 | .ktu _,_,n,_,p,_=>by cases n <;> cases p
 | .cel _,_,n,_,p,_=>by cases n <;> cases p
 | .exn _ _,_,n,_,p,_=>by cases n <;> cases p
theorem sames_py:∀ (xs ys:List D) {n m:Nat},(∀ x∈xs,D.pl n x=true)→(∀ y∈ys,D.pl m y=true)→sameAll (toPys xs) (toPys ys)=D.sames xs ys
 | [],[],_,_,_,_=>by simp [toPys,sameAll,D.sames]
 | [],_::_,_,_,_,_=>by simp [toPys,sameAll,D.sames]
 | _::_,[],_,_,_,_=>by simp [toPys,sameAll,D.sames]
 | x::xs,y::ys,_,_,p,q=>by
  simp only [toPys,sameAll,D.sames]
  rw [same_py x y (p x (.head _)) (q y (.head _)),sames_py xs ys (fun z hz=>p z (.tail _ hz)) (fun z hz=>q z (.tail _ hz))]
end
mutual
theorem nm_py:∀ (a b:D),D.nm a b=true→SeqAt.noMix (toPy a) (toPy b)=true
 | .non,b,h=>by cases b <;> simp [toPy,SeqAt.noMix]
 | .bl x,b,h=>by cases b <;> first | (simp [toPy,SeqAt.noMix]; done) | (cases h)
 | .int x,b,h=>by cases b <;> first | (simp [toPy,SeqAt.noMix]; done) | (cases h)
 | .str x,b,h=>by cases b <;> simp [toPy,SeqAt.noMix]
 | .lst xs,b,h=>by
  cases b with
  | lst ys=>simp only [toPy,SeqAt.noMix]; exact nms_py xs ys h
  | _=>simp [toPy,SeqAt.noMix]
 | .tup xs,b,h=>by
  cases b with
  | tup ys=>simp only [toPy,SeqAt.noMix]; exact nms_py xs ys h
  | _=>simp [toPy,SeqAt.noMix]
 | .scr _,b,h=>by cases b <;> simp [toPy,SeqAt.noMix]
 | .ktu _,b,h=>by cases b <;> simp [toPy,SeqAt.noMix]
 | .cel _,b,h=>by cases b <;> simp [toPy,SeqAt.noMix]
 | .exn _ _,b,h=>by cases b <;> simp [toPy,SeqAt.noMix]
theorem nms_py:∀ (xs ys:List D),D.nms xs ys=true→SeqAt.noMixAll (toPys xs) (toPys ys)=true
 | [],[],_=>by simp [toPys,SeqAt.noMixAll]
 | [],_::_,_=>by simp [toPys,SeqAt.noMixAll]
 | _::_,[],_=>by simp [toPys,SeqAt.noMixAll]
 | x::xs,y::ys,h=>by
  obtain ⟨h1,h2⟩:=Bool.and_eq_true_iff.mp (show (D.nm x y&&D.nms xs ys)=true from h)
  simp only [toPys,SeqAt.noMixAll]
  rw [nm_py x y h1,nms_py xs ys h2]
  rfl
end
mutual
theorem pl_shape:∀ (d:D) {n:Nat},D.pl n d=true→(toPy d).canLay0=true∧(toPy d).depth≤n
 | .non,_,_=>⟨rfl,Nat.zero_le _⟩
 | .bl x,_,_=>⟨rfl,Nat.zero_le _⟩
 | .int x,_,_=>⟨rfl,Nat.zero_le _⟩
 | .str x,_,p=>by
  refine ⟨?_,Nat.zero_le _⟩
  show PyData.strOk ⟨x.toArray⟩=true
  have q:=List.all_eq_true.mp (pl_str p)
  unfold PyData.strOk
  rw [List.all_toArray]
  refine List.all_eq_true.mpr fun c hc => ?_
  have:=of_decide_eq_true (q c hc)
  exact decide_eq_true (by omega)
 | .lst xs,n,p=>by
  obtain ⟨m,rfl,q⟩:=pl_lst p
  obtain ⟨h1,h2⟩:=pls_shape xs q
  exact ⟨h1,Nat.succ_le_succ h2⟩
 | .tup xs,n,p=>by
  obtain ⟨m,rfl,q⟩:=pl_tup p
  obtain ⟨h1,h2⟩:=pls_shape xs q
  exact ⟨h1,Nat.succ_le_succ h2⟩
 | .scr _,n,p=>by cases n <;> cases p
 | .ktu _,n,p=>by cases n <;> cases p
 | .cel _,n,p=>by cases n <;> cases p
 | .exn _ _,n,p=>by cases n <;> cases p
theorem pls_shape:∀ (xs:List D) {n:Nat},(∀ x∈xs,D.pl n x=true)→PyData.canLayAll0 (toPys xs)=true∧PyData.depthAll (toPys xs)≤n
 | [],_,_=>⟨rfl,Nat.zero_le _⟩
 | x::r,n,q=>by
  obtain ⟨a1,a2⟩:=pl_shape x (q x (.head _))
  obtain ⟨b1,b2⟩:=pls_shape r fun z hz=>q z (.tail _ hz)
  refine ⟨?_,Nat.max_le.mpr ⟨a2,b2⟩⟩
  show (_&&_)=true
  rw [a1,b1]
  rfl
end
theorem pl_shaped {d:D} (h:D.pl 60 d=true):SeqAt.shaped (toPy d)=true:=by
 obtain ⟨h1,h2⟩:=pl_shape d h
 unfold SeqAt.shaped
 rw [h1,decide_eq_true (show (toPy d).depth≤64 by omega)]
 rfl
section
variable {G:GI} {E:XK} {ι:List Addr} {Hf H:Hp} {os:OS}
theorem eq_some {a b:D} {k:Bool} (h:D.eq a b=some k):D.pl 60 a=true∧D.pl 60 b=true∧D.nm a b=true∧k=D.same a b:=by
 unfold I.D.eq at h
 split at h
 ·rename_i e
  obtain ⟨e,e3⟩:=Bool.and_eq_true_iff.mp e
  obtain ⟨e1,e2⟩:=Bool.and_eq_true_iff.mp e
  exact ⟨e1,e2,e3,(Option.some.inj h).symm⟩
 ·cases h
theorem v_eq:VR2 G E (.cmp .eq) (rEqK G.K false):=by
 intro ι Hf H os x y dx dy Q rel hx hy w
 obtain ⟨d,e,w⟩:=WR.ofO (show WR G E ι Hf (R.ofO ((D.eq (I.deref os dx) (I.deref os dy)).map D.bl) os) _ from w)
 cases e':D.eq (I.deref os dx) (I.deref os dy) with
 | none=>rw [e'] at e; cases e
 | some k =>
  rw [e'] at e
  cases e
  obtain ⟨p1,p2,nm,rfl⟩:=eq_some e'
  refine ⟨_,_,Rp.dat' rel hx p1,Rp.dat' rel hy p2,pl_shaped p1,pl_shaped p2,nm_py _ _ nm,?_⟩
  rw [same_py _ _ p1 p2]
  exact w.now rel _ (.bl _)
theorem v_ne:VR2 G E (.cmp .ne) (rEqK G.K true):=by
 intro ι Hf H os x y dx dy Q rel hx hy w
 obtain ⟨d,e,w⟩:=WR.ofO (show WR G E ι Hf (R.ofO ((D.eq (I.deref os dx) (I.deref os dy)).map fun x=>D.bl (!x)) os) _ from w)
 cases e':D.eq (I.deref os dx) (I.deref os dy) with
 | none=>rw [e'] at e; cases e
 | some k =>
  rw [e'] at e
  cases e
  obtain ⟨p1,p2,nm,rfl⟩:=eq_some e'
  refine ⟨_,_,Rp.dat' rel hx p1,Rp.dat' rel hy p2,pl_shaped p1,pl_shaped p2,nm_py _ _ nm,?_⟩
  rw [same_py _ _ p1 p2]
  exact w.now rel _ (.bl _)
theorem v_lt:VR2 G E (.cmp .lt) (rI0 fun i j=>.bl (decide (i<j))):=by
 intro ι Hf H os x y dx dy Q rel hx hy w
 obtain ⟨i,j,rfl,rfl,w⟩:=WR.cmpI (o:=.lt) w
 obtain rfl:=hx.int_of
 obtain rfl:=hy.int_of
 exact ⟨_,_,rfl,rfl,w.now rel _ (.bl _)⟩
theorem v_le:VR2 G E (.cmp .le) (rI0 fun i j=>.bl (decide (i≤j))):=by
 intro ι Hf H os x y dx dy Q rel hx hy w
 obtain ⟨i,j,rfl,rfl,w⟩:=WR.cmpI (o:=.le) w
 obtain rfl:=hx.int_of
 obtain rfl:=hy.int_of
 exact ⟨_,_,rfl,rfl,w.now rel _ (.bl _)⟩
theorem v_gt:VR2 G E (.cmp .gt) (rI0 fun i j=>.bl (decide (j<i))):=by
 intro ι Hf H os x y dx dy Q rel hx hy w
 obtain ⟨i,j,rfl,rfl,w⟩:=WR.cmpI (o:=.gt) w
 obtain rfl:=hx.int_of
 obtain rfl:=hy.int_of
 exact ⟨_,_,rfl,rfl,w.now rel _ (.bl _)⟩
theorem v_ge:VR2 G E (.cmp .ge) (rI0 fun i j=>.bl (decide (j≤i))):=by
 intro ι Hf H os x y dx dy Q rel hx hy w
 obtain ⟨i,j,rfl,rfl,w⟩:=WR.cmpI (o:=.ge) w
 obtain rfl:=hx.int_of
 obtain rfl:=hy.int_of
 exact ⟨_,_,rfl,rfl,w.now rel _ (.bl _)⟩
end
end IS
namespace IS
open PySem PySem.Spec L2
open PyProof.Rows hiding St
open I (D Cell OS Fr R SZ Kt Ko)
section
variable {G:GI} {E:XK} {P:I.Pg} {KO:I.Orc} {W:Nat} {X:Cx}
theorem Rps.two {ι:List Addr} {Hf:Hp} {xs:List V} {d e:D} (h:Rps G ι Hf xs [d,e]):∃ x y,xs=[x,y]∧Rp G ι Hf x d∧Rp G ι Hf y e:=by
 cases h with
 | cons h r=>cases r with | cons h2 r=>cases r; exact ⟨_,_,rfl,h,h2⟩
theorem Rps.three {ι:List Addr} {Hf:Hp} {xs:List V} {d e f:D} (h:Rps G ι Hf xs [d,e,f]):∃ x y z,xs=[x,y,z]∧Rp G ι Hf x d∧Rp G ι Hf y e∧Rp G ι Hf z f:=by
 cases h with
 | cons h r=>cases r with | cons h2 r=>cases r with | cons h3 r=>cases r; exact ⟨_,_,_,rfl,h,h2,h3⟩
noncomputable def rLen (K:PySem.W.Frag):List V→Hp→VK→Prop:=fun xs H Q=>(∃ x n,xs=[x]∧LenV K x H n∧Q (.int n) H)∨∃ a kvs,xs=[V.ref a]∧H a=some (.dK kvs)∧Q (.int kvs.length) H
theorem call_lenD:CallR X (.builtin "len") (fun xs H Q=>∃ a kvs,xs=[V.ref a]∧H a=some (.dK kvs)∧Q (.int kvs.length) H):=by
 intro pins s σ H xs us Q I r h
 obtain ⟨a,kvs,rfl,ha,q⟩:=h
 obtain ⟨u,rfl,ru⟩:=vals1 r
 cases ru
 exact d_len I (.inl ha) fun t s' I'=>⟨.int kvs.length,H,I',⟨t,rfl⟩,q⟩
theorem call_lenA (hK:X.K=G.K):CallR X (.builtin "len") (rLen G.K):=CallR.or (hK ▸ call_len) call_lenD
theorem v_len:VRs G E .len (rLen G.K):=by
 intro ι Hf H os xs ds Q rel hx w
 cases hx with
 | nil=>exact False.elim w
 | cons hx r =>
  cases r with
  | cons _ _=>exact False.elim (by cases hx <;> exact w)
  | nil =>
   cases hx with
   | lst h z r =>
    refine .inl ⟨_,_,rfl,.inl ⟨_,SqL.of (rel.sub _ _ h),rfl⟩,?_⟩
    rw [r.len]
    exact w.now rel _ (.int _)
   | scr h z r =>
    refine .inl ⟨_,_,rfl,.inl ⟨_,rel.sub.seq h,rfl⟩,?_⟩
    rw [r.len]
    exact w.now rel _ (.int _)
   | tup h z r =>
    refine .inl ⟨_,_,rfl,.inr ⟨_,SqT.of (rel.sub _ _ h),rfl⟩,?_⟩
    rw [r.len]
    exact w.now rel _ (.int _)
   | ktu h z r =>
    refine .inl ⟨_,_,rfl,.inr ⟨_,Same.seqT rel.sub h,rfl⟩,?_⟩
    rw [r.len]
    exact w.now rel _ (.int _)
   | str x =>
    obtain ⟨hz,w⟩:=WR.gd w
    exact .inl ⟨_,_,rfl,⟨by rw [← sz_eq]; exact hz,rfl⟩,w.now rel _ (.int _)⟩
   | @cel a n h =>
    have w':WR G E ι Hf (match I.getC os n with | some (.lst xs)=>R.ok (D.int xs.length) os | some (.dct false kvs)=>R.ok (D.int kvs.length) os | _=>R.stk) (fun ι' Hf' H' _ d=>∀ v,Rp G ι' Hf' v d→Q v H'):=w
    cases e:I.getC os n with
    | none=>rw [e] at w'; exact False.elim w'
    | some c =>
     rw [e] at w'
     cases c with
     | lst xs =>
      obtain ⟨a',vs,h1,h2,h3,h4,z,h5⟩:=rel.asC (.cel h) e
      cases h1
      refine .inl ⟨_,_,rfl,.inl ⟨_,SqL.of h4,rfl⟩,?_⟩
      rw [h5.len]
      exact w'.now rel _ (.int _)
     | dct t kvs =>
      cases t with
      | true=>exact False.elim w'
      | false =>
       obtain ⟨a',h1,h2,kk,h3,h4,h5⟩:=rel.cell n _ e
       rw [h] at h1
       cases h1
       refine .inr ⟨_,kk,rfl,h3,?_⟩
       have el:kk.length=kvs.length:=by have:=h5.len; simpa using this
       rw [el]
       exact w'.now rel _ (.int _)
     | ins _ _=>exact False.elim w'
     | tab _=>exact False.elim w'
   | _=>exact False.elim w
end
end IS
namespace IS
open PySem PySem.Spec L2
open PyProof.Rows hiding St
open I (D Cell OS Fr R SZ Kt Ko)
theorem same_key (a b:Key):D.same (dKey a) (dKey b)=decide (a=b):=by
 cases a with
 | inl i =>
  cases b with
  | inl j =>
   show decide (i=j)=decide (Sum.inl i=Sum.inl j)
   by_cases h:i=j
   ·subst h; simp
   ·rw [decide_eq_false h,decide_eq_false fun z=>h (Sum.inl.inj z)]
  | inr y=>exact (decide_eq_false fun z=>nomatch z).symm
 | inr x =>
  cases b with
  | inl j=>exact (decide_eq_false fun z=>nomatch z).symm
  | inr y =>
   show decide (x.cps.toList=y.cps.toList)=decide (Sum.inr x=Sum.inr y)
   by_cases h:x=y
   ·subst h; simp
   ·rw [decide_eq_false fun z=>h (Sum.inr.inj z),decide_eq_false fun z=>h ?_]
    cases x; cases y
    simp at z
    rw [z]
theorem same_keys:∀ (a b:List Key),D.sames (a.map dKey) (b.map dKey)=decide (a=b)
 | [],[]=>rfl
 | [],_::_=>rfl
 | _::_,[]=>rfl
 | x::a,y::b=>by
  show (D.same (dKey x) (dKey y)&&D.sames (a.map dKey) (b.map dKey))=_
  rw [same_key,same_keys a b]
  by_cases h:x=y
  ·subst h
   by_cases h2:a=b
   ·subst h2; simp
   ·simp [h2]
  ·rw [decide_eq_false h,Bool.false_and,decide_eq_false fun z=>h (List.cons.inj z).1]
section
variable {G:GI} {E:XK} {ι:List Addr} {Hf H:Hp} {os:OS}
theorem key1 {y:V} {k:D} (h:Rp G ι Hf y k) (hk:I.kS k=true):∃ key,y=kV key∧k=dKey key:=by
 cases h with
 | int i=>exact ⟨.inl i,rfl,rfl⟩
 | str x=>exact ⟨.inr x,rfl,rfl⟩
 | _=>cases hk
theorem keys1:∀ {vs:List V} {ds:List D},Rps G ι Hf vs ds→(ds.all I.kS)=true→∃ keys:List Key,vs=keys.map kV∧ds=keys.map dKey
 | _,_,.nil,_=>⟨[],rfl,rfl⟩
 | _,_,.cons h r,p=>by
  rw [List.all_cons] at p
  obtain ⟨p1,p2⟩:=Bool.and_eq_true_iff.mp p
  obtain ⟨k,e1,e2⟩:=key1 h p1
  obtain ⟨ks,e3,e4⟩:=keys1 r p2
  exact ⟨k::ks,by rw [e1,e3]; rfl,by rw [e2,e4]; rfl⟩
noncomputable def ORp (G:GI) (ι:List Addr) (Hf:Hp):Option V→Option D→Prop
 | some v,some d=>Rp G ι Hf v d
 | none,none=>True
 | _,_=>False
theorem tab_get {κ:Type} [DecidableEq κ] (f:κ→D) (hf:∀ a b,D.same (f a) (f b)=decide (a=b)) (k:κ):∀ {kk:List (κ × V)} {kvs:List (D × D)},kvs.map (·.1)=kk.map (fun p=>f p.1)→Rps G ι Hf (kk.map (·.2)) (kvs.map (·.2))→ORp G ι Hf (valV kk k) (I.dGet (f k) kvs)
 | [],[],_,_=>trivial
 | [],_::_,e,_=>by cases e
 | _::_,[],e,_=>by cases e
 | p::kk,q::kvs,e,r=>by
  obtain ⟨e1,e2⟩:=List.cons.inj e
  obtain ⟨q1,q2⟩:=q
  have e1':q1=f p.1:=e1
  subst e1'
  cases r with
  | cons h r =>
   have ih:=tab_get f hf k e2 r
   show ORp G ι Hf _ (if D.same (f p.1) (f k)=true then some q2 else I.dGet (f k) kvs)
   rw [hf]
   by_cases hp:p.1=k
   ·rw [valV_pos hp,decide_eq_true hp,if_pos rfl]
    exact h
   ·rw [valV_neg hp,decide_eq_false hp,if_neg (by decide)]
    exact ih
theorem tab_any {κ:Type} [DecidableEq κ] (f:κ→D) (hf:∀ a b,D.same (f a) (f b)=decide (a=b)) (k:κ):∀ {kk:List (κ × V)} {kvs:List (D × D)},kvs.map (·.1)=kk.map (fun p=>f p.1)→(kvs.any fun p=>D.same p.1 (f k))=kk.any fun p=>decide (p.1=k)
 | [],[],_=>rfl
 | [],_::_,e=>by cases e
 | _::_,[],e=>by cases e
 | p::kk,q::kvs,e=>by
  obtain ⟨e1,e2⟩:=List.cons.inj e
  rw [List.any_cons,List.any_cons,tab_any f hf k e2,show q.1=f p.1 from e1,hf]
theorem tab_put {κ:Type} [DecidableEq κ] (f:κ→D) (hf:∀ a b,D.same (f a) (f b)=decide (a=b)) (k:κ) {v:V} {d:D} (hv:Rp G ι Hf v d) {kk:List (κ × V)} {kvs:List (D × D)} (e:kvs.map (·.1)=kk.map (fun p=>f p.1)) (r:Rps G ι Hf (kk.map (·.2)) (kvs.map (·.2))) :
  (I.dPut (f k) d kvs).map (·.1)=(putK kk k v).map (fun p=>f p.1)∧Rps G ι Hf ((putK kk k v).map (·.2)) ((I.dPut (f k) d kvs).map (·.2)):=by
 unfold I.dPut putK
 rw [tab_any f hf k e]
 split
 ·rename_i hany
  clear hany
  induction kk generalizing kvs with
  | nil =>
   cases kvs with
   | nil=>exact ⟨rfl,.nil⟩
   | cons _ _=>cases e
  | cons p kk ih =>
   cases kvs with
   | nil=>cases e
   | cons q kvs =>
    obtain ⟨e1,e2⟩:=List.cons.inj e
    have e1':q.1=f p.1:=e1
    cases r with
    | cons h r =>
     obtain ⟨i1,i2⟩:=ih e2 r
     have hs:D.same q.1 (f k)=decide (p.1=k):=by rw [e1',hf]
     by_cases hp:p.1=k
     ·simp only [List.map_cons,hs,decide_eq_true hp,if_true,if_pos hp]
      exact ⟨by rw [i1,e1'],.cons hv i2⟩
     ·simp only [List.map_cons,hs,decide_eq_false hp,if_neg hp,Bool.false_eq_true,if_false]
      exact ⟨by rw [i1,e1'],.cons h i2⟩
 ·simp only [List.map_append,List.map_cons,List.map_nil]
  exact ⟨by rw [e],r.app (.cons hv .nil)⟩
theorem same_tkey (a b:List Key):D.same (.tup (a.map dKey)) (.tup (b.map dKey))=decide (a=b):=same_keys a b
theorem Rel.dget {x y:V} {n:Nat} {t:Bool} {kvs:List (D × D)} {k:D} (rel:Rel G ι Hf H os) (hx:Rp G ι Hf x (.cel n)) (hn:I.getC os n=some (.dct t kvs)) (hy:Rp G ι Hf y k) (hk:I.keyOk t k=true) :
  ∃ a r,x=.ref a∧ι[n]?=some a∧DGet H a y r∧ORp G ι Hf r (I.dGet k kvs):=by
 obtain ⟨a,h1,h2,h3⟩:=rel.cell n _ hn
 cases hx with
 | @cel a' n h =>
  rw [h] at h1
  cases h1
  cases t with
  | false =>
   obtain ⟨kk,g1,g2,g3⟩:=h3
   obtain ⟨key,rfl,rfl⟩:=key1 hy hk
   exact ⟨_,_,rfl,h,DGet.k g1,tab_get dKey same_key key g2 g3⟩
  | true =>
   obtain ⟨kk,g1,g2,g3⟩:=h3
   cases hy with
   | tup hb z r =>
    obtain ⟨keys,rfl,rfl⟩:=keys1 r hk
    exact ⟨_,_,rfl,h,DGet.t g1 (rel.sub _ _ hb),tab_get (fun ks:List Key=>D.tup (ks.map dKey)) same_tkey keys g2 g3⟩
   | _=>cases hk
theorem Rel.dput {x y v:V} {n:Nat} {t:Bool} {kvs:List (D × D)} {k d:D} (rel:Rel G ι Hf H os) (hx:Rp G ι Hf x (.cel n)) (hn:I.getC os n=some (.dct t kvs)) (hy:Rp G ι Hf y k) (hk:I.keyOk t k=true) (hv:Rp G ι Hf v d) (hl:kvs.length<SZ) :
  ∃ a H',x=.ref a∧ι[n]?=some a∧DPut H a y v H'∧Rel G ι Hf H' (os.set n (some (.dct t (I.dPut k d kvs)))):=by
 obtain ⟨a,h1,h2,h3⟩:=rel.cell n _ hn
 cases hx with
 | @cel a' n h =>
  rw [h] at h1
  cases h1
  cases t with
  | false =>
   obtain ⟨kk,g1,g2,g3⟩:=h3
   obtain ⟨key,rfl,rfl⟩:=key1 hy hk
   obtain ⟨p1,p2⟩:=tab_put dKey same_key key hv g2 g3
   have el:kk.length=kvs.length:=by have:=g3.len; simpa using this
   exact ⟨_,_,rfl,h,DPut.k g1 (by rw [el,← sz_eq]; exact hl),rel.putC hn h ⟨_,upd_same,p1,p2⟩⟩
  | true =>
   obtain ⟨kk,g1,g2,g3⟩:=h3
   cases hy with
   | tup hb z r =>
    obtain ⟨keys,rfl,rfl⟩:=keys1 r hk
    obtain ⟨p1,p2⟩:=tab_put (fun ks:List Key=>D.tup (ks.map dKey)) same_tkey keys hv g2 g3
    have el:kk.length=kvs.length:=by have:=g3.len; simpa using this
    exact ⟨_,_,rfl,h,DPut.t g1 (rel.sub _ _ hb) (by rw [el,← sz_eq]; exact hl),rel.putC hn h ⟨_,upd_same,p1,p2⟩⟩
   | _=>cases hk
end
end IS
namespace IS
open PySem PySem.Spec L2
open PyProof.Rows hiding St
open I (D Cell OS Fr R SZ Kt Ko)
section
variable {G:GI} {E:XK} {P:I.Pg} {KO:I.Orc} {W:Nat} {X:Cx}
theorem ix_dict (hu:X.A.units+1<cLine):IxR X (fun x y H Q=>∃ a v,x=.ref a∧DGet H a y (some v)∧Q v H):=by
 intro value slice pins s σ H x y v u Q I rx ry h hs
 obtain ⟨a,w,rfl,g,q⟩:=h
 cases rx
 exact tail_any (dict_typeIs I g) PySem.F.slot_dict_getitem.lookup (d_getItem hu I g ry fun w' s3 I3 rw'=>⟨w,H,I3,rw',q⟩) hs
noncomputable def rIxA (K:PySem.W.Frag):R2:=fun x y H Q=>rIx K x y H Q∨∃ a v,x=.ref a∧DGet H a y (some v)∧Q v H
theorem ix_all (hK:X.K=G.K) (hu:X.A.units+1<cLine):IxR X (rIxA G.K):=(hK ▸ ix_seq).or (ix_dict hu)
theorem at_get {ι:List Addr} {Hf:Hp} {vs:List V} {xs:List D} {i:Int} {d:D} (r:Rps G ι Hf vs xs) (h:((I.ixOf xs.length i).bind fun j=>xs[j]?)=some d):∃ v,atI vs i=some v∧Rp G ι Hf v d:=by
 cases e:I.ixOf xs.length i with
 | none=>rw [e] at h; cases h
 | some j =>
  rw [e] at h
  obtain ⟨v,h1,h2⟩:=r.get (show xs[j]?=some d from h)
  refine ⟨v,?_,h2⟩
  unfold atI
  rw [ix_eq,r.len,e]
  exact h1
theorem v_ix:VR2 G E .ix (rIxA G.K):=by
 intro ι Hf H os x y dx dy Q rel hx hy w
 cases hx with
 | lst h z r =>
  cases hy with
  | int i =>
   obtain ⟨d,e,w⟩:=WR.ofO w
   obtain ⟨v,h1,h2⟩:=at_get r e
   exact .inl (.inl ⟨_,_,_,v,rfl,rfl,SqL.of (rel.sub _ _ h),h1,w.now rel v h2⟩)
  | _=>exact False.elim w
 | scr h z r =>
  cases hy with
  | int i =>
   obtain ⟨d,e,w⟩:=WR.ofO w
   obtain ⟨v,h1,h2⟩:=at_get r e
   exact .inl (.inl ⟨_,_,_,v,rfl,rfl,rel.sub.seq h,h1,w.now rel v h2⟩)
  | _=>exact False.elim w
 | tup h z r =>
  cases hy with
  | int i =>
   obtain ⟨d,e,w⟩:=WR.ofO w
   obtain ⟨v,h1,h2⟩:=at_get r e
   exact .inl (.inr (.inl ⟨_,_,_,v,rfl,rfl,SqT.of (rel.sub _ _ h),h1,w.now rel v h2⟩))
  | _=>exact False.elim w
 | ktu h z r =>
  cases hy with
  | int i =>
   obtain ⟨d,e,w⟩:=WR.ofO w
   obtain ⟨v,h1,h2⟩:=at_get r e
   exact .inl (.inr (.inl ⟨_,_,_,v,rfl,rfl,Same.seqT rel.sub h,h1,w.now rel v h2⟩))
  | _=>exact False.elim w
 | str x =>
  cases hy with
  | int i =>
   obtain ⟨hz,w⟩:=WR.gd w
   obtain ⟨d,e,w⟩:=WR.ofO w
   have e':∃ c,atI x.cps.toList i=some c∧d=D.str [c]:=by
    unfold atI
    rw [ix_eq]
    cases e2:I.ixOf x.cps.toList.length i with
    | none=>rw [e2] at e; cases e
    | some j =>
     rw [e2] at e
     have e3:(x.cps.toList[j]?).map (fun c=>D.str [c])=some d:=e
     cases e4:x.cps.toList[j]? with
     | none=>rw [e4] at e3; cases e3
     | some c=>rw [e4] at e3; exact ⟨c,e4,(Option.some.inj e3).symm⟩
   obtain ⟨c,e1,rfl⟩:=e'
   exact .inl (.inr (.inr ⟨x,i,c,rfl,rfl,by rw [← sz_eq]; exact hz,e1,w.now rel _ (.str ⟨#[c]⟩)⟩))
  | _=>exact False.elim w
 | @cel a n h =>
  have w':WR G E ι Hf (match I.getC os n,dy with
   | some (.lst xs),.int i=>R.ofO ((I.ixOf xs.length i).bind fun j=>xs[j]?) os
   | some (.dct t kvs),k=>R.gd (I.keyOk t k=true) (R.ofO (I.dGet k kvs) os)
   | _,_=>R.stk) (fun ι' Hf' H' _ d=>∀ v,Rp G ι' Hf' v d→Q v H'):=by cases hy <;> exact w
  cases e:I.getC os n with
  | none=>rw [e] at w'; exact False.elim w'
  | some c =>
   rw [e] at w'
   cases c with
   | lst xs =>
    cases hy with
    | int i =>
     obtain ⟨d,e2,w⟩:=WR.ofO w'
     obtain ⟨a',vs,h1,h2,h3,h4,z,h5⟩:=rel.asC (.cel h) e
     cases h1
     obtain ⟨v,g1,g2⟩:=at_get h5 e2
     exact .inl (.inl ⟨_,_,_,v,rfl,rfl,SqL.of h4,g1,w.now rel v g2⟩)
    | _=>exact False.elim w'
   | dct t kvs =>
    have w2:WR G E ι Hf (R.gd (I.keyOk t dy=true) (R.ofO (I.dGet dy kvs) os)) (fun ι' Hf' H' _ d=>∀ v,Rp G ι' Hf' v d→Q v H'):=by cases hy <;> exact w'
    obtain ⟨hk,w2⟩:=WR.gd w2
    obtain ⟨d,e2,w2⟩:=WR.ofO w2
    obtain ⟨a',r,h1,h2,h3,h4⟩:=rel.dget (.cel h) e hy hk
    cases h1
    rw [e2] at h4
    cases r with
    | none=>exact False.elim h4
    | some v=>exact .inr ⟨_,v,rfl,h3,w2.now rel v h4⟩
   | ins _ _=>exact False.elim (by cases hy <;> exact w')
   | tab _=>exact False.elim (by cases hy <;> exact w')
 | _=>cases hy <;> exact False.elim w
noncomputable def rSlA (K:PySem.W.Frag):V→Option Int→Option Int→Hp→VK→Prop:=fun x lo hi H Q=>rSlL K x lo hi H Q∨(rSlT K x lo hi H Q∨rSlS x lo hi H Q)
theorem sl_all (hK:X.K=G.K):SlR X (rSlA G.K):=(hK ▸ sl_list).or ((hK ▸ sl_tup).or sl_str)
theorem deref_or {os:OS} (n:Nat):I.deref os (.cel n)=.cel n∨∃ xs,I.deref os (.cel n)=.lst xs:=by
 show (match I.getC os n with | some (.lst xs)=>D.lst xs | _=>D.cel n)=_∨∃ xs,(match I.getC os n with | some (.lst xs)=>D.lst xs | _=>D.cel n)=D.lst xs
 cases I.getC os n with
 | none=>exact .inl rfl
 | some c =>
  cases c with
  | lst xs=>exact .inr ⟨xs,rfl⟩
  | _=>exact .inl rfl
theorem v_sl {ι:List Addr} {Hf H:Hp} {os:OS} {x:V} {d:D} {o:Option Int × Option Int} {Q:VK} (rel:Rel G ι Hf H os) (hx:Rp G ι Hf x d)
  (w:WR G E ι Hf (I.slK os (I.deref os d) (some o)) (fun ι' Hf' H' _ d=>∀ v,Rp G ι' Hf' v d→Q v H')):rSlA G.K x o.1 o.2 H Q:=by
 have list:∀ {a:Addr} {vs:List V} {xs:List D},x=.ref a→SqL G.K H a vs→vs.length≤sizeLine→Rps G ι Hf vs xs→WR G E ι Hf (.ok (D.lst (I.cut xs o.1 o.2)) os) (fun ι' Hf' H' _ d=>∀ v,Rp G ι' Hf' v d→Q v H')→rSlA G.K x o.1 o.2 H Q:=fun {a vs xs} e hq z r w=>by
  refine .inl ⟨a,vs,e,hq,fun p hp => ?_⟩
  obtain ⟨x2,rr⟩:=rel.froze (o:=.lst (cutV vs o.1 o.2)) hp
  exact w ι _ _ x2 rr (.ref p) (.lst upd_same (Nat.le_trans (cutV_length _ _ _) z) ((cut_eq vs xs r o.1 o.2).ext x2))
 cases e:I.deref os d with
 | lst xs =>
  rw [e] at w
  obtain ⟨a,vs,rfl,h1,z,r⟩:=rel.asL hx e
  exact list rfl (SqL.of h1) z r w
 | scr xs =>
  rw [e] at w
  cases hx with
  | scr h z r=>cases e; exact list rfl (rel.sub.seq h) z r w
  | @cel a n h =>
   rcases deref_or (os:=os) n with q | ⟨ys,q⟩
   ·rw [q] at e; cases e
   ·rw [q] at e; cases e
  | _=>cases e
 | str l =>
  rw [e] at w
  obtain ⟨hz,w⟩:=WR.gd w
  cases hx with
  | str y =>
   cases e
   have e1:y.cps.toList.length=y.length:=Array.length_toList
   have ec:cutN y.cps.toList o.1 o.2=I.cut y.cps.toList o.1 o.2:=by
    have e3:∀ (n d:Nat) (o:Option Int),HT.sIx n d o=I.slAt n d o:=fun n d o=>by
     cases o with
     | none=>rfl
     | some i =>
      show (if i<0 then (i+(n:Int)).toNat else min i.toNat n)=if 0≤i then min i.toNat n else (i+(n:Int)).toNat
      by_cases hi:i<0
      ·rw [if_pos hi,if_neg (by omega)]
      ·rw [if_neg hi,if_pos (by omega)]
    unfold cutN I.cut
    rw [e3,e3]
   refine .inr (.inr ⟨y,rfl,by rw [e1] at hz; rw [sizeLine_eq]; omega,w.now rel _ ?_⟩)
   have:=Rp.str (G:=G) (ι:=ι) (Hf:=Hf) ⟨(cutN y.cps.toList o.1 o.2).toArray⟩
   rw [show (⟨(cutN y.cps.toList o.1 o.2).toArray⟩:Str).cps.toList=cutN y.cps.toList o.1 o.2 from List.toList_toArray ..,ec] at this
   rw [ec]
   exact this
  | @cel a n h =>
   rcases deref_or (os:=os) n with q | ⟨ys,q⟩
   ·rw [q] at e; cases e
   ·rw [q] at e; cases e
  | _=>cases e
 | tup xs =>
  rw [e] at w
  obtain ⟨hn,w⟩:=WR.gd w
  cases hx with
  | tup h z r =>
   cases e
   have e3:∀ (n d:Nat) (o:Option Int),HT.sIx n d o=I.slAt n d o:=fun n d o=>by
    cases o with
    | none=>rfl
    | some i =>
     show (if i<0 then (i+(n:Int)).toNat else min i.toNat n)=if 0≤i then min i.toNat n else (i+(n:Int)).toNat
     by_cases hi:i<0
     ·rw [if_pos hi,if_neg (by omega)]
     ·rw [if_neg hi,if_pos (by omega)]
   refine .inr (.inl ⟨_,_,rfl,SqT.of (rel.sub _ _ h),?_,fun p hp => ?_⟩)
   ·rw [e3,e3,r.len]; exact hn
   ·obtain ⟨x2,rr⟩:=rel.froze (o:=.tup (cutV _ o.1 o.2)) hp
    exact w ι _ _ x2 rr (.ref p) (.tup upd_same (Nat.le_trans (cutV_length _ _ _) z) ((cut_eq _ xs r o.1 o.2).ext x2))
  | @cel a n h =>
   rcases deref_or (os:=os) n with q | ⟨ys,q⟩
   ·rw [q] at e; cases e
   ·rw [q] at e; cases e
  | _=>cases e
 | _=>rw [e] at w; exact False.elim w
theorem v_slF {ι:List Addr} {Hf H:Hp} {os:OS} {x:V} {d:D} {o:Option Int × Option Int} {Q:VK} (rel:Rel G ι Hf H os) (hx:Rp G ι Hf x d)
  (w:WR G E ι Hf (I.slK os (I.deref os d) (some o)) (fun ι' Hf' H' _ d=>∃ xs,d=.lst xs∧∀ vs p,Rps G ι' Hf' vs xs→vs.length≤sizeLine→H' p=none→Q (.ref p) (upd H' p (.lst vs)))):rSlA G.K x o.1 o.2 H Q:=by
 have list:∀ {a:Addr} {vs:List V} {xs:List D},x=.ref a→SqL G.K H a vs→vs.length≤sizeLine→Rps G ι Hf vs xs→WR G E ι Hf (.ok (D.lst (I.cut xs o.1 o.2)) os) (fun ι' Hf' H' _ d=>∃ xs,d=.lst xs∧∀ vs p,Rps G ι' Hf' vs xs→vs.length≤sizeLine→H' p=none→Q (.ref p) (upd H' p (.lst vs)))→rSlA G.K x o.1 o.2 H Q:=fun {a vs xs} e hq z r w=>by
  refine .inl ⟨a,vs,e,hq,fun p hp => ?_⟩
  obtain ⟨zs,e,w⟩:=w.now rel
  cases e
  exact w _ p (cut_eq vs xs r o.1 o.2) (Nat.le_trans (cutV_length _ _ _) z) hp
 cases e:I.deref os d with
 | lst xs =>
  rw [e] at w
  obtain ⟨a,vs,rfl,h1,z,r⟩:=rel.asL hx e
  exact list rfl (SqL.of h1) z r w
 | scr xs =>
  rw [e] at w
  cases hx with
  | scr h z r=>cases e; exact list rfl (rel.sub.seq h) z r w
  | @cel a n h =>
   rcases deref_or (os:=os) n with q | ⟨ys,q⟩
   ·rw [q] at e; cases e
   ·rw [q] at e; cases e
  | _=>cases e
 | str l=>rw [e] at w; obtain ⟨_,e,_⟩:=(WR.gd w).2.now rel; cases e
 | tup xs=>rw [e] at w; obtain ⟨_,e,_⟩:=(WR.gd w).2.now rel; cases e
 | _=>rw [e] at w; exact False.elim w
end
end IS
namespace IS
open PySem PySem.Spec L2
open PyProof.Rows hiding St
open I (D Cell OS Fr R SZ Kt Ko)
section
variable {G:GI} {E:XK} {P:I.Pg} {KO:I.Orc} {W:Nat} {X:Cx}
theorem v_max2:VRs G E .max2 (fun xs H Q=>∃ i j,xs=[.int i,.int j]∧Q (.int (if j > i then j else i)) H):=by
 intro ι Hf H os xs ds Q rel hx w
 obtain ⟨i,j,e,w⟩:=WR.int2 w
 cases e
 obtain ⟨x,y,rfl,h1,h2⟩:=hx.two
 obtain rfl:=h1.int_of
 obtain rfl:=h2.int_of
 exact ⟨_,_,rfl,w.now rel _ (.int _)⟩
theorem asBools_map:∀ {ds:List D} {bs:List Bool},I.asBools ds=some bs→ds=bs.map D.bl
 | [],bs,h=>by cases h; rfl
 | .bl b::r,bs,h=>by
  cases e:I.asBools r with
  | none=>rw [show I.asBools (.bl b::r)=(I.asBools r).map (b :: ·) from rfl,e] at h; cases h
  | some l =>
   rw [show I.asBools (.bl b::r)=(I.asBools r).map (b :: ·) from rfl,e] at h
   cases h
   rw [asBools_map e]
   rfl
 | .non::_,_,h=>by cases h
 | .int _::_,_,h=>by cases h
 | .str _::_,_,h=>by cases h
 | .lst _::_,_,h=>by cases h
 | .tup _::_,_,h=>by cases h
 | .scr _::_,_,h=>by cases h
 | .ktu _::_,_,h=>by cases h
 | .cel _::_,_,h=>by cases h
 | .exn _ _::_,_,h=>by cases h
theorem asInts_map:∀ {ds:List D} {bs:List Int},I.asInts ds=some bs→ds=bs.map D.int
 | [],bs,h=>by cases h; rfl
 | .int b::r,bs,h=>by
  cases e:I.asInts r with
  | none=>rw [show I.asInts (.int b::r)=(I.asInts r).map (b :: ·) from rfl,e] at h; cases h
  | some l =>
   rw [show I.asInts (.int b::r)=(I.asInts r).map (b :: ·) from rfl,e] at h
   cases h
   rw [asInts_map e]
   rfl
 | .non::_,_,h=>by cases h
 | .bl _::_,_,h=>by cases h
 | .str _::_,_,h=>by cases h
 | .lst _::_,_,h=>by cases h
 | .tup _::_,_,h=>by cases h
 | .scr _::_,_,h=>by cases h
 | .ktu _::_,_,h=>by cases h
 | .cel _::_,_,h=>by cases h
 | .exn _ _::_,_,h=>by cases h
theorem Rps.ints {ι:List Addr} {Hf:Hp}:∀ {vs:List V} {ns:List Int},Rps G ι Hf vs (ns.map D.int)→vs=ns.map V.int
 | _,[],.nil=>rfl
 | _,n::ns,.cons h r=>by
  cases h
  rw [Rps.ints r]
  rfl
theorem Rps.bools {ι:List Addr} {Hf:Hp}:∀ {vs:List V} {ns:List Bool},Rps G ι Hf vs (ns.map D.bl)→vs=ns.map V.bl
 | _,[],.nil=>rfl
 | _,n::ns,.cons h r=>by
  cases h
  rw [Rps.bools r]
  rfl
noncomputable def tyN:I.Ty→String
 | .int => "int" | .bool => "bool" | .list => "list" | .tuple => "tuple" | .str => "str"
noncomputable def rInst (K:PySem.W.Frag):List V→Hp→VK→Prop:=fun xs H Q=>∃ x c cv t b,xs=[x,c]∧TyOf K H x t∧clsV c=some cv∧PySem.W.kitOne K t cv=some b∧Q (.bl b) H
theorem kitT (K:PySem.W.Frag) {a b:String} {k:Bool} (h0:(Value.type a == Value.type b)=false) (h1:PySem.W.kitMeta b=true) (h2:(fastBuiltinMro a).map (·.contains (Value.type b))=some k):PySem.W.kitOne K (.type a) (.type b)=some k:=by
 unfold PySem.W.kitOne
 rw [if_neg (by rw [h0]; decide)]
 show (if PySem.W.kitMeta b=true then PySem.W.subIn K (.type a) (.type b) else none)=some k
 rw [if_pos h1]
 exact h2
theorem kitS (K:PySem.W.Frag) (a:String):PySem.W.kitOne K (.type a) (.type a)=some true:=by
 unfold PySem.W.kitOne
 rw [if_pos (by simp)]
theorem km (t:I.Ty):PySem.W.kitMeta (tyN t)=true:=by cases t <;> kernel_rfl
theorem kit_non (K:PySem.W.Frag) (t:I.Ty):PySem.W.kitOne K (.type "NoneType") (.type (tyN t))=some false:=by
 refine kitT K ?_ (km t) ?_
 ·cases t <;> rfl
 ·cases t <;> kernel_rfl
theorem kit_bl (K:PySem.W.Frag) (t:I.Ty):PySem.W.kitOne K (.type "bool") (.type (tyN t))=some (match t with | .int=>true | .bool=>true | _=>false):=by
 cases t with
 | bool=>exact kitS K _
 | int=>exact kitT K rfl (km .int) (by kernel_rfl)
 | list=>exact kitT K rfl (km .list) (by kernel_rfl)
 | tuple=>exact kitT K rfl (km .tuple) (by kernel_rfl)
 | str=>exact kitT K rfl (km .str) (by kernel_rfl)
theorem kit_int (K:PySem.W.Frag) (t:I.Ty):PySem.W.kitOne K (.type "int") (.type (tyN t))=some (match t with | .int=>true | _=>false):=by
 cases t with
 | int=>exact kitS K _
 | bool=>exact kitT K rfl (km .bool) (by kernel_rfl)
 | list=>exact kitT K rfl (km .list) (by kernel_rfl)
 | tuple=>exact kitT K rfl (km .tuple) (by kernel_rfl)
 | str=>exact kitT K rfl (km .str) (by kernel_rfl)
theorem kit_list (K:PySem.W.Frag) (t:I.Ty):PySem.W.kitOne K (.type "list") (.type (tyN t))=some (match t with | .list=>true | _=>false):=by
 cases t with
 | list=>exact kitS K _
 | int=>exact kitT K rfl (km .int) (by kernel_rfl)
 | bool=>exact kitT K rfl (km .bool) (by kernel_rfl)
 | tuple=>exact kitT K rfl (km .tuple) (by kernel_rfl)
 | str=>exact kitT K rfl (km .str) (by kernel_rfl)
theorem kit_tup (K:PySem.W.Frag) (t:I.Ty):PySem.W.kitOne K (.type "tuple") (.type (tyN t))=some (match t with | .tuple=>true | _=>false):=by
 cases t with
 | tuple=>exact kitS K _
 | int=>exact kitT K rfl (km .int) (by kernel_rfl)
 | bool=>exact kitT K rfl (km .bool) (by kernel_rfl)
 | list=>exact kitT K rfl (km .list) (by kernel_rfl)
 | str=>exact kitT K rfl (km .str) (by kernel_rfl)
theorem kit_str (K:PySem.W.Frag) (t:I.Ty):PySem.W.kitOne K (.type "str") (.type (tyN t))=some (match t with | .str=>true | _=>false):=by
 cases t with
 | str=>exact kitS K _
 | int=>exact kitT K rfl (km .int) (by kernel_rfl)
 | bool=>exact kitT K rfl (km .bool) (by kernel_rfl)
 | list=>exact kitT K rfl (km .list) (by kernel_rfl)
 | tuple=>exact kitT K rfl (km .tuple) (by kernel_rfl)
theorem v_inst (t:I.Ty) {ι:List Addr} {Hf H:Hp} {os:OS} {x:V} {d:D} {Q:VK} (rel:Rel G ι Hf H os) (hx:Rp G ι Hf x d)
  (w:WR G E ι Hf (I.pr (.isInst t) [d] os) (fun ι' Hf' H' _ d=>∀ v,Rp G ι' Hf' v d→Q v H')):rInst G.K [x,.ty (tyN t)] H Q:=by
 obtain ⟨d',e,w⟩:=WR.ofO (show WR G E ι Hf (R.ofO ((I.isTy t (I.deref os d)).map D.bl) os) _ from w)
 cases e2:I.isTy t (I.deref os d) with
 | none=>rw [e2] at e; cases e
 | some b =>
  rw [e2] at e
  cases e
  have fin:∀ {tv:Value} {k:Bool},TyOf G.K H x tv→PySem.W.kitOne G.K tv (.type (tyN t))=some k→b=k→rInst G.K [x,.ty (tyN t)] H Q:=fun {tv k} h1 h2 h3 =>
   ⟨x,_,_,tv,k,rfl,h1,rfl,h2,by rw [← h3]; exact w.now rel _ (.bl _)⟩
  cases hx with
  | non=>exact fin .non (kit_non _ t) (by cases t <;> cases e2 <;> rfl)
  | bl b'=>exact fin (.bl b') (kit_bl _ t) (by cases t <;> cases e2 <;> rfl)
  | int i=>exact fin (.int i) (kit_int _ t) (by cases t <;> cases e2 <;> rfl)
  | str i=>exact fin (.str i) (kit_str _ t) (by cases t <;> cases e2 <;> rfl)
  | lst h z r=>exact fin (.lst (rel.sub _ _ h)) (kit_list _ t) (by cases t <;> cases e2 <;> rfl)
  | tup h z r=>exact fin (.tup (rel.sub _ _ h)) (kit_tup _ t) (by cases t <;> cases e2 <;> rfl)
  | scr h z r=>cases t <;> cases e2
  | ktu h z r=>cases t <;> cases e2
  | fn _ _=>cases t <;> cases e2
  | @cel a n h =>
   rcases deref_or (os:=os) n with q | ⟨ys,q⟩
   ·rw [q] at e2; cases t <;> cases e2
   ·rw [q] at e2
    obtain ⟨a',vs,h1,h2,h3,h4,z,h5⟩:=rel.asC (.cel h) (deref_cel q)
    cases h1
    exact fin (.lst h4) (kit_list _ t) (by cases t <;> cases e2 <;> rfl)
noncomputable def VRm (G:GI) (E:XK) (p:I.Pr) (r:V→List V→Hp→VK→Prop):Prop:=∀ ι Hf H os x xs d ds (Q:VK),Rel G ι Hf H os→Rp G ι Hf x d→Rps G ι Hf xs ds →
 WR G E ι Hf (I.pr p (d::ds) os) (fun ι' Hf' H' _ d=>∀ v,Rp G ι' Hf' v d→Q v H')→r x xs H Q
noncomputable def rkN:I.Rk→String
 | .list => "list" | .dict => "dict" | .int => "int" | .str => "str"
theorem recv_ty {ι:List Addr} {Hf H:Hp} {os:OS} {x:V} {d:D} {k:I.Rk} (rel:Rel G ι Hf H os) (hx:Rp G ι Hf x d) (h:I.recv os k d=true):tyV G.K (rkN k) x H:=by
 cases hx with
 | int i=>cases k <;> first | rfl | cases h
 | str i=>cases k <;> first | rfl | cases h
 | lst g z r =>
  cases k with
  | list=>exact .inl ⟨rfl,_,SqL.of (rel.sub _ _ g)⟩
  | _=>cases h
 | scr g z r =>
  cases k with
  | list=>exact .inl ⟨rfl,_,rel.sub.seq g⟩
  | _=>cases h
 | @cel a n g =>
  have h':I.cellIs k (I.getC os n)=true:=by cases k <;> exact h
  cases e:I.getC os n with
  | none=>rw [e] at h'; cases k <;> cases h'
  | some c =>
   rw [e] at h'
   obtain ⟨a',g1,g2,g3⟩:=rel.cell n c e
   rw [g] at g1
   cases g1
   cases c with
   | lst xs =>
    cases k with
    | list=>obtain ⟨vs,q1,_⟩:=g3; exact .inl ⟨rfl,vs,SqL.of q1⟩
    | _=>cases h'
   | dct t kvs =>
    cases k with
    | dict =>
     cases t with
     | false=>obtain ⟨kk,q1,_⟩:=g3; exact .inr (.inr (.inl ⟨rfl,.inl ⟨kk,q1⟩⟩))
     | true=>obtain ⟨kk,q1,_⟩:=g3; exact .inr (.inr (.inl ⟨rfl,.inr ⟨kk,q1⟩⟩))
    | _=>cases h'
   | ins _ _=>cases k <;> cases h'
   | tab _=>cases k <;> cases h'
 | _=>cases k <;> cases h
theorem t_bm {p:I.Pr} {o:I.E} {es:I.Es} {r:V→List V→Hp→VK→Prop} (hv:VRm G E p r) (σ:St) (H:Hp) (Q:VK) (h:T G E P KO (.bm p o es) σ H Q):tBM G.K (rkN (I.rkOf p)) r (T G E P KO o) (Ts G E P KO es) σ H Q:=by
 obtain ⟨ι,Hf,ρ,os,rel,rf,w⟩:=h
 refine T.use rel rf (WR.bind (k:=⟨_⟩) w) fun ι1 Hf1 H1 os1 d1 v1 x1 r1 f1 hv1 q1 => ?_
 obtain ⟨hr,q1⟩:=WR.gd q1
 exact ⟨recv_ty r1 hv1 hr,Ts.use r1 f1 (WR.bind (k:=⟨_⟩) q1) fun ι2 Hf2 H2 os2 ds vs x2 r2 f2 hvs q2=>hv ι2 Hf2 H2 os2 v1 vs d1 ds Q r2 (hv1.ext x2) hvs q2⟩
theorem t_bm0 {p:I.Pr} {o:I.E} {r:V→List V→Hp→VK→Prop} (hv:VRm G E p r) (σ:St) (H:Hp) (Q:VK) (h:T G E P KO (.bm p o .nil) σ H Q):tBM0 G.K (rkN (I.rkOf p)) r (T G E P KO o) σ H Q:=by
 obtain ⟨ι,Hf,ρ,os,rel,rf,w⟩:=h
 refine T.use rel rf (WR.bind (k:=⟨_⟩) w) fun ι1 Hf1 H1 os1 d1 v1 x1 r1 f1 hv1 q1 => ?_
 obtain ⟨hr,q1⟩:=WR.gd q1
 exact ⟨recv_ty r1 hv1 hr,hv ι1 Hf1 H1 os1 v1 [] d1 [] Q r1 hv1 .nil q1⟩
theorem v_append:VRm G E .append rAppend:=by
 intro ι Hf H os x xs d ds Q rel hx hxs w
 cases hxs with
 | nil=>exact False.elim (by cases hx <;> exact w)
 | cons hy r =>
  cases r with
  | cons _ _=>exact False.elim (by cases hx <;> exact w)
  | nil =>
   cases hx with
   | @cel a n h =>
    rename_i y dy
    have w':WR G E ι Hf (match I.getC os n with | some (.lst xs)=>R.gd (xs.length<SZ) (R.ok D.non (os.set n (some (.lst (xs++[dy]))))) | _=>R.stk) (fun ι' Hf' H' _ d=>∀ v,Rp G ι' Hf' v d→Q v H'):=w
    cases e:I.getC os n with
    | none=>rw [e] at w'; exact False.elim w'
    | some c =>
     rw [e] at w'
     cases c with
     | lst xs =>
      obtain ⟨hz,w'⟩:=WR.gd w'
      obtain ⟨a',vs,h1,h2,h3,h4,z,h5⟩:=rel.asC (.cel h) e
      cases h1
      have hz':vs.length<sizeLine:=by rw [h5.len,← sz_eq]; exact hz
      refine ⟨_,vs,_,rfl,rfl,h4,hz',?_⟩
      have rr:=rel.putC e h (o:=.lst (vs++[y])) (c':=.lst (xs++[dy])) ⟨_,upd_same,by rw [List.length_append]; exact hz',h5.app (.cons hy .nil)⟩
      exact w' ι Hf _ .refl rr _ .non
     | _=>exact False.elim w'
   | _=>exact False.elim w
end
end IS
namespace IS
open PySem PySem.Spec L2
open PyProof.Rows hiding St
open I (D Cell OS Fr R SZ Kt Ko)
section
variable {G:GI} {E:XK} {P:I.Pg} {KO:I.Orc} {W:Nat} {X:Cx} {e a b c d:Expr} {ea eb ec ed:I.E} {pos:Pos}
theorem s_var {i:Nat} {x:Str} (hN:X.N[i]?=some x) (hv:Vis X.env.scope x) (hd:(x == ("__debug__" : Str))=false) (hcd:(x == ("__classdict__" : Str))=false):PE X (.Name x pos) (T G E P KO (.v i)) :=
 PE.weak (pe_var hN hv hd hcd) fun σ H Q ⟨ι,Hf,ρ,os,rel,rf,w⟩=>by
  obtain ⟨d,e,w⟩:=WR.ofO w
  obtain ⟨v,h1,h2⟩:=rf.lk e
  exact ⟨v,h1,w.now rel v h2⟩
theorem s_int {i:Int} {j:Nat}:PE X (.Constant (.int i) j pos) (T G E P KO (.c (.int i))):=PE.weak pe_int fun σ H Q ⟨ι,Hf,ρ,os,rel,rf,w⟩=>w.now rel _ (.int _)
theorem s_bl {i:Bool} {j:Nat}:PE X (.Constant (.bool i) j pos) (T G E P KO (.c (.bl i))):=PE.weak pe_bl fun σ H Q ⟨ι,Hf,ρ,os,rel,rf,w⟩=>w.now rel _ (.bl _)
theorem s_non {j:Nat}:PE X (.Constant .none j pos) (T G E P KO (.c .non)):=PE.weak pe_non fun σ H Q ⟨ι,Hf,ρ,os,rel,rf,w⟩=>w.now rel _ .non
theorem s_str {x:Str} {j:Nat}:PE X (.Constant (.str x) j pos) (T G E P KO (.c (.str x.cps.toList))):=PE.weak pe_str fun σ H Q ⟨ι,Hf,ρ,os,rel,rf,w⟩=>w.now rel _ (.str _)
theorem s_glob {x:Str} {i:Nat} {v:V} {u:Value} (hg:Gl X x) (hm:X.mg x=some u) (r:RelV v u) (hd:(x == ("__debug__" : Str))=false) (hr:∀ ι Hf,Rp G ι Hf v (P.g i)):PE X (.Name x pos) (T G E P KO (.g i)) :=
 PE.weak (pe_glob hg hm r hd) fun σ H Q ⟨ι,Hf,ρ,os,rel,rf,w⟩=>w.now rel v (hr ι Hf)
theorem s_op {op:Operator} {r:R2} {p:I.Pr} (ho:OpR X (binaryOp op) r) (hv:VR2 G E p r) (ha:PE X a (T G E P KO ea)) (hb:PE X b (T G E P KO eb)):PE X (.BinOp a op b pos) (T G E P KO (.pr p (.cons ea (.cons eb .nil)))) :=
 PE.weak (pe_op ho ha hb) (t_op hv)
theorem s_un {op:UnaryOp} {r:V→Hp→VK→Prop} {p:I.Pr} (ho:UnR X (unaryOp op) r) (hv:VR1 G E p r) (ha:PE X a (T G E P KO ea)):PE X (.UnaryOp op a pos) (T G E P KO (.pr p (.cons ea .nil))) :=
 PE.weak (pe_un ho ha) (t_un hv)
theorem s_cmp {op:CmpOp} {r:R2} {p:I.Pr} (ho:OpR X (compareOp op) r) (hv:VR2 G E p r) (ha:PE X a (T G E P KO ea)) (hb:PE X b (T G E P KO eb)) (hm:behindInMarks op b=false):PE X (.Compare a [op] [b] pos) (T G E P KO (.pr p (.cons ea (.cons eb .nil)))) :=
 PE.weak (pe_cmpR ho ha hb hm) (t_op hv)
theorem t_test {ea:I.E} (σ:St) (H:Hp) (Q:Bool→Hp→Prop) (h:TCo G E P KO (.e ea) σ H Q) (hb:∀ ρ os d os',I.ev P KO ea ρ os=.ok d os'→∃ k,d=.bl k):T G E P KO ea σ H (fun x H1=>∃ k,x=.bl k∧Q k H1):=by
 obtain ⟨ι,Hf,ρ,os,rel,rf,w⟩:=h
 refine ⟨ι,Hf,ρ,os,rel,rf,?_⟩
 have w':=WR.bind (k:=⟨_⟩) w
 cases e1:I.ev P KO ea ρ os with
 | stk=>rw [e1] at w'; exact w'
 | exc c p os'=>rw [e1] at w'; exact w'
 | ok d os' =>
  rw [e1] at w'
  obtain ⟨k,rfl⟩:=hb ρ os d os' e1
  intro ι' Hf' H' x r v hv
  cases hv
  exact ⟨k,rfl,(w' ι' Hf' H' x r).now r⟩
theorem s_ix {r:R2} {p:I.Pr} (ho:IxR X r) (hv:VR2 G E p r) (ha:PE X a (T G E P KO ea)) (hb:PE X b (T G E P KO eb)) (hs:PlainIx b):PE X (.Subscript a b pos) (T G E P KO (.pr p (.cons ea (.cons eb .nil)))) :=
 PE.weak (pe_ix ho ha hb hs) (t_op hv)
theorem s_and {rest:List Expr} (ha:PE X a (T G E P KO ea)) (hb:PE X (.BoolOp .And (b::rest) pos) (T G E P KO eb)):PE X (.BoolOp .And (a::b::rest) pos) (T G E P KO (.and ea eb)) :=
 PE.weak (pe_and ha hb) fun σ H Q ⟨ι,Hf,ρ,os,rel,rf,w⟩=>T.use rel rf (WR.bind (k:=⟨_⟩) w) fun ι1 Hf1 H1 os1 d v x1 r1 f1 hv q=>by
  cases hv with
  | bl k =>
   refine ⟨k,rfl,?_⟩
   cases k with
   | true=>rw [if_pos rfl]; exact ⟨ι1,Hf1,ρ,os1,r1,f1,q⟩
   | false=>rw [if_neg (by decide)]; exact q.now r1 _ (.bl _)
  | _=>exact False.elim q
theorem s_or {rest:List Expr} (ha:PE X a (T G E P KO ea)) (hb:PE X (.BoolOp .Or (b::rest) pos) (T G E P KO eb)):PE X (.BoolOp .Or (a::b::rest) pos) (T G E P KO (.or ea eb)) :=
 PE.weak (pe_or ha hb) fun σ H Q ⟨ι,Hf,ρ,os,rel,rf,w⟩=>T.use rel rf (WR.bind (k:=⟨_⟩) w) fun ι1 Hf1 H1 os1 d v x1 r1 f1 hv q=>by
  cases hv with
  | bl k =>
   refine ⟨k,rfl,?_⟩
   cases k with
   | true=>rw [if_pos rfl]; exact q.now r1 _ (.bl _)
   | false=>rw [if_neg (by decide)]; exact ⟨ι1,Hf1,ρ,os1,r1,f1,q⟩
  | _=>exact False.elim q
theorem s_not (ha:PE X a (T G E P KO ea)):PE X (.UnaryOp .Not a pos) (T G E P KO (.not ea)) :=
 PE.weak (pe_not ha) fun σ H Q ⟨ι,Hf,ρ,os,rel,rf,w⟩=>T.use rel rf (WR.bind (k:=⟨_⟩) w) fun ι1 Hf1 H1 os1 d v x1 r1 f1 hv q=>by
  cases hv with
  | bl k=>exact ⟨k,rfl,q.now r1 _ (.bl _)⟩
  | _=>exact False.elim q
theorem s_ite {cc:I.C} (hc:PT X c (TCo G E P KO cc)) (ha:PE X a (T G E P KO ea)) (hb:PE X b (T G E P KO eb)):PE X (.IfExp c a b pos) (T G E P KO (.ite cc ea eb)) :=
 PE.weak (pe_ifExp hc ha hb) fun σ H Q ⟨ι,Hf,ρ,os,rel,rf,w⟩=>TCo.use rel rf (WR.bind (k:=⟨_⟩) w) fun ι1 Hf1 H1 os1 k x1 r1 f1 q=>by
  cases k with
  | true=>rw [if_pos rfl]; exact ⟨ι1,Hf1,ρ,os1,r1,f1,q⟩
  | false=>rw [if_neg (by decide)]; exact ⟨ι1,Hf1,ρ,os1,r1,f1,q⟩
theorem c_and {rest:List Expr} {ca cb:I.C} (ha:PT X a (TCo G E P KO ca)) (hb:PW X (.BoolOp .And (b::rest) pos) (TCo G E P KO cb)):PW X (.BoolOp .And (a::b::rest) pos) (TCo G E P KO (.and ca cb)) :=
 PW.weak (pw_and ha hb) fun σ H Q ⟨ι,Hf,ρ,os,rel,rf,w⟩=>TCo.use rel rf (WR.bind (k:=⟨_⟩) w) fun ι1 Hf1 H1 os1 k x1 r1 f1 q=>by
  cases k with
  | true=>rw [if_pos rfl]; exact ⟨ι1,Hf1,ρ,os1,r1,f1,q⟩
  | false=>rw [if_neg (by decide)]; exact q.now r1
theorem c_or {rest:List Expr} {ca cb:I.C} (ha:PT X a (TCo G E P KO ca)) (hb:PW X (.BoolOp .Or (b::rest) pos) (TCo G E P KO cb)):PW X (.BoolOp .Or (a::b::rest) pos) (TCo G E P KO (.or ca cb)) :=
 PW.weak (pw_or ha hb) fun σ H Q ⟨ι,Hf,ρ,os,rel,rf,w⟩=>TCo.use rel rf (WR.bind (k:=⟨_⟩) w) fun ι1 Hf1 H1 os1 k x1 r1 f1 q=>by
  cases k with
  | true=>rw [if_pos rfl]; exact q.now r1
  | false=>rw [if_neg (by decide)]; exact ⟨ι1,Hf1,ρ,os1,r1,f1,q⟩
theorem c_not {ca:I.C} (ha:PT X a (TCo G E P KO ca)):PT X (.UnaryOp .Not a pos) (TCo G E P KO (.not ca)) :=
 PT.weak (pt_not ha) fun σ H Q ⟨ι,Hf,ρ,os,rel,rf,w⟩=>TCo.use rel rf (WR.bind (k:=⟨_⟩) w) fun ι1 Hf1 H1 os1 k x1 r1 f1 q=>q.now r1
theorem tru_of {ι:List Addr} {Hf H:Hp} {os:OS} {x:V} {d:D} {k:Bool} (rel:Rel G ι Hf H os) (hx:Rp G ι Hf x d) (h:I.truth os d=some k):TruV G.K x H k:=by
 cases hx with
 | non=>cases h; rfl
 | bl b=>cases h; rfl
 | int i =>
  cases h
  show decide (i≠0)=(i != 0)
  by_cases hi:i=0 <;> simp [hi]
 | str x =>
  have h0:(if x.cps.toList.length≤SZ then some (!x.cps.toList.isEmpty) else none)=some k:=h
  split at h0
  case isFalse=>cases h0
  rename_i hz0
  cases h0
  refine ⟨by rw [← sz_eq]; exact hz0,?_⟩
  have:(x.cps.toList).isEmpty=decide (x.length=0):=by
   show (x.cps.toList).isEmpty=decide (x.cps.size=0)
   cases e:x.cps.toList with
   | nil =>
    have:x.cps.size=0:=by rw [← Array.length_toList,e]; rfl
    simp [this]
   | cons a r =>
    have:x.cps.size=r.length+1:=by rw [← Array.length_toList,e]; rfl
    simp [this]
  rw [this]
  by_cases hz:x.length=0
  ·simp [hz]
  ·simp [hz]
 | lst g z r=>cases h; exact .inl ⟨_,SqL.of (rel.sub _ _ g),by cases r <;> rfl⟩
 | scr g z r=>cases h; exact .inl ⟨_,rel.sub.seq g,by cases r <;> rfl⟩
 | tup g z r=>cases h; exact .inr (.inl ⟨_,SqT.of (rel.sub _ _ g),by cases r <;> rfl⟩)
 | ktu g z r=>cases h; exact .inr (.inl ⟨_,Same.seqT rel.sub g,by cases r <;> rfl⟩)
 | fn _ _=>cases h
 | @cel a n g =>
  have h':(match I.getC os n with | some (.lst xs)=>some (!xs.isEmpty) | some (.dct false kvs)=>some (!kvs.isEmpty) | some (.ins _ _)=>none | _=>none)=some k:=h
  cases e:I.getC os n with
  | none=>rw [e] at h'; cases h'
  | some c =>
   rw [e] at h'
   obtain ⟨a',g1,g2,g3⟩:=rel.cell n c e
   rw [g] at g1
   cases g1
   cases c with
   | lst xs =>
    cases h'
    obtain ⟨vs,q1,z,q2⟩:=g3
    exact .inl ⟨vs,SqL.of q1,by cases q2 <;> rfl⟩
   | dct t kvs =>
    cases t with
    | true=>cases h'
    | false =>
     cases h'
     obtain ⟨kk,q1,q2,q3⟩:=g3
     refine .inr (.inr ⟨kk,q1,?_⟩)
     cases kk with
     | nil=>cases kvs with
      | nil=>rfl
      | cons _ _=>cases q2
     | cons _ _=>cases kvs with
      | nil=>cases q2
      | cons _ _=>rfl
   | ins _ _=>cases h'
   | tab _=>cases h'
end
end IS
namespace IS
open PySem PySem.Spec L2
open PyProof.Rows hiding St
open I (D Cell OS Fr R SZ Kt Ko)
section
variable {G:GI} {E:XK} {P:I.Pg} {KO:I.Orc} {W:Nat} {X:Cx} {e a b c d:Expr} {ea eb ec ed:I.E} {pos:Pos}
theorem c_e (hK:X.K=G.K) (ha:PE X a (T G E P KO ea)) (he:∀ whole,isTrue a X.env whole=(do let v ← whole; standAt a.pos; holding [v] (truthy v))):PT X a (TCo G E P KO (.e ea)) :=
 PT.weak (pt_truth ha he) fun σ H Q ⟨ι,Hf,ρ,os,rel,rf,w⟩=>T.use rel rf (WR.bind (k:=⟨_⟩) w) fun ι1 Hf1 H1 os1 d v x1 r1 f1 hv q=>by
  obtain ⟨k,e,q⟩:=WR.ofO q
  exact ⟨k,hK ▸ tru_of r1 hv e,q.now r1⟩
theorem cmp_bl {o:I.Cop} {x y:D} {os os':OS} {d:D} (h:I.cmp o x y os=.ok d os'):∃ k,d=.bl k:=by
 have of1:∀ {r:Option Bool} {f:Bool→Bool},R.ofO (r.map fun x=>D.bl (f x)) os=.ok d os'→∃ k,d=.bl k:=fun {r f} h=>by
  cases r with
  | none=>cases h
  | some k=>cases h; exact ⟨_,rfl⟩
 unfold I.cmp at h
 split at h
 ·exact of1 (f:=id) h
 ·exact of1 h
 ·exact of1 (f:=id) h
 ·split at h <;> first | (cases h; exact ⟨_,rfl⟩) | cases h
 ·split at h <;> first | (cases h; exact ⟨_,rfl⟩) | cases h
 ·split at h <;> first | (cases h; exact ⟨_,rfl⟩) | cases h
 ·split at h <;> first | (cases h; exact ⟨_,rfl⟩) | cases h
 ·split at h <;> first | (cases h; exact ⟨_,rfl⟩) | cases h
 ·exact of1 (f:=id) h
 ·exact of1 h
 ·split at h
  ·exact of1 (f:=id) h
  ·cases h
theorem c_cmp {op:CmpOp} {r:R2} {o:I.Cop} (ho:OpR X (compareOp op) r) (hv:VR2 G E (.cmp o) r) (ha:PE X a (T G E P KO ea)) (hb:PE X b (T G E P KO eb)) (hm:behindInMarks op b=false):PT X (.Compare a [op] [b] pos) (TCo G E P KO (.e (.pr (.cmp o) (.cons ea (.cons eb .nil))))) :=
 PT.weak (pt_cmpR ho ha hb hm) fun σ H Q h=>t_op hv σ H _ (t_test σ H Q h fun ρ os d os' e=>by
  have e':@R.bind _ _ (I.evs P KO (.cons ea (.cons eb .nil)) ρ os) ⟨fun ds os1=>I.pr (.cmp o) ds os1⟩=.ok d os':=e
  cases e2:I.evs P KO (.cons ea (.cons eb .nil)) ρ os with
  | stk=>rw [e2] at e'; cases e'
  | exc c p os2=>rw [e2] at e'; cases e'
  | ok ds os2 =>
   rw [e2] at e'
   have e3:I.pr (.cmp o) ds os2=R.ok d os':=e'
   clear e' e2
   cases ds with
   | nil=>cases (show (R.stk:R D)=R.ok d os' from e3)
   | cons a r=>cases r with
    | nil=>cases (show (R.stk:R D)=R.ok d os' from e3)
    | cons b r=>cases r with
     | nil=>exact cmp_bl (show I.cmp o a b os2=R.ok d os' from e3)
     | cons _ _=>cases (show (R.stk:R D)=R.ok d os' from e3))
noncomputable def esLen:I.Es→Nat
 | .nil=>0
 | .cons _ es=>esLen es+1
theorem bind_some {α β:Type} {r:R α} {f:α→OS→R β} {b:β} {os':OS} (h:@R.bind α β r ⟨f⟩=.ok b os'):∃ a os1,r=.ok a os1∧f a os1=.ok b os':=by
 cases r with
 | ok a os=>exact ⟨a,os,rfl,h⟩
 | exc c p os=>cases h
 | stk=>cases h
theorem evs_len:∀ {es:I.Es} {ρ:Fr} {os os':OS} {ds:List D},I.evs P KO es ρ os=.ok ds os'→ds.length=esLen es
 | .nil,_,_,_,_,h=>by cases h; rfl
 | .cons e es,_,_,_,_,h=>by
  obtain ⟨d,os1,_,h2⟩:=bind_some (f:=fun d os1 => @R.bind _ _ (I.evs P KO es _ os1) ⟨fun ds os2=>.ok (d::ds) os2⟩) h
  obtain ⟨ds,os2,h3,h4⟩:=bind_some (f:=fun ds os2=>R.ok (d::ds) os2) h2
  cases h4
  show ds.length+1=_
  rw [evs_len h3]
  rfl
theorem WR.evsLen {es:I.Es} {ρ:Fr} {ι:List Addr} {Hf:Hp} {os:OS} {Q:List Addr→Hp→Hp→OS→List D→Prop} (w:WR G E ι Hf (I.evs P KO es ρ os) Q):WR G E ι Hf (I.evs P KO es ρ os) (fun ι' Hf' H' os' ds=>ds.length=esLen es∧Q ι' Hf' H' os' ds):=by
 cases e:I.evs P KO es ρ os with
 | stk=>rw [e] at w; exact w
 | exc c p os'=>rw [e] at w; exact w
 | ok ds os' =>
  rw [e] at w
  exact fun ι' Hf' H' x r=>⟨evs_len e,w ι' Hf' H' x r⟩
theorem s_lstF {es:List Expr} {as:I.Es} (h:PA X es (Ts G E P KO as)) (hl:esLen as≤1000):PE X (.List es pos) (TF G E P KO (.lst as)) :=
 PE.weak (pe_lst h) fun σ H Q ⟨ι,Hf,ρ,os,rel,rf,w⟩=>Ts.use rel rf (WR.evsLen (WR.bind (k:=⟨_⟩) w)) fun ι1 Hf1 H1 os1 ds vs x1 r1 f1 hvs ⟨hz,q⟩=>by
  have hz':vs.length≤sizeLine:=by rw [hvs.len,hz]; exact Nat.le_of_lt (small1000 hl)
  refine ⟨hz',fun p hp => ?_⟩
  obtain ⟨zs,e,q⟩:=q.now r1
  cases e
  exact q vs p hvs hz' hp
theorem s_froze (h:PE X e (TF G E P KO ea)) (hd:∀ ρ os d os',I.ev P KO ea ρ os=.ok d os'→∃ xs,d=.lst xs):PE X e (T G E P KO ea):=PE.weak h (t_froze hd)
theorem s_cell (h:PE X e (TF G E P KO ea)):PE X e (T G E P KO (.cell ea)):=PE.weak h t_cell
theorem lst_is {as:I.Es} (ρ:Fr) (os:OS) (d:D) (os':OS) (h:I.ev P KO (.lst as) ρ os=.ok d os'):∃ xs,d=.lst xs:=by
 obtain ⟨ds,os1,_,h2⟩:=bind_some (f:=fun ds os1=>R.ok (D.lst ds) os1) h
 cases h2
 exact ⟨_,rfl⟩
theorem s_fz (h:PE X e (T G E P KO ea)):PE X e (T G E P KO (.fz ea)) :=
 PE.weak h fun σ H Q ⟨ι,Hf,ρ,os,rel,rf,w⟩=>T.use rel rf (WR.bind (k:=⟨_⟩) w) fun ι1 Hf1 H1 os1 d v x1 r1 f1 hv q=>by
  cases hv with
  | @cel a n h =>
   have q':WR G E ι1 Hf1 (I.fzC n os1 (I.getC os1 n)) (fun ι' Hf' H' _ d=>∀ v,Rp G ι' Hf' v d→Q v H'):=q
   cases e:I.getC os1 n with
   | none=>rw [e] at q'; exact False.elim q'
   | some c =>
    rw [e] at q'
    cases c with
    | lst xs =>
     obtain ⟨a',vs,h1,x2,rr,hr⟩:=r1.fz e
     rw [h] at h1
     cases h1
     exact q' ι1 _ H1 x2 rr _ hr
    | _=>exact False.elim q'
  | _=>exact False.elim q
end
end IS
namespace IS
open PySem PySem.Spec L2
open PyProof.Rows hiding St
open I (D Cell OS Fr R SZ Kt Ko)
theorem pi_seq {X:Cx} {tg l:Expr} {tl:TE} (hl:PE X l tl):PI X tg l (fun σ H R=>tl σ H fun x H1=>∃ a,x=.ref a∧(((∃ xs,SqL X.K H1 a xs)∧R (Itl X.K a) H1)∨((∃ xs,SqT X.K H1 a xs)∧R (Itt X.K a) H1))):=by
 intro pins s σ H R I h
 refine thn (hl pins s σ H _ I h) fun v s1 ⟨x,H1,I1,r1,q1⟩ => ?_
 obtain ⟨a,e,alt⟩:=q1
 subst e
 cases r1
 rcases alt with ⟨⟨xs,hq⟩,q⟩ | ⟨⟨xs,hq⟩,q⟩
 ·obtain ⟨its,rv,p,hz⟩:=I1.list hq
  refine wpAny_pyIter_list p.isList ?_
  refine ⟨s1.heap.objs.size,[s1.heap.objs.size],_,_,H1,rfl,I1.kept (t':=s1.toks) fun b o e=>Heap.get?_push_of_some _ e,turn_list a _,⟨_,Heap.get?_push_size _ rfl,rfl,rfl⟩,fun b hb => ?_,q⟩
  have e:b=s1.heap.objs.size:=by simpa using hb
  subst e
  exact I1.fpOk (Nat.le_refl _) (I1.hok.fresh (Nat.le_refl _))
 ·obtain ⟨its,rv,p,hz⟩:=I1.tuple hq
  refine wpAny_pyIter_tuple (show s1.heap.IsTuple a its.toArray from p) ?_
  refine ⟨s1.heap.objs.size,[s1.heap.objs.size],_,_,H1,rfl,I1.kept (t':=s1.toks) fun b o e=>Heap.get?_push_of_some _ e,turn_tuple a _,⟨_,Heap.get?_push_size _ rfl,rfl,rfl⟩,fun b hb => ?_,q⟩
  have e:b=s1.heap.objs.size:=by simpa using hb
  subst e
  exact I1.fpOk (Nat.le_refl _) (I1.hok.fresh (Nat.le_refl _))
section
variable {G:GI} {E:XK} {P:I.Pg} {KO:I.Orc} {W:Nat} {X:Cx} {e a b c d l:Expr} {ea eb ec ed:I.E} {pos:Pos} {tg:Expr}
theorem items_or {os:OS} {d:D} {xs:List D} (h:I.items os d=some xs):I.itemsL os d=some xs∨I.itemsT d=some xs:=by
 cases d <;> first | exact .inl h | exact .inr h | cases h
theorem laterL {ι:List Addr} {Hf H:Hp} {os:OS} {x:V} {d:D} {xs:List D} (rel:Rel G ι Hf H os) (hx:Rp G ι Hf x d) (hd:I.itemsL os d=some xs) :
  ∃ a,x=.ref a∧∀ ι' Hf' H' os',Ext ι Hf ι' Hf'→Rel G ι' Hf' H' os'→I.stay os [d] os'→∃ vs,SqL G.K H' a vs∧vs.length≤sizeLine∧Rps G ι' Hf' vs xs:=by
 cases hx with
 | lst h z r=>cases hd; exact ⟨_,rfl,fun ι' Hf' H' os' x2 r2 _=>⟨_,SqL.of (r2.sub _ _ (x2.sub _ _ h)),z,r.ext x2⟩⟩
 | scr h z r=>cases hd; exact ⟨_,rfl,fun ι' Hf' H' os' x2 r2 _=>⟨_,r2.sub.seq (x2.sub.seq h),z,r.ext x2⟩⟩
 | @cel a n h =>
  refine ⟨a,rfl,fun ι' Hf' H' os' x2 r2 st => ?_⟩
  have e:I.getC os n=some (.lst xs):=items_cel hd
  have e2:I.getC os' n=some (.lst xs):=st.1.trans e
  obtain ⟨a',vs,h1,h2,h3,h4,z,h5⟩:=r2.asC (.cel (x2.get h)) e2
  cases h1
  exact ⟨vs,SqL.of h4,z,h5⟩
 | _=>cases hd
theorem laterT {ι:List Addr} {Hf H:Hp} {os:OS} {x:V} {d:D} {xs:List D} (rel:Rel G ι Hf H os) (hx:Rp G ι Hf x d) (hd:I.itemsT d=some xs) :
  ∃ a,x=.ref a∧∀ ι' Hf' H' os',Ext ι Hf ι' Hf'→Rel G ι' Hf' H' os'→∃ vs,SqT G.K H' a vs∧vs.length≤sizeLine∧Rps G ι' Hf' vs xs:=by
 cases hx with
 | tup h z r=>cases hd; exact ⟨_,rfl,fun ι' Hf' H' os' x2 r2=>⟨_,SqT.of (r2.sub _ _ (x2.sub _ _ h)),z,r.ext x2⟩⟩
 | ktu h z r=>cases hd; exact ⟨_,rfl,fun ι' Hf' H' os' x2 r2=>⟨_,Same.seqT r2.sub (Same.seqT x2.sub h),z,r.ext x2⟩⟩
 | _=>cases hd
theorem stay_refl {os:OS}:∀ (ds:List D),I.stay os ds os
 | []=>trivial
 | .cel n::r=>⟨rfl,stay_refl r⟩
 | .non::r=>stay_refl r
 | .bl _::r=>stay_refl r
 | .int _::r=>stay_refl r
 | .str _::r=>stay_refl r
 | .lst _::r=>stay_refl r
 | .tup _::r=>stay_refl r
 | .scr _::r=>stay_refl r
 | .ktu _::r=>stay_refl r
 | .exn _ _::r=>stay_refl r
theorem j_list {ι:List Addr} {Hf:Hp} {os:OS} {a:Addr} {ds xs:List D} (h:∀ ι' Hf' H' os',Ext ι Hf ι' Hf'→Rel G ι' Hf' H' os'→I.stay os ds os'→∃ vs,SqL G.K H' a vs∧vs.length≤sizeLine∧Rps G ι' Hf' vs xs):JOk G (Itl G.K a) ι Hf os ds xs:=by
 intro i ι' Hf' H' os' x2 r2 st
 obtain ⟨vs,hq,z,r⟩:=h ι' Hf' H' os' x2 r2 st
 refine ⟨fun x hx => ?_,fun hn _=>⟨vs,hq,by rw [r.len]; exact List.getElem?_eq_none_iff.mp hn⟩⟩
 obtain ⟨v,h1,h2⟩:=r.get hx
 refine ⟨⟨vs,v,hq,h1⟩,fun v' H'' y => ?_⟩
 obtain ⟨e,y⟩:=y
 subst e
 have:=y vs hq
 rw [h1] at this
 cases this
 exact ⟨Hf',.refl,r2,h2⟩
theorem j_tup {ι:List Addr} {Hf:Hp} {os:OS} {a:Addr} {ds xs:List D} (h:∀ ι' Hf' H' os',Ext ι Hf ι' Hf'→Rel G ι' Hf' H' os'→∃ vs,SqT G.K H' a vs∧vs.length≤sizeLine∧Rps G ι' Hf' vs xs):JOk G (Itt G.K a) ι Hf os ds xs:=by
 intro i ι' Hf' H' os' x2 r2 st
 obtain ⟨vs,hq,z,r⟩:=h ι' Hf' H' os' x2 r2
 refine ⟨fun x hx => ?_,fun hn _=>⟨vs,hq,by rw [r.len]; exact List.getElem?_eq_none_iff.mp hn⟩⟩
 obtain ⟨v,h1,h2⟩:=r.get hx
 refine ⟨⟨vs,v,hq,h1⟩,fun v' H'' y => ?_⟩
 obtain ⟨e,y⟩:=y
 subst e
 have:=y vs hq
 rw [h1] at this
 cases this
 exact ⟨Hf',.refl,r2,h2⟩
theorem i_seq (hK:X.K=G.K) (h:PE X e (T G E P KO ea)):PI X tg e (TIr G E P KO (.seq ea)) :=
 PI.weak (pi_seq h) fun σ H R ⟨ι,Hf,ρ,os,rel,rf,w⟩=>T.use rel rf (WR.bind (k:=⟨_⟩) w) fun ι1 Hf1 H1 os1 d v x1 r1 f1 hv q=>by
  obtain ⟨p,e,q⟩:=WR.ofO q
  cases e2:I.items os1 d with
  | none=>rw [e2] at e; cases e
  | some xs =>
   rw [e2] at e
   cases e
   rw [hK]
   rcases items_or e2 with e3 | e3
   ·obtain ⟨a,rfl,la⟩:=laterL r1 hv e3
    obtain ⟨vs,hq,_⟩:=la ι1 Hf1 H1 os1 .refl r1 (stay_refl _)
    exact ⟨a,rfl,.inl ⟨⟨vs,hq⟩,q.now r1 _ (j_list la)⟩⟩
   ·obtain ⟨a,rfl,la⟩:=laterT r1 hv e3
    obtain ⟨vs,hq,_⟩:=la ι1 Hf1 H1 os1 .refl r1
    exact ⟨a,rfl,.inr ⟨⟨vs,hq⟩,q.now r1 _ (j_tup la)⟩⟩
theorem j_rng {ι:List Addr} {Hf:Hp} {os:OS} (lo:Int) (n:Nat):JOk G (Itr lo n) ι Hf os [] ((List.range n).map fun k=>D.int (lo+(k:Nat))):=by
 intro i ι' Hf' H' os' x2 r2 st
 refine ⟨fun x hx => ?_,fun hn _ => ?_⟩
 ·rw [List.getElem?_map] at hx
  cases e:(List.range n)[i]? with
  | none=>rw [e] at hx; cases hx
  | some k =>
   rw [e] at hx
   cases hx
   have hi:i<n:=by
    have:=(List.getElem?_eq_some_iff.mp e).1
    rwa [List.length_range] at this
   rw [List.getElem?_range hi] at e
   cases e
   refine ⟨hi,fun v H'' y => ?_⟩
   obtain ⟨e1,e2⟩:=y
   subst e1 e2
   exact ⟨Hf',.refl,r2,.int _⟩
 ·have:=List.getElem?_eq_none_iff.mp hn
  rw [List.length_map,List.length_range] at this
  exact this
end
end IS
namespace IS
open PySem PySem.Spec L2
open PyProof.Rows hiding St
open I (D Cell OS Fr R SZ Kt Ko)
section
variable {G:GI} {E:XK} {P:I.Pg} {KO:I.Orc} {W:Nat} {X:Cx} {e a b c d l:Expr} {ea eb ec ed:I.E} {p pos:Pos} {tg:Expr}
theorem i_rng1 (hg:Gl X "range") (hm:X.mg "range" = none) (ha:PA X [a] (Ts G E P KO (.cons ea .nil))) (hs:starEach [a] X.env=[(false,eval a X.env)]):PI X tg (.Call (.Name "range" p) [a] [] pos) (TIr G E P KO (.rng (.cons ea .nil))) :=
 PI.weak (pi_range1 hg hm ha hs) fun σ H R ⟨ι,Hf,ρ,os,rel,rf,w⟩=>Ts.use rel rf (WR.evsLen (WR.bind (k:=⟨_⟩) w)) fun ι1 Hf1 H1 os1 ds vs x1 r1 f1 hvs ⟨hl,q⟩=>by
  cases hvs with
  | nil=>cases hl
  | cons hv r =>
   cases r with
   | cons _ _=>cases hl
   | nil =>
    cases hv with
    | int j =>
     obtain ⟨⟨h1,h2⟩,q⟩:=WR.gd q
     refine ⟨j,rfl,h1,h2,q.now r1 _ ?_⟩
     have:=j_rng (G:=G) (ι:=ι1) (Hf:=Hf1) (os:=os1) 0 j.toNat
     simpa using this
    | _=>exact False.elim q
theorem i_rng2 (hg:Gl X "range") (hm:X.mg "range" = none) (ha:PA X [a,b] (Ts G E P KO (.cons ea (.cons eb .nil)))) (hs:starEach [a,b] X.env=[(false,eval a X.env),(false,eval b X.env)]) (hs2:starEach [b] X.env=[(false,eval b X.env)]):PI X tg (.Call (.Name "range" p) [a,b] [] pos) (TIr G E P KO (.rng (.cons ea (.cons eb .nil)))) :=
 PI.weak (pi_range2 hg hm ha hs hs2) fun σ H R ⟨ι,Hf,ρ,os,rel,rf,w⟩=>Ts.use rel rf (WR.evsLen (WR.bind (k:=⟨_⟩) w)) fun ι1 Hf1 H1 os1 ds vs x1 r1 f1 hvs ⟨hl,q⟩=>by
  match ds,vs,hvs,hl with
  | [d1,d2],[v1,v2],hvs,_ =>
   obtain ⟨_,_,ee,h1,h2⟩:=hvs.two
   cases ee
   obtain ⟨i,j,rfl,rfl⟩:=WR.rng2 q
   obtain rfl:=h1.int_of
   obtain rfl:=h2.int_of
   obtain ⟨h,q⟩:=WR.gd q
   exact ⟨i,j,rfl,h,q.now r1 _ (j_rng i _)⟩
  | [d1,d2],[],hvs,_=>cases hvs
  | [d1,d2],[_],hvs,_=>obtain ⟨_,_,ee,_⟩:=hvs.two; cases ee
  | [d1,d2],_::_::_::_,hvs,_=>obtain ⟨_,_,ee,_⟩:=hvs.two; cases ee
theorem i_rng3 (hg:Gl X "range") (hm:X.mg "range" = none) (ha:PA X [a,b,c] (Ts G E P KO (.cons ea (.cons eb (.cons ec .nil))))) (hs:starEach [a,b,c] X.env=(false,eval a X.env)::starEach [b,c] X.env) (hs2:(backTo pos (starEach [b,c] X.env)).any (·.1)=false):PI X tg (.Call (.Name "range" p) [a,b,c] [] pos) (TIr G E P KO (.rng (.cons ea (.cons eb (.cons ec .nil))))) :=
 PI.weak (pi_range3 hg hm ha hs hs2) fun σ H R ⟨ι,Hf,ρ,os,rel,rf,w⟩=>Ts.use rel rf (WR.evsLen (WR.bind (k:=⟨_⟩) w)) fun ι1 Hf1 H1 os1 ds vs x1 r1 f1 hvs ⟨hl,q⟩=>by
  match ds,hl with
  | [d1,d2,d3],_ =>
   obtain ⟨v1,v2,v3,rfl,h1,h2,h3⟩:=hvs.three
   obtain ⟨i,j,k,rfl,rfl,rfl⟩:=WR.rng3 q
   obtain rfl:=h1.int_of
   obtain rfl:=h2.int_of
   obtain rfl:=h3.int_of
   exact by
     exact by
      obtain ⟨⟨a1,a2,a3,a4,a5,a6⟩,q⟩:=WR.gd q
      have hsz0:Builtin.Range.rangeSize i j k=if i<j then (j - i - 1) / k+1 else 0:=by
       unfold Builtin.Range.rangeSize
       rw [if_pos (show k > 0 from a5)]
      have hnn:0≤(if i<j then (j - i - 1) / k+1 else 0)∧(if i<j then (j - i - 1) / k+1 else 0)≤2 ^ 42:=by
       split
       ·have h1:0≤(j - i - 1) / k:=Int.ediv_nonneg (by omega) (by omega)
        have h2:(j - i - 1) / k≤j - i - 1:=Int.ediv_le_self _ (by omega)
        omega
       ·omega
      have hsz:Builtin.Range.rangeSize i j k=((if i<j then (j - i - 1) / k+1 else 0).toNat:Int):=by
       rw [hsz0,Int.toNat_of_nonneg hnn.1]
      refine ⟨i,j,k,(if i<j then (j - i - 1) / k+1 else 0).toNat,rfl,by omega,by omega,?_,hsz,q.now r1 _ ?_⟩
      ·unfold Builtin.Range.small
       rw [hsz0]
       generalize (if i<j then (j - i - 1) / k+1 else 0)=z at hnn
       simp only [Builtin.Range.rangeFitsLong,Bool.and_eq_true,Bool.or_eq_true,decide_eq_true_eq,beq_iff_eq,show k > 0 from a5,if_true]
       omega
      ·intro n ι' Hf' H' os' x2 r2 st
       refine ⟨fun x hx => ?_,fun hn _ => ?_⟩
       ·rw [List.getElem?_map] at hx
        cases e:(List.range (if i<j then (j - i - 1) / k+1 else 0).toNat)[n]? with
        | none=>rw [e] at hx; cases hx
        | some m =>
         rw [e] at hx
         cases hx
         have hi:n<(if i<j then (j - i - 1) / k+1 else 0).toNat:=by
          have:=(List.getElem?_eq_some_iff.mp e).1
          rwa [List.length_range] at this
         rw [List.getElem?_range hi] at e
         cases e
         refine ⟨hi,fun v H'' y => ?_⟩
         obtain ⟨e1,e2⟩:=y
         subst e1 e2
         exact ⟨Hf',.refl,r2,.int _⟩
       ·have:=List.getElem?_eq_none_iff.mp hn
        rw [List.length_map,List.length_range] at this
        exact this
end
end IS
namespace IS
open PySem PySem.Spec L2
open PyProof.Rows hiding St
open I (D Cell OS Fr R SZ Kt Ko)
section
variable {G:GI} {E:XK} {P:I.Pg} {KO:I.Orc} {W:Nat} {X:Cx} {e a b c d l:Expr} {ea eb ec ed:I.E} {p pos:Pos} {tg iter:Expr}
theorem g_name {i:Nat} {x:Str} (hN:X.N.Nodup) (hi:X.N[i]?=some x) (hx:Loc X.env.scope x) (hf:X.fn x=true∨X.env.scope.names.lookup x=some .local):PG X (.Name x pos) (TTg G (.v i)) :=
 PG.weak (pg_name hN hi hx hf) fun v σ H Q ⟨ι,Hf,ρ,os,d,rel,rf,hv,ρ',e,q⟩=>by
  cases e
  exact q _ (rf.st hv i)
noncomputable def TTgs (G:GI) (is:List Nat):TGs:=fun vs σ H Q=>∃ ι Hf ρ os ds,Rel G ι Hf H os∧Rf G ι Hf σ ρ∧Rps G ι Hf vs ds∧∃ ρ',I.stAll ρ is ds=some ρ'∧∀ σ',Rf G ι Hf σ' ρ'→Q σ' H
theorem PGs.weak {ts:List Expr} {t t':TGs} (h:PGs X ts t) (m:∀ v σ H Q,t' v σ H Q→t v σ H Q):PGs X ts t':=fun pins s σ H vs us Q I r hw=>h pins s σ H vs us Q I r (m vs σ H Q hw)
theorem gs_nil:PGs X [] (TTgs G []):=PGs.weak pgs_nil fun vs σ H Q ⟨ι,Hf,ρ,os,ds,rel,rf,hv,ρ',e,q⟩=>by
 cases ds with
 | cons _ _=>cases e
 | nil=>cases hv; cases e; exact ⟨rfl,q _ rf⟩
theorem gs_cons {i:Nat} {is:List Nat} {es:List Expr} (h1:PG X e (TTg G (.v i))) (h2:PGs X es (TTgs G is)) (hs:(assignEach (e::es) X.env).map (·.2)=assign e X.env::(assignEach es X.env).map (·.2)):PGs X (e::es) (TTgs G (i::is)) :=
 PGs.weak (pgs_cons h1 h2 hs) fun vs σ H Q ⟨ι,Hf,ρ,os,ds,rel,rf,hv,ρ',e,q⟩=>by
  cases hv with
  | nil=>cases e
  | cons hv hr =>
   exact ⟨_,_,rfl,ι,Hf,ρ,os,_,rel,rf,hv,_,rfl,fun σ' rf'=>⟨ι,Hf,_,os,_,rel,rf',hr,ρ',e,q⟩⟩
theorem g_tup {is:List Nat} {es:List Expr} {k n:Nat} (hK:X.K=G.K) (hc:X.calm=true) (h:PGs X es (TTgs G is)) (hl:is.length=n) (hn:(assignEach es X.env).length=n) (hst:(assignEach es X.env).findIdx? (·.1)=none):PG X (.Tuple es k pos) (TTg G (.tup is)) :=
 PG.weak (pg_tup hc h hn hst) fun v σ H Q ⟨ι,Hf,ρ,os,d,rel,rf,hv,ρ',e,q⟩=>by
  have key:∀ {ρ:Fr} {is:List Nat} {ds:List D} {ρ':Fr},I.stAll ρ is ds=some ρ'→ds.length=is.length:=fun {ρ is ds ρ'}=>by
   induction is generalizing ρ ds with
   | nil=>intro h; cases ds with
    | nil=>rfl
    | cons _ _=>cases h
   | cons i is ih=>intro h; cases ds with
    | nil=>cases h
    | cons d ds=>exact congrArg (· + 1) (ih h)
  cases hv with
  | tup hh z r=>exact ⟨_,_,rfl,hK ▸ SqT.of (rel.sub _ _ hh),by rw [r.len,key (show I.stAll ρ is _=some ρ' from e),hl],ι,Hf,ρ,os,_,rel,rf,r,ρ',e,q⟩
  | _=>cases e
theorem s_for {t:I.Tg} {it:I.It} {bs:I.Ss} {body:List Stmt} (hp:PassesOwn (model X.prog X.w) X.A X.env X.xe) (hc:X.calm=true) (hi:PI X tg iter (TIr G E P KO it)) (hg:PG X tg (TTg G t)) (hb:PSs X body (TSts G E P KO W bs))
  (hs:∀ x,foldedSetIterable iter X.env x=pure x):PS X (.For tg iter body [] pos) (TSt G E P KO W (.fr t it bs)) :=
 PS.weak (ps_for hp hc hi hg hb hs) fun D σ H ⟨ι,Hf,ρ,os,rel,rf,w⟩=>by
  refine ⟨ι,Hf,ρ,os,rel,rf,(WR.bind (k:=⟨_⟩) w).mono ?_⟩
  rintro ι1 Hf1 H1 os1 ⟨ds,xs⟩ x1 r1 q J hJ
  have q0:WR G E ι1 Hf1 (I.forL (body:=⟨fun x ρ os=>I.turnS (k:=⟨fun ρ1 os2=>I.execs P KO W bs ρ1 os2⟩) os (I.bindT t x ρ)⟩) (I.stay os1 ds) xs ρ os1) (WS G D):=q
  refine ⟨fun i m σ H=>m=xs.length - i∧∃ ι Hf ρ os,Ext ι1 Hf1 ι Hf∧Rel G ι Hf H os∧Rf G ι Hf σ ρ∧i≤xs.length ∧
   WR G E ι Hf (I.forL (body:=⟨fun x ρ os=>I.turnS (k:=⟨fun ρ1 os2=>I.execs P KO W bs ρ1 os2⟩) os (I.bindT t x ρ)⟩) (I.stay os1 ds) (xs.drop i) ρ os) (WS G D),
   ⟨xs.length,rfl,ι1,Hf1,ρ,os1,.refl,r1,rf.ext x1,Nat.zero_le _,q0⟩,?_⟩
  rintro i m σ2 H2 ⟨rfl,ι2,Hf2,ρ2,os2,x2,r2,f2,hi2,w2⟩
  cases e:xs[i]? with
  | none =>
   have hil:i=xs.length:=by have:=List.getElem?_eq_none_iff.mp e; omega
   rw [List.drop_of_length_le (by omega)] at w2
   unfold I.forL at w2
   split at w2
   ·rename_i lv
    exact .inl ⟨(hJ i ι2 Hf2 H2 os2 x2 r2 lv).2 e hil,w2.now r2 σ2 f2⟩
   ·exact False.elim w2
  | some x =>
   have hil:i<xs.length:=(List.getElem?_eq_some_iff.mp e).1
   have ed:xs.drop i=x::xs.drop (i+1):=by
    rw [List.drop_eq_getElem_cons hil]
    rw [List.getElem?_eq_getElem hil] at e
    rw [Option.some.inj e]
   rw [ed] at w2
   unfold I.forL at w2
   split at w2
   ·rename_i lv
    obtain ⟨go,yl⟩:=(hJ i ι2 Hf2 H2 os2 x2 r2 lv).1 x e
    refine .inr ⟨go,fun σ' H'=>∃ ι Hf ρ os,Ext ι1 Hf1 ι Hf∧Rel G ι Hf H' os∧Rf G ι Hf σ' ρ ∧
     WR G E ι Hf (I.forL (body:=⟨fun x ρ os=>I.turnS (k:=⟨fun ρ1 os2=>I.execs P KO W bs ρ1 os2⟩) os (I.bindT t x ρ)⟩) (I.stay os1 ds) (xs.drop (i+1)) ρ os) (WS G D),
     fun σ' H' ⟨ι,Hf,ρ,os,h1,h2,h3,h4⟩=>⟨xs.length - (i+1),by omega,rfl,ι,Hf,ρ,os,h1,h2,h3,hil,h4⟩,fun v H3 y => ?_⟩
    obtain ⟨Hf3,x3,r3,hv⟩:=yl v H3 y
    have w3:=WR.bind (k:=⟨_⟩) (w2.ext x3)
    have w3':WR G E ι2 Hf3 (I.turnS (k:=⟨fun ρ1 os2=>I.execs P KO W bs ρ1 os2⟩) os2 (I.bindT t x ρ2)) _:=w3
    cases eb:I.bindT t x ρ2 with
    | none=>rw [eb] at w3'; exact False.elim w3'
    | some ρ3 =>
     rw [eb] at w3'
     refine ⟨ι2,Hf3,ρ2,os2,x,r3,f2.ext x3,hv,ρ3,eb,fun σ3 f3=>⟨ι2,Hf3,ρ3,os2,r3,f3,?_⟩⟩
     refine WR.mono (show WR G E ι2 Hf3 (I.execs P KO W bs ρ3 os2) _ from w3') ?_
     rintro ι4 Hf4 H4 os4 ⟨f,ρ4⟩ x4 r4 q4
     cases f with
     | nx=>exact fun σ4 f4=>⟨ι4,Hf4,ρ4,os4,x2.trans (x3.trans x4),r4,f4,q4⟩
     | ct=>exact fun σ4 f4=>⟨ι4,Hf4,ρ4,os4,x2.trans (x3.trans x4),r4,f4,q4⟩
     | bk=>exact q4.now r4
     | rt d=>exact q4.now r4
   ·exact False.elim w2
end
end IS
namespace IS
open PySem PySem.Spec L2
open PyProof.Rows hiding St
open I (D Cell OS Fr R SZ Kt Ko)
section
variable {G:GI} {E:XK} {P:I.Pg} {KO:I.Orc} {W:Nat} {X:Cx} {e a b c d l:Expr} {ea eb ec ed:I.E} {p pos:Pos} {tg iter:Expr}
theorem Rf.forget {ι:List Addr} {Hf:Hp} {fr:Fr}:∀ {nl:Nat} {σ:St} {ρ:Fr},Rf G ι Hf σ (ρ++fr)→ρ.length=nl→Rf G ι Hf σ (List.replicate nl none++fr)
 | 0,σ,ρ,h,e=>by
  have:ρ=[]:=List.length_eq_zero_iff.mp e
  subst this
  exact h
 | n+1,σ,[],h,e=>by cases e
 | n+1,σ,x::ρ,h,e=>by
  cases h with
  | no r=>exact .no (Rf.forget r (by simpa using e))
  | so _ r=>exact .no (Rf.forget r (by simpa using e))
theorem st_app {fr:Fr} {d:D}:∀ (ρ:Fr) (i:Nat),i<ρ.length→I.st (ρ++fr) i d=I.st ρ i d++fr∧(I.st ρ i d).length=ρ.length
 | x::ρ,0,_=>⟨rfl,rfl⟩
 | x::ρ,i+1,h=>by
  obtain ⟨h1,h2⟩:=st_app ρ i (by simpa using h)
  exact ⟨congrArg (x :: ·) h1,congrArg (· + 1) h2⟩
noncomputable def tgLow (nl:Nat):I.Tg→Bool
 | .v i=>decide (i<nl)
 | .tup is=>is.all fun i=>decide (i<nl)
theorem bindT_app {fr:Fr} {t:I.Tg} {d:D} {ρ ρ':Fr} (ht:tgLow ρ.length t=true) (h:I.bindT t d (ρ++fr)=some ρ'):∃ ρ2,ρ'=ρ2++fr∧ρ2.length=ρ.length:=by
 cases t with
 | v i =>
  cases h
  obtain ⟨h1,h2⟩:=st_app (fr:=fr) (d:=d) ρ i (of_decide_eq_true ht)
  exact ⟨_,h1,h2⟩
 | tup is =>
  cases d with
  | tup ds =>
   have h':I.stAll (ρ++fr) is ds=some ρ':=h
   clear h
   induction is generalizing ρ ds with
   | nil=>cases ds with
    | nil=>cases h'; exact ⟨_,rfl,rfl⟩
    | cons _ _=>cases h'
   | cons i is ih=>cases ds with
    | nil=>cases h'
    | cons d ds =>
     rw [show tgLow ρ.length (.tup (i::is))=(decide (i<ρ.length)&&tgLow ρ.length (.tup is)) from rfl] at ht
     obtain ⟨t1,t2⟩:=Bool.and_eq_true_iff.mp ht
     obtain ⟨h1,h2⟩:=st_app (fr:=fr) (d:=d) ρ i (of_decide_eq_true t1)
     have h3:I.stAll (I.st (ρ++fr) i d) is ds=some ρ':=h'
     rw [h1] at h3
     obtain ⟨ρ2,e1,e2⟩:=ih (ρ:=I.st ρ i d) (by rw [h2]; exact t2) ds h3
     exact ⟨ρ2,e1,e2.trans h2⟩
  | _=>cases h
theorem WR.noExc {α:Type} {r:R α} {ι:List Addr} {Hf:Hp} {Q:List Addr→Hp→Hp→OS→α→Prop} (w:WR G E ι Hf (I.noExc r) Q):WR G E0 ι Hf r Q:=by
 cases r with
 | ok a os=>exact w
 | exc c p os=>exact False.elim w
 | stk=>exact w
theorem t_comp {nl:Nat} {fr:List Nat} {t:I.Tg} {it:I.It} {cd:I.C} {el:I.E} {fin:List V→Hp→Prop} {σ:St} {H:Hp} (ht:tgLow nl t=true)
  (h:∃ ι Hf ρ os,Rel G ι Hf H os∧Rf G ι Hf σ ρ∧WR G E ι Hf (I.ev P KO (.comp nl fr t it cd el) ρ os) (fun ι' Hf' H' _ d=>∃ xs,d=.lst xs∧∀ vs,Rps G ι' Hf' vs xs→vs.length≤sizeLine→fin vs H')) :
  tCompW nl fr (TIr G E P KO it) (TTg G t) (TCo G E0 P KO cd) (T G E0 P KO el) fin σ H:=by
 obtain ⟨ι,Hf,ρ,os,rel,rf,w⟩:=h
 refine ⟨ι,Hf,ρ,os,rel,rf,(WR.bind (k:=⟨_⟩) w).mono ?_⟩
 rintro ι1 Hf1 H1 os1 ⟨ds,xs⟩ x1 r1 q J hJ
 obtain ⟨hz,q⟩:=WR.gd q
 let f:Kt D (Option D):=⟨fun x os2=>I.noExc (I.turnK (k:=⟨fun τ os3=>(I.evC P KO cd τ os3).bind (k:=⟨fun b os4=>I.iteK (a:=⟨fun os5=>(I.ev P KO el τ os5).bind (k:=⟨fun y os6=>.ok (some y) os6⟩)⟩) (b:=⟨fun os5=>.ok none os5⟩) b os4⟩)⟩) os2 (I.bindT t x (I.capt ρ nl fr)))⟩
 have q0:WR G E ι1 Hf1 (I.compL (f:=f) (I.stay os1 ds) xs os1) (fun ι' Hf' _ os' ys=>WR G E ι' Hf' (.ok (D.lst ys) os') (fun ι' Hf' H' _ d=>∃ xs,d=.lst xs∧∀ vs,Rps G ι' Hf' vs xs→vs.length≤sizeLine→fin vs H')):=WR.bind (k:=⟨_⟩) q
 refine ⟨fun i m τ vs H=>m=xs.length - i∧∃ ι Hf os done,Ext ι1 Hf1 ι Hf∧Rel G ι Hf H os∧Rf G ι Hf τ (I.capt ρ nl fr)∧i≤xs.length∧Rps G ι Hf vs done∧vs.length≤i ∧
  WR G E ι Hf (I.compL (f:=f) (I.stay os1 ds) (xs.drop i) os) (fun ι' Hf' _ os' ys=>WR G E ι' Hf' (.ok (D.lst (done++ys)) os') (fun ι' Hf' H' _ d=>∃ xs,d=.lst xs∧∀ vs,Rps G ι' Hf' vs xs→vs.length≤sizeLine→fin vs H')),
  ⟨xs.length,rfl,ι1,Hf1,os1,[],.refl,r1,(rf.ext x1).capt nl fr,Nat.zero_le _,.nil,Nat.zero_le _,q0⟩,?_⟩
 rintro i m τ vs H2 ⟨rfl,ι2,Hf2,os2,done,x2,r2,f2,hi2,hvs,hvl,w2⟩
 have hsz:vs.length≤sizeLine:=by
  rw [← sz_eq]
  have hz':xs.length≤SZ:=hz
  omega
 refine ⟨hsz,?_⟩
 cases e:xs[i]? with
 | none =>
  have hil:i=xs.length:=by have:=List.getElem?_eq_none_iff.mp e; omega
  rw [List.drop_of_length_le (by omega)] at w2
  unfold I.compL at w2
  split at w2
  ·rename_i lv
   refine .inl ⟨(hJ i ι2 Hf2 H2 os2 x2 r2 lv).2 e hil,?_⟩
   obtain ⟨ys,ey,q2⟩:=(w2.now r2).now r2
   cases ey
   exact q2 vs (by rw [List.append_nil]; exact hvs) hsz
  ·exact False.elim w2
 | some x =>
  have hil:i<xs.length:=(List.getElem?_eq_some_iff.mp e).1
  have ed:xs.drop i=x::xs.drop (i+1):=by
   rw [List.drop_eq_getElem_cons hil]
   rw [List.getElem?_eq_getElem hil] at e
   rw [Option.some.inj e]
  rw [ed] at w2
  unfold I.compL at w2
  split at w2
  ·rename_i lv
   obtain ⟨go,yl⟩:=(hJ i ι2 Hf2 H2 os2 x2 r2 lv).1 x e
   refine .inr ⟨go,fun v H3 y => ?_⟩
   obtain ⟨Hf3,x3,r3,hv⟩:=yl v H3 y
   have w3:=WR.noExc (WR.bind (k:=⟨_⟩) (w2.ext x3))
   have w3':WR G E0 ι2 Hf3 (I.turnK (k:=⟨fun τ os3=>(I.evC P KO cd τ os3).bind (k:=⟨fun b os4=>I.iteK (a:=⟨fun os5=>(I.ev P KO el τ os5).bind (k:=⟨fun y os6=>.ok (some y) os6⟩)⟩) (b:=⟨fun os5=>.ok none os5⟩) b os4⟩)⟩) os2 (I.bindT t x (I.capt ρ nl fr))) _:=w3
   cases eb:I.bindT t x (I.capt ρ nl fr) with
   | none=>rw [eb] at w3'; exact False.elim w3'
   | some ρ3 =>
    rw [eb] at w3'
    obtain ⟨ρ4,e4,l4⟩:=bindT_app (fr:=fr.map fun j=>I.lk ρ j) (ρ:=List.replicate nl none) (by rw [List.length_replicate]; exact ht) eb
    have back:∀ {ι Hf τ},Rf G ι Hf τ ρ3→Rf G ι Hf τ (I.capt ρ nl fr):=fun {ι Hf τ} h=>by
     rw [e4] at h
     exact Rf.forget h (by rw [l4,List.length_replicate])
    refine ⟨ι2,Hf3,I.capt ρ nl fr,os2,x,r3,f2.ext x3,hv,ρ3,eb,fun τ3 f3=>⟨ι2,Hf3,ρ3,os2,r3,f3,?_⟩⟩
    refine WR.mono (WR.bind (k:=⟨_⟩) (show WR G E0 ι2 Hf3 (I.R.bind (I.evC P KO cd ρ3 os2) (k:=⟨_⟩)) _ from w3')) ?_
    intro ι4 Hf4 H4 os4 k x4 r4 q4
    cases k with
    | true =>
     rw [if_pos rfl]
     refine ⟨ι4,Hf4,ρ3,os4,r4,f3.ext x4,?_⟩
     refine WR.mono (WR.bind (k:=⟨_⟩) (show WR G E0 ι4 Hf4 (I.R.bind (I.ev P KO el ρ3 os4) (k:=⟨_⟩)) _ from q4)) ?_
     intro ι5 Hf5 H5 os5 dy x5 r5 q5 y hy
     have x25:=x3.trans (x4.trans x5)
     have q6:WR G E ι5 Hf5 (@I.R.bind _ _ (I.compL (f:=f) (I.stay os1 ds) (xs.drop (i+1)) os5) ⟨fun ys os2=>.ok (I.consO (some dy) ys) os2⟩) _:=q5.now r5
     refine ⟨xs.length - (i+1),by omega,rfl,ι5,Hf5,os5,done++[dy],x2.trans x25,r5,back (f3.ext (x4.trans x5)),hil,(hvs.ext x25).app (.cons hy .nil),by rw [List.length_append]; exact Nat.succ_le_succ hvl,?_⟩
     refine WR.mono (WR.bind (k:=⟨_⟩) q6) ?_
     intro ι6 Hf6 H6 os6 ys x6 r6 q7
     have q8:=q7.now r6
     rw [List.append_assoc]
     exact q8
    | false =>
     rw [if_neg (by decide)]
     have x24:=x3.trans x4
     have q5:WR G E ι4 Hf4 (@I.R.bind _ _ (I.compL (f:=f) (I.stay os1 ds) (xs.drop (i+1)) os4) ⟨fun ys os2=>.ok (I.consO none ys) os2⟩) _:=WR.now (show WR G E0 ι4 Hf4 (.ok none os4) _ from q4) r4
     refine ⟨xs.length - (i+1),by omega,rfl,ι4,Hf4,os4,done,x2.trans x24,r4,back (f3.ext x4),hil,hvs.ext x24,by omega,?_⟩
     refine WR.mono (WR.bind (k:=⟨_⟩) q5) ?_
     intro ι6 Hf6 H6 os6 ys x6 r6 q7
     exact q7.now r6
  ·exact False.elim w2
theorem t_compX {nl:Nat} {fr:List Nat} {t:I.Tg} {it:I.It} {cd:I.C} {el:I.E} {fin:List V→Hp→Prop} {σ:St} {H:Hp} (ht:tgLow nl t=true)
  (h:∃ ι Hf ρ os,Rel G ι Hf H os∧Rf G ι Hf σ ρ∧WR G E ι Hf (I.ev P KO (.compX nl fr t it cd el) ρ os) (fun ι' Hf' H' _ d=>∃ xs,d=.lst xs∧∀ vs,Rps G ι' Hf' vs xs→vs.length≤sizeLine→fin vs H')) :
  tCompW nl fr (TIr G E P KO it) (TTg G t) (TCo G E P KO cd) (T G E P KO el) fin σ H:=by
 obtain ⟨ι,Hf,ρ,os,rel,rf,w⟩:=h
 refine ⟨ι,Hf,ρ,os,rel,rf,(WR.bind (k:=⟨_⟩) w).mono ?_⟩
 rintro ι1 Hf1 H1 os1 ⟨ds,xs⟩ x1 r1 q J hJ
 obtain ⟨hz,q⟩:=WR.gd q
 let f:Kt D (Option D):=⟨fun x os2=>I.turnK (k:=⟨fun τ os3=>(I.evC P KO cd τ os3).bind (k:=⟨fun b os4=>I.iteK (a:=⟨fun os5=>(I.ev P KO el τ os5).bind (k:=⟨fun y os6=>.ok (some y) os6⟩)⟩) (b:=⟨fun os5=>.ok none os5⟩) b os4⟩)⟩) os2 (I.bindT t x (I.capt ρ nl fr))⟩
 have q0:WR G E ι1 Hf1 (I.compL (f:=f) (I.stay os1 ds) xs os1) (fun ι' Hf' _ os' ys=>WR G E ι' Hf' (.ok (D.lst ys) os') (fun ι' Hf' H' _ d=>∃ xs,d=.lst xs∧∀ vs,Rps G ι' Hf' vs xs→vs.length≤sizeLine→fin vs H')):=WR.bind (k:=⟨_⟩) q
 refine ⟨fun i m τ vs H=>m=xs.length - i∧∃ ι Hf os done,Ext ι1 Hf1 ι Hf∧Rel G ι Hf H os∧Rf G ι Hf τ (I.capt ρ nl fr)∧i≤xs.length∧Rps G ι Hf vs done∧vs.length≤i ∧
  WR G E ι Hf (I.compL (f:=f) (I.stay os1 ds) (xs.drop i) os) (fun ι' Hf' _ os' ys=>WR G E ι' Hf' (.ok (D.lst (done++ys)) os') (fun ι' Hf' H' _ d=>∃ xs,d=.lst xs∧∀ vs,Rps G ι' Hf' vs xs→vs.length≤sizeLine→fin vs H')),
  ⟨xs.length,rfl,ι1,Hf1,os1,[],.refl,r1,(rf.ext x1).capt nl fr,Nat.zero_le _,.nil,Nat.zero_le _,q0⟩,?_⟩
 rintro i m τ vs H2 ⟨rfl,ι2,Hf2,os2,done,x2,r2,f2,hi2,hvs,hvl,w2⟩
 have hsz:vs.length≤sizeLine:=by
  rw [← sz_eq]
  have hz':xs.length≤SZ:=hz
  omega
 refine ⟨hsz,?_⟩
 cases e:xs[i]? with
 | none =>
  have hil:i=xs.length:=by have:=List.getElem?_eq_none_iff.mp e; omega
  rw [List.drop_of_length_le (by omega)] at w2
  unfold I.compL at w2
  split at w2
  ·rename_i lv
   refine .inl ⟨(hJ i ι2 Hf2 H2 os2 x2 r2 lv).2 e hil,?_⟩
   obtain ⟨ys,ey,q2⟩:=(w2.now r2).now r2
   cases ey
   exact q2 vs (by rw [List.append_nil]; exact hvs) hsz
  ·exact False.elim w2
 | some x =>
  have hil:i<xs.length:=(List.getElem?_eq_some_iff.mp e).1
  have ed:xs.drop i=x::xs.drop (i+1):=by
   rw [List.drop_eq_getElem_cons hil]
   rw [List.getElem?_eq_getElem hil] at e
   rw [Option.some.inj e]
  rw [ed] at w2
  unfold I.compL at w2
  split at w2
  ·rename_i lv
   obtain ⟨go,yl⟩:=(hJ i ι2 Hf2 H2 os2 x2 r2 lv).1 x e
   refine .inr ⟨go,fun v H3 y => ?_⟩
   obtain ⟨Hf3,x3,r3,hv⟩:=yl v H3 y
   have w3:=WR.bind (k:=⟨_⟩) (w2.ext x3)
   have w3':WR G E ι2 Hf3 (I.turnK (k:=⟨fun τ os3=>(I.evC P KO cd τ os3).bind (k:=⟨fun b os4=>I.iteK (a:=⟨fun os5=>(I.ev P KO el τ os5).bind (k:=⟨fun y os6=>.ok (some y) os6⟩)⟩) (b:=⟨fun os5=>.ok none os5⟩) b os4⟩)⟩) os2 (I.bindT t x (I.capt ρ nl fr))) _:=w3
   cases eb:I.bindT t x (I.capt ρ nl fr) with
   | none=>rw [eb] at w3'; exact False.elim w3'
   | some ρ3 =>
    rw [eb] at w3'
    obtain ⟨ρ4,e4,l4⟩:=bindT_app (fr:=fr.map fun j=>I.lk ρ j) (ρ:=List.replicate nl none) (by rw [List.length_replicate]; exact ht) eb
    have back:∀ {ι Hf τ},Rf G ι Hf τ ρ3→Rf G ι Hf τ (I.capt ρ nl fr):=fun {ι Hf τ} h=>by
     rw [e4] at h
     exact Rf.forget h (by rw [l4,List.length_replicate])
    refine ⟨ι2,Hf3,I.capt ρ nl fr,os2,x,r3,f2.ext x3,hv,ρ3,eb,fun τ3 f3=>⟨ι2,Hf3,ρ3,os2,r3,f3,?_⟩⟩
    refine WR.mono (WR.bind (k:=⟨_⟩) (show WR G E ι2 Hf3 (I.R.bind (I.evC P KO cd ρ3 os2) (k:=⟨_⟩)) _ from w3')) ?_
    intro ι4 Hf4 H4 os4 k x4 r4 q4
    cases k with
    | true =>
     rw [if_pos rfl]
     refine ⟨ι4,Hf4,ρ3,os4,r4,f3.ext x4,?_⟩
     refine WR.mono (WR.bind (k:=⟨_⟩) (show WR G E ι4 Hf4 (I.R.bind (I.ev P KO el ρ3 os4) (k:=⟨_⟩)) _ from q4)) ?_
     intro ι5 Hf5 H5 os5 dy x5 r5 q5 y hy
     have x25:=x3.trans (x4.trans x5)
     have q6:WR G E ι5 Hf5 (@I.R.bind _ _ (I.compL (f:=f) (I.stay os1 ds) (xs.drop (i+1)) os5) ⟨fun ys os2=>.ok (I.consO (some dy) ys) os2⟩) _:=q5.now r5
     refine ⟨xs.length - (i+1),by omega,rfl,ι5,Hf5,os5,done++[dy],x2.trans x25,r5,back (f3.ext (x4.trans x5)),hil,(hvs.ext x25).app (.cons hy .nil),by rw [List.length_append]; exact Nat.succ_le_succ hvl,?_⟩
     refine WR.mono (WR.bind (k:=⟨_⟩) q6) ?_
     intro ι6 Hf6 H6 os6 ys x6 r6 q7
     have q8:=q7.now r6
     rw [List.append_assoc]
     exact q8
    | false =>
     rw [if_neg (by decide)]
     have x24:=x3.trans x4
     have q5:WR G E ι4 Hf4 (@I.R.bind _ _ (I.compL (f:=f) (I.stay os1 ds) (xs.drop (i+1)) os4) ⟨fun ys os2=>.ok (I.consO none ys) os2⟩) _:=WR.now (show WR G E ι4 Hf4 (.ok none os4) _ from q4) r4
     refine ⟨xs.length - (i+1),by omega,rfl,ι4,Hf4,os4,done,x2.trans x24,r4,back (f3.ext x4),hil,hvs.ext x24,by omega,?_⟩
     refine WR.mono (WR.bind (k:=⟨_⟩) q5) ?_
     intro ι6 Hf6 H6 os6 ys x6 r6 q7
     exact q7.now r6
  ·exact False.elim w2
end
end IS
namespace IS
open PySem PySem.Spec L2
open PyProof.Rows hiding St
open I (D Cell OS Fr R SZ Kt Ko)
section
variable {G:GI} {E:XK} {P:I.Pg} {KO:I.Orc} {W:Nat} {X:Cx} {e a b c d l o i value:Expr} {ea eb ec ed:I.E} {p pos pos':Pos} {tg iter:Expr}
theorem PTs.weak {ifs:List Expr} {t t':TT} (h:PTs X ifs t) (m:∀ σ H Q,t' σ H Q→t σ H Q):PTs X ifs t':=fun pins s σ H Q I hw=>h pins s σ H Q I (m σ H Q hw)
theorem ts_nil:PTs X [] (TCo G E P KO .tt):=PTs.weak pts_nil fun σ H Q ⟨ι,Hf,ρ,os,rel,rf,w⟩=>w.now rel
theorem ts_one {cc:I.C} (h:PT X c (TCo G E P KO cc)):PTs X [c] (TCo G E P KO cc):=pts_one h
theorem s_compF {elt:Expr} {ifs:List Expr} {scope:Scope} {N':List Str} {nl:Nat} {fr:List Nat} {t:I.Tg} {it:I.It} {cd:I.C} {el:I.E} (hK:CompSc X.env.scope X.N scope N' nl fr) (hc:X.calm=true) (hi:PI X tg iter (TIr G E P KO it))
  (hg:∀ fp s2 H2 C,PG (X.comp scope N' fp s2 H2 C) tg (TTg G t)) (ht:∀ fp s2 H2 C,PTs (X.comp scope N' fp s2 H2 C) ifs (TCo G E0 P KO cd)) (he:∀ fp s2 H2 C,PE (X.comp scope N' fp s2 H2 C) elt (T G E0 P KO el)) (hs:∀ x,foldedSetIterable iter X.env x=pure x)
  (htl:tgLow nl t=true):PE X (.ListComp elt [⟨tg,iter,ifs,0⟩] scope pos) (TF G E P KO (.comp nl fr t it cd el)) :=
 PE.weak (pe_comp hK hc hi hg ht he hs rfl rfl) fun σ H Q ⟨ι,Hf,ρ,os,rel,rf,w⟩=>t_comp htl ⟨ι,Hf,ρ,os,rel,rf,w.mono fun ι' Hf' H' os' d x r ⟨xs,e,q⟩=>⟨xs,e,fun vs h1 h2 p hp=>q vs p h1 h2 hp⟩⟩
theorem comp_is {nl:Nat} {fr:List Nat} {t:I.Tg} {it:I.It} {cd:I.C} {el:I.E} (ρ:Fr) (os:OS) (d:D) (os':OS) (h:I.ev P KO (.comp nl fr t it cd el) ρ os=.ok d os'):∃ xs,d=.lst xs:=by
 obtain ⟨xs,os1,_,h2⟩:=bind_some (f:=_) h
 unfold I.R.gd at h2
 split at h2
 ·obtain ⟨ys,os2,_,h3⟩:=bind_some (f:=_) h2
  cases h3
  exact ⟨_,rfl⟩
 ·cases h2
theorem s_compFX (hpH:PassH X E) {elt:Expr} {ifs:List Expr} {scope:Scope} {N':List Str} {nl:Nat} {fr:List Nat} {t:I.Tg} {it:I.It} {cd:I.C} {el:I.E} (hK:CompSc X.env.scope X.N scope N' nl fr) (hc:X.calm=true) (hi:PI X tg iter (TIr G E P KO it))
  (hg:∀ fp s2 H2 C,PG (X.compE E scope N' fp s2 H2 C) tg (TTg G t)) (ht:∀ fp s2 H2 C,PTs (X.compE E scope N' fp s2 H2 C) ifs (TCo G E P KO cd)) (he:∀ fp s2 H2 C,PE (X.compE E scope N' fp s2 H2 C) elt (T G E P KO el)) (hs:∀ x,foldedSetIterable iter X.env x=pure x)
  (htl:tgLow nl t=true):PE X (.ListComp elt [⟨tg,iter,ifs,0⟩] scope pos) (TF G E P KO (.compX nl fr t it cd el)) :=
 PE.weak (pe_compE hpH hK hc hi hg ht he hs rfl rfl) fun σ H Q ⟨ι,Hf,ρ,os,rel,rf,w⟩=>t_compX htl ⟨ι,Hf,ρ,os,rel,rf,w.mono fun ι' Hf' H' os' d x r ⟨xs,e,q⟩=>⟨xs,e,fun vs h1 h2 p hp=>q vs p h1 h2 hp⟩⟩
theorem comp_isX {nl:Nat} {fr:List Nat} {t:I.Tg} {it:I.It} {cd:I.C} {el:I.E} (ρ:Fr) (os:OS) (d:D) (os':OS) (h:I.ev P KO (.compX nl fr t it cd el) ρ os=.ok d os'):∃ xs,d=.lst xs:=by
 obtain ⟨xs,os1,_,h2⟩:=bind_some (f:=_) h
 unfold I.R.gd at h2
 split at h2
 ·obtain ⟨ys,os2,_,h3⟩:=bind_some (f:=_) h2
  cases h3
  exact ⟨_,rfl⟩
 ·cases h2
theorem set_T {k:Nat} {D:Ends} {σ:St} {H:Hp} (h:TSt G E P KO W (.set k ea) D σ H):T G E P KO ea σ H (fun v H'=>D.nx (σ.set k (some v)) H'):=by
 obtain ⟨ι,Hf,ρ,os,rel,rf,w⟩:=h
 exact T.use rel rf (WR.bind (k:=⟨_⟩) w) fun ι1 Hf1 H1 os1 d v x1 r1 f1 hv q=>q.now r1 _ (f1.st hv k)
theorem s_set {k:Nat} {x:Str} (hN:X.N.Nodup) (hi:X.N[k]?=some x) (hx:Loc X.env.scope x) (he:PE X e (T G E P KO ea)) (hs:swapsWith e (some (.Name x pos')) pos.line X.env=pure false) (hf:X.fn x=true∨X.env.scope.names.lookup x=some .local) :
  PS X (.Assign [.Name x pos'] e pos) (TSt G E P KO W (.set k ea)):=PS.weak (ps_set hN hi hx he hs hf) fun D σ H h=>set_T h
theorem s_setC {k:Nat} {y:Str} {spos:Pos} {elt:Expr} {ifs:List Expr} {scope:Scope} {N':List Str} {nl:Nat} {fr:List Nat} {t:I.Tg} {it:I.It} {cd:I.C} {el ea:I.E} (hN:X.N.Nodup) (hy:X.N[k]?=some y) (hl:Loc X.env.scope y)
  (hK:CompSc X.env.scope X.N scope N' nl fr) (hc:X.calm=true) (hi:PI X tg iter (TIr G E P KO it))
  (hg:∀ fp s2 H2 C,PG (X.comp scope N' fp s2 H2 C) tg (TTg G t)) (ht:∀ fp s2 H2 C,PTs (X.comp scope N' fp s2 H2 C) ifs (TCo G E0 P KO cd)) (he:∀ fp s2 H2 C,PE (X.comp scope N' fp s2 H2 C) elt (T G E0 P KO el)) (hs:∀ x,foldedSetIterable iter X.env x=pure x)
  (htl:tgLow nl t=true) (hsw:swapsWith (.ListComp elt [⟨tg,iter,ifs,0⟩] scope pos) (some (.Name y pos')) spos.line X.env=pure true) (hf:X.fn y=true∨X.env.scope.names.lookup y=some .local)
  (hea:∀ σ H Q,T G E P KO ea σ H Q→TF G E P KO (.comp nl fr t it cd el) σ H Q) :
  PS X (.Assign [.Name y pos'] (.ListComp elt [⟨tg,iter,ifs,0⟩] scope pos) spos) (TSt G E P KO W (.set k ea)) :=
 PS.weak (ps_comp hN hy hl hK hc hi hg ht he hsw hf hs rfl rfl) fun D σ H h=>by
  obtain ⟨ι,Hf,ρ,os,rel,rf,w⟩:=hea _ _ _ (set_T h)
  exact t_comp htl ⟨ι,Hf,ρ,os,rel,rf,w.mono fun ι' Hf' H' os' d x r ⟨xs,e,q⟩=>⟨xs,e,fun vs h1 h2 p hp=>q vs p h1 h2 hp⟩⟩
noncomputable def rSetA:TSet:=fun o i v H Q=>rSetL o i v H Q∨∃ a H',o=.ref a∧DPut H a i v H'∧Q H'
theorem set_all (hu:X.A.units+1<cLine):PSet X rSetA:=by
 intro pins s σ H o i v ov iv u Q I ro ri rv h
 rcases h with h | ⟨a,H',rfl,g,q⟩
 ·exact set_list pins s σ H o i v ov iv u Q I ro ri rv h
 ·cases ro
  exact d_setItem hu I g ri rv fun s' I'=>⟨H',I',q⟩
theorem v_set {ι:List Addr} {Hf H:Hp} {os:OS} {o i v:V} {dd k d:D} {Q:Hp→Prop} (rel:Rel G ι Hf H os) (ho:Rp G ι Hf o dd) (hi:Rp G ι Hf i k) (hv:Rp G ι Hf v d)
  (w:WR G E ι Hf (I.setIx dd k d os) (fun ι' Hf' H' _ _=>Q H')):rSetA o i v H Q:=by
 cases ho with
 | @cel a n h =>
  have w':WR G E ι Hf (I.setC n d os (I.getC os n) k) (fun ι' Hf' H' _ _=>Q H'):=w
  cases e:I.getC os n with
  | none=>rw [e] at w'; exact False.elim w'
  | some c =>
   rw [e] at w'
   cases c with
   | lst xs =>
    cases hi with
    | int j =>
     have w2:WR G E ι Hf (I.setL n xs d os (I.ixOf xs.length j)) (fun ι' Hf' H' _ _=>Q H'):=w'
     cases e2:I.ixOf xs.length j with
     | none=>rw [e2] at w2; exact False.elim w2
     | some m =>
      rw [e2] at w2
      obtain ⟨a',vs,h1,h2,h3,h4,z,h5⟩:=rel.asC (.cel h) e
      cases h1
      refine .inl ⟨_,vs,j,m,rfl,rfl,h4,by rw [ix_eq,h5.len]; exact e2,?_⟩
      have rr:=rel.putC e h (o:=.lst (vs.set m v)) (c':=.lst (xs.set m d)) ⟨_,upd_same,by rw [List.length_set]; exact z,h5.set hv m⟩
      exact w2 ι Hf _ .refl rr
    | _=>exact False.elim w'
   | dct t kvs =>
    have w2:WR G E ι Hf (.gd (I.keyOk t k=true∧kvs.length<SZ) (.ok () (os.set n (some (.dct t (I.dPut k d kvs)))))) (fun ι' Hf' H' _ _=>Q H'):=by cases hi <;> exact w'
    obtain ⟨⟨hk,hl⟩,w2⟩:=WR.gd w2
    obtain ⟨a',H',h1,h2,g,rr⟩:=rel.dput (.cel h) e hi hk hv hl
    cases h1
    exact .inr ⟨_,H',rfl,g,w2 ι Hf H' .refl rr⟩
   | ins _ _=>exact False.elim (by cases hi <;> exact w')
   | tab _=>exact False.elim (by cases hi <;> exact w')
 | _=>exact False.elim w
theorem s_setix (hu:X.A.units+1<cLine) (he:PE X e (T G E P KO ec)) (ho:PE X o (T G E P KO ea)) (hi:PE X i (T G E P KO eb)) (ha:∀ v,assign (.Subscript o i pos') X.env v=(do
   let ov ← holding [v] (eval o X.env)
   let iv ← holding [v,ov] (eval i X.env)
   standAt pos'
   holding [v,ov,iv] (setItem ov iv v)
   release [v,ov,iv] [])) (hs:swapsWithSole [.Subscript o i pos'] e pos.line X.env=pure false) (hw:swappedStores [.Subscript o i pos'] e X.env=pure none) (h1:(assignEach [.Subscript o i pos'] X.env).map (·.2)=[assign (.Subscript o i pos') X.env]) :
  PS X (.Assign [.Subscript o i pos'] e pos) (TSt G E P KO W (.setix ea eb ec)) :=
 PS.weak (ps_asg he (pg_sub ho hi (set_all hu) ha) hs hw h1) fun D σ H ⟨ι,Hf,ρ,os,rel,rf,w⟩ =>
  T.use rel rf (WR.bind (k:=⟨_⟩) w) fun ι1 Hf1 H1 os1 d v x1 r1 f1 hv q =>
   T.use r1 f1 (WR.bind (k:=⟨_⟩) q) fun ι2 Hf2 H2 os2 dd vo x2 r2 f2 hvo q2 =>
    T.use r2 f2 (WR.bind (k:=⟨_⟩) q2) fun ι3 Hf3 H3 os3 kk vk x3 r3 f3 hvk q3 =>
     v_set r3 (hvo.ext x3) hvk (hv.ext (x2.trans x3)) ((WR.bind (k:=⟨_⟩) q3).mono fun ι4 Hf4 H4 os4 _ x4 r4 q4=>q4.now r4 σ (f3.ext x4))
theorem s_ex (he:PE X e (T G E P KO ea)) (hs:swapsWith e none pos.line X.env=pure false):PS X (.Expr e pos) (TSt G E P KO W (.ex ea)) :=
 PS.weak (ps_expr he hs) fun D σ H ⟨ι,Hf,ρ,os,rel,rf,w⟩=>T.use rel rf (WR.bind (k:=⟨_⟩) w) fun ι1 Hf1 H1 os1 d v x1 r1 f1 hv q=>q.now r1 σ f1
theorem s_ret (he:PE X e (T G E P KO ea)):PS X (.Return (some e) pos) (TSt G E P KO W (.ret ea)) :=
 PS.weak (ps_ret he) fun D σ H ⟨ι,Hf,ρ,os,rel,rf,w⟩=>T.use rel rf (WR.bind (k:=⟨_⟩) w) fun ι1 Hf1 H1 os1 d v x1 r1 f1 hv q=>q.now r1 v hv
theorem s_if {cc:I.C} {sa sb:List Stmt} {ta tb:I.Ss} (hc:PT X c (TCo G E P KO cc)) (ha:PSs X sa (TSts G E P KO W ta)) (hb:PSs X sb (TSts G E P KO W tb)):PS X (.If c sa sb pos) (TSt G E P KO W (.ite cc ta tb)) :=
 PS.weak (ps_if hc ha hb) fun D σ H ⟨ι,Hf,ρ,os,rel,rf,w⟩=>TCo.use rel rf (WR.bind (k:=⟨_⟩) w) fun ι1 Hf1 H1 os1 k x1 r1 f1 q=>by
  cases k with
  | true=>rw [if_pos rfl]; exact ⟨ι1,Hf1,ρ,os1,r1,f1,q⟩
  | false=>rw [if_neg (by decide)]; exact ⟨ι1,Hf1,ρ,os1,r1,f1,q⟩
theorem ss_nil:PSs X [] (TSts G E P KO W .nil):=PSs.weak pss_nil fun D σ H ⟨ι,Hf,ρ,os,rel,rf,w⟩=>w.now rel σ rf
theorem ss_cons {s:Stmt} {r:List Stmt} {ts:I.S} {tr:I.Ss} (h1:PS X s (TSt G E P KO W ts)) (h2:PSs X r (TSts G E P KO W tr)):PSs X (s::r) (TSts G E P KO W (.cons ts tr)) :=
 PSs.weak (pss_cons h1 h2) fun D σ H ⟨ι,Hf,ρ,os,rel,rf,w⟩=>by
  refine ⟨ι,Hf,ρ,os,rel,rf,(WR.bind (k:=⟨_⟩) w).mono ?_⟩
  rintro ι1 Hf1 H1 os1 ⟨f,ρ1⟩ x1 r1 q
  cases f with
  | nx=>exact fun σ1 f1=>⟨ι1,Hf1,ρ1,os1,r1,f1,q⟩
  | rt d=>exact q.now r1
  | bk=>exact q.now r1
  | ct=>exact q.now r1
noncomputable def spF (G:GI) (P:I.Pg) (W k f np:Nat):Sp:=fun vs H Q E=>vs.length=np∧∃ ι Hf os ds,Rel G ι Hf H os∧Rps G ι Hf vs ds∧WR G E ι Hf (I.call P W k f ds os) (fun ι' Hf' H' _ d=>∀ v,Rp G ι' Hf' v d→Q v H')
theorem WR.pure1 {ι:List Addr} {Hf H:Hp} {os:OS} {r:R D} {Q:VK} (rel:Rel G ι Hf H os) (w:WR G E ι Hf (I.pure1 os r) (fun ι' Hf' H' _ d=>∀ v,Rp G ι' Hf' v d→Q v H')):WR G E ι Hf r (fun ι' Hf' H' _ d=>∀ v,Rp G ι' Hf' v d→Q v H'):=by
 cases r with
 | stk=>exact w
 | ok d os' =>
  rw [I.pure1] at w
  split at w
  ·rename_i hh
   intro ι' Hf' H' x r' v hv
   exact w ι Hf' H' ⟨List.prefix_refl _,x.sub⟩ (rel.trunc x r' hh.1) v (hv.cutI x.pre (by rw [rel.len]; exact hh.2))
  ·exact False.elim w
 | exc c p os' =>
  rw [I.pure1] at w
  split at w
  ·rename_i hh
   intro ι' Hf' H' x r'
   exact w ι Hf' H' ⟨List.prefix_refl _,x.sub⟩ (rel.trunc x r' hh)
  ·exact False.elim w
theorem t_call {k f np:Nat} {as:I.Es} (hn:esLen as=np) (σ:St) (H:Hp) (Q:VK) (h:T G E P (I.call P W k) (.call f as) σ H Q):tCall (spF G P W k f np) [] E (Ts G E P (I.call P W k) as) σ H Q:=by
 obtain ⟨ι,Hf,ρ,os,rel,rf,w⟩:=h
 exact Ts.use rel rf (WR.evsLen (WR.bind (k:=⟨_⟩) w)) fun ι1 Hf1 H1 os1 ds vs x1 r1 f1 hvs ⟨hl,q⟩=>by
  rw [List.append_nil]
  exact ⟨by rw [hvs.len,hl,hn],ι1,Hf1,os1,ds,r1,hvs,q⟩
theorem t_callP {k f np:Nat} {as:I.Es} (hn:esLen as=np) (σ:St) (H:Hp) (Q:VK) (h:T G E P (I.call P W k) (.callP f as) σ H Q):tCall (spF G P W k f np) [] E (Ts G E P (I.call P W k) as) σ H Q:=by
 obtain ⟨ι,Hf,ρ,os,rel,rf,w⟩:=h
 exact Ts.use rel rf (WR.evsLen (WR.bind (k:=⟨_⟩) w)) fun ι1 Hf1 H1 os1 ds vs x1 r1 f1 hvs ⟨hl,q⟩=>by
  rw [List.append_nil]
  exact ⟨by rw [hvs.len,hl,hn],ι1,Hf1,os1,ds,r1,hvs,WR.pure1 r1 q⟩
end
end IS
namespace PySem
section
variable {prog:Program} {w:World} {K:Type} [DecidableEq K] {knd:HeapKind prog w K} {A:Around} {E:Value→Shared→Prop} {s:Shared} {d a:Addr} {k:K} {xs:List (K × Addr × Value)}
end
end PySem
namespace L2
open PySem PySem.Spec PyProof.Rows
section
variable {X:Cx} {pins:List (Addr × Obj)} {σ:St} {H:Hp} {s:Shared} {a:Addr} {y v:V} {u r:Value} {A:Around} {E:Value→Shared→Prop}
end
end L2
namespace IS
open PySem PySem.Spec L2
open PyProof.Rows hiding St
open I (D Cell OS Fr R SZ Kt Ko)
section
variable {G:GI} {E:XK} {P:I.Pg} {KO:I.Orc} {W:Nat} {X:Cx} {a b c:Expr} {ea eb ec:I.E} {p pos:Pos}
theorem t_chain {r r':R2} {o1 o2:I.Cop} (h1:VR2 G E (.cmp o1) r) (h2:VR2 G E (.cmp o2) r') (σ:St) (H:Hp) (Q:VK) (h:T G E P KO (.chain o1 o2 ea eb ec) σ H Q):tChain r r' (T G E P KO ea) (T G E P KO eb) (T G E P KO ec) σ H Q:=by
 obtain ⟨ι,Hf,ρ,os,rel,rf,w⟩:=h
 refine T.use rel rf (WR.bind (k:=⟨_⟩) w) fun ι1 Hf1 H1 os1 d1 v1 x1 r1 f1 hv1 q1=>T.use r1 f1 (WR.bind (k:=⟨_⟩) q1) fun ι2 Hf2 H2 os2 d2 v2 x2 r2 f2 hv2 q2 => ?_
 refine h1 ι2 Hf2 H2 os2 v1 v2 d1 d2 _ r2 (hv1.ext x2) hv2 (WR.mono (WR.bind (r:=I.cmp o1 d1 d2 os2) (k:=⟨_⟩) q2) fun ι3 Hf3 H3 os3 dz x3 r3 q3 v hv => ?_)
 cases hv with
 | bl k =>
  refine ⟨k,rfl,?_⟩
  cases k with
  | true =>
   rw [if_pos rfl]
   exact T.use r3 (f2.ext x3) (WR.bind (k:=⟨_⟩) q3) fun ι4 Hf4 H4 os4 d4 v4 x4 r4 f4 hv4 q4=>h2 ι4 Hf4 H4 os4 v2 v4 d2 d4 Q r4 (hv2.ext (x3.trans x4)) hv4 q4
  | false=>rw [if_neg (by decide)]; exact q3.now r3 _ (.bl _)
 | _=>exact False.elim q3
theorem chain_bl {o1 o2:I.Cop} (ρ:Fr) (os:OS) (d:D) (os':OS) (h:I.ev P KO (.chain o1 o2 ea eb ec) ρ os=.ok d os'):∃ k,d=.bl k:=by
 obtain ⟨d1,os1,_,h⟩:=bind_some (f:=_) h
 obtain ⟨d2,os2,_,h⟩:=bind_some (f:=_) h
 obtain ⟨d3,os3,_,h⟩:=bind_some (f:=_) h
 cases d3 with
 | bl k =>
  cases k with
  | true =>
   obtain ⟨d4,os4,_,h⟩:=bind_some (f:=_) (show @R.bind _ _ (I.ev P KO ec ρ os3) ⟨_⟩=.ok d os' from h)
   exact cmp_bl h
  | false=>cases h; exact ⟨_,rfl⟩
 | _=>cases h
theorem s_chain {op op':CmpOp} {r r':R2} {o1 o2:I.Cop} (ho:OpR X (compareOp op) r) (h1:VR2 G E (.cmp o1) r) (ho':OpR X (compareOp op') r') (h2:VR2 G E (.cmp o2) r') (ha:PE X a (T G E P KO ea)) (hb:PE X b (T G E P KO eb)) (hc:PE X c (T G E P KO ec)) (hm:behindInMarks op' c=false) :
  PE X (.Compare a [op,op'] [b,c] pos) (T G E P KO (.chain o1 o2 ea eb ec))∧PT X (.Compare a [op,op'] [b,c] pos) (TCo G E P KO (.e (.chain o1 o2 ea eb ec))) :=
 ⟨PE.weak (pe_chain ho ho' ha hb hc hm) (t_chain h1 h2),PT.weak (pt_chain ho ho' ha hb hc hm) fun σ H Q h=>t_chain h1 h2 σ H _ (t_test σ H Q h chain_bl)⟩
theorem s_raise {x:Str} {cn:Nat} {as:I.Es} {e₀:Expr} {es:List Expr} {np cpos:Pos} {bmB:List Value} {Bn newId initId:String} (hT:Thr X E) (hc:X.calm=true) (hK:X.K=G.K) (FB:ExcBaseFacts Bn newId initId bmB) (hX:PySem.W.excIn G.K (G.CA cn) bmB newId=true) (hm:X.mg x=some (.ref (G.CA cn)))
  (ha:PA X (e₀::es) (Ts G E P KO as)) (hg:Gl X x) (he:starEach (e₀::es) X.env=(false,eval e₀ X.env)::starEach es X.env) (hplain:(backTo cpos (starEach es X.env)).any (·.1)=false) (hd:(x == ("__debug__" : Str))=false) (hl:esLen as≤1000) :
  PS X (.Raise (some (.Call (.Name x np) (e₀::es) [] cpos)) none pos) (TSt G E P KO W (.raise cn as)) :=
 PS.weak (ps_raise hT hc FB (hK ▸ hX) hm ha hg he hplain hd) fun D σ H ⟨ι,Hf,ρ,os,rel,rf,w⟩ =>
  Ts.use rel rf (WR.evsLen (WR.bind (k:=⟨_⟩) w)) fun ι1 Hf1 H1 os1 ds vs x1 r1 f1 hvs ⟨hn,q⟩ =>
   ⟨by rw [hvs.len,hn]; exact Nat.le_of_lt (small1000 hl),q ι1 Hf1 H1 .refl r1⟩
end
end IS
namespace L2
open PySem PySem.Spec PyProof.Rows
section
variable {prog:Program} {w:World} {A:Around} {R:Result→Shared→Prop} {I:Addr} {fp wr:List Addr} {n:Nat} {P:Nat→Value→Prop} {St:Nat→Heap→Prop}
end
section
variable {prog:Program} {w:World} {A:Around} {E:Value→Shared→Prop} {s:Shared}
end
end L2
namespace L2
open PySem PySem.Spec PyProof.Rows
section
variable {X:Cx}
end
end L2
namespace IS
open PySem PySem.Spec L2
open PyProof.Rows hiding St
open I (D Cell OS Fr R SZ Kt Ko)
section
variable {G:GI} {E:XK} {P:I.Pg} {KO:I.Orc} {W:Nat} {X:Cx}
theorem Rel.asLL {ι:List Addr} {Hf H:Hp} {os:OS} {x:V} {d:D} {xs:List D} (rel:Rel G ι Hf H os) (hx:Rp G ι Hf x d) (hd:I.itemsL os d=some xs) :
  ∃ a vs,x=.ref a∧SqL G.K H a vs∧vs.length≤sizeLine∧Rps G ι Hf vs xs:=by
 obtain ⟨a,rfl,h⟩:=laterL rel hx hd
 obtain ⟨vs,h1,h2,h3⟩:=h ι Hf H os .refl rel (stay_refl _)
 exact ⟨a,vs,rfl,h1,h2,h3⟩
theorem Rel.asBool {ι:List Addr} {Hf H:Hp} {os:OS} {x:V} {d:D} {ns:List Bool} (rel:Rel G ι Hf H os) (hx:Rp G ι Hf x d) (h:(I.itemsL os d).bind I.asBools=some ns):∃ a,x=.ref a∧SqL G.K H a (ns.map V.bl):=by
 cases e:I.itemsL os d with
 | none=>rw [e] at h; cases h
 | some xs =>
  rw [e] at h
  obtain ⟨a,vs,rfl,h1,_,h3⟩:=rel.asLL hx e
  rw [asBools_map (show I.asBools xs=some ns from h)] at h3
  exact ⟨a,rfl,h3.bools ▸ h1⟩
theorem v_all:VRs G E .all (fun xs H Q=>∃ (a:Addr) (bs:List Bool),xs=[.ref a]∧SqL G.K H a (bs.map V.bl)∧Q (.bl (bs.all id)) H):=by
 intro ι Hf H os xs ds Q rel hx w
 cases hx with
 | nil=>exact False.elim w
 | cons hx r =>
  cases r with
  | cons _ _=>exact False.elim w
  | nil =>
   obtain ⟨d,e,w⟩:=WR.ofO w
   cases e2:(I.itemsL os _).bind I.asBools with
   | none=>rw [e2] at e; cases e
   | some ns =>
    rw [e2] at e
    cases e
    obtain ⟨a,rfl,hq⟩:=rel.asBool hx e2
    exact ⟨a,ns,rfl,hq,w.now rel _ (.bl _)⟩
end
end IS
namespace L2
open PySem PySem.Spec PyProof.Rows
section
variable {X:Cx} {o:Expr} {ta:TE} {t:TA} {m:Str} {apos pos:Pos}
end
end L2
namespace IS
open PySem PySem.Spec L2
open PyProof.Rows hiding St
open I (D Cell OS Fr R SZ Kt Ko)
section
variable {G:GI} {E:XK} {P:I.Pg} {W:Nat} {X:Cx}
end
end IS
namespace IS
open PySem PySem.Spec L2
open PyProof.Rows hiding St
open I (D Cell OS Fr R SZ Kt Ko)
section
variable {G:GI} {E:XK} {P:I.Pg} {KO:I.Orc} {W:Nat} {X:Cx} {a b c d:Expr} {ea eb ec ed:I.E} {p pos:Pos}
theorem t_chain3 {r1 r2 r3:R2} {o1 o2 o3:I.Cop} (h1:VR2 G E (.cmp o1) r1) (h2:VR2 G E (.cmp o2) r2) (h3:VR2 G E (.cmp o3) r3) (σ:St) (H:Hp) (Q:VK) (h:T G E P KO (.chain3 o1 o2 o3 ea eb ec ed) σ H Q):tChain3 r1 r2 r3 (T G E P KO ea) (T G E P KO eb) (T G E P KO ec) (T G E P KO ed) σ H Q:=by
 obtain ⟨ι,Hf,ρ,os,rel,rf,w⟩:=h
 refine T.use rel rf (WR.bind (k:=⟨_⟩) w) fun ι1 Hf1 H1 os1 d1 v1 x1 s1 f1 hv1 q1=>T.use s1 f1 (WR.bind (k:=⟨_⟩) q1) fun ι2 Hf2 H2 os2 d2 v2 x2 s2 f2 hv2 q2 => ?_
 refine h1 ι2 Hf2 H2 os2 v1 v2 d1 d2 _ s2 (hv1.ext x2) hv2 (WR.mono (WR.bind (r:=I.cmp o1 d1 d2 os2) (k:=⟨_⟩) q2) fun ι3 Hf3 H3 os3 dz x3 s3 q3 v hv => ?_)
 cases hv with
 | bl k =>
  refine ⟨k,rfl,?_⟩
  cases k with
  | true =>
   rw [if_pos rfl]
   refine T.use s3 (f2.ext x3) (WR.bind (k:=⟨_⟩) q3) fun ι4 Hf4 H4 os4 d4 v4 x4 s4 f4 hv4 q4 => ?_
   refine h2 ι4 Hf4 H4 os4 v2 v4 d2 d4 _ s4 (hv2.ext (x3.trans x4)) hv4 (WR.mono (WR.bind (r:=I.cmp o2 d2 d4 os4) (k:=⟨_⟩) q4) fun ι5 Hf5 H5 os5 dy x5 s5 q5 u hu => ?_)
   cases hu with
   | bl k2 =>
    refine ⟨k2,rfl,?_⟩
    cases k2 with
    | true =>
     rw [if_pos rfl]
     exact T.use s5 (f4.ext x5) (WR.bind (k:=⟨_⟩) q5) fun ι6 Hf6 H6 os6 d6 v6 x6 s6 f6 hv6 q6=>h3 ι6 Hf6 H6 os6 v4 v6 d4 d6 Q s6 (hv4.ext (x5.trans x6)) hv6 q6
    | false=>rw [if_neg (by decide)]; exact q5.now s5 _ (.bl _)
   | _=>exact False.elim q5
  | false=>rw [if_neg (by decide)]; exact q3.now s3 _ (.bl _)
 | _=>exact False.elim q3
theorem chain3_bl {o1 o2 o3:I.Cop} (ρ:Fr) (os:OS) (d':D) (os':OS) (h:I.ev P KO (.chain3 o1 o2 o3 ea eb ec ed) ρ os=.ok d' os'):∃ k,d'=.bl k:=by
 obtain ⟨d1,os1,_,h⟩:=bind_some (f:=_) h
 obtain ⟨d2,os2,_,h⟩:=bind_some (f:=_) h
 obtain ⟨d3,os3,_,h⟩:=bind_some (f:=_) h
 cases d3 with
 | bl k =>
  cases k with
  | true =>
   obtain ⟨d4,os4,_,h⟩:=bind_some (f:=_) (show @R.bind _ _ (I.ev P KO ec ρ os3) ⟨_⟩=.ok d' os' from h)
   obtain ⟨d5,os5,_,h⟩:=bind_some (f:=_) h
   cases d5 with
   | bl k =>
    cases k with
    | true =>
     obtain ⟨d6,os6,_,h⟩:=bind_some (f:=_) (show @R.bind _ _ (I.ev P KO ed ρ os5) ⟨_⟩=.ok d' os' from h)
     exact cmp_bl h
    | false=>cases h; exact ⟨_,rfl⟩
   | _=>cases h
  | false=>cases h; exact ⟨_,rfl⟩
 | _=>cases h
theorem s_chain3 {p1 p2 p3:CmpOp} {r1 r2 r3:R2} {o1 o2 o3:I.Cop} (g1:OpR X (compareOp p1) r1) (h1:VR2 G E (.cmp o1) r1) (g2:OpR X (compareOp p2) r2) (h2:VR2 G E (.cmp o2) r2) (g3:OpR X (compareOp p3) r3) (h3:VR2 G E (.cmp o3) r3) (ha:PE X a (T G E P KO ea)) (hb:PE X b (T G E P KO eb)) (hc:PE X c (T G E P KO ec)) (hd:PE X d (T G E P KO ed)) (hm:lastMarks [p1,p2,p3] [b,c,d]=false) :
  PE X (.Compare a [p1,p2,p3] [b,c,d] pos) (T G E P KO (.chain3 o1 o2 o3 ea eb ec ed))∧PT X (.Compare a [p1,p2,p3] [b,c,d] pos) (TCo G E P KO (.e (.chain3 o1 o2 o3 ea eb ec ed))) :=
 ⟨PE.weak (pe_chain3 g1 g2 g3 ha hb hc hd hm) (t_chain3 h1 h2 h3),PT.weak (pt_chain3 g1 g2 g3 ha hb hc hd hm) fun σ H Q h=>t_chain3 h1 h2 h3 σ H _ (t_test σ H Q h chain3_bl)⟩
theorem in_of {ι:List Addr} {Hf H:Hp} {os:OS} {x y:V} {dx dy:D} {k:Bool} (rel:Rel G ι Hf H os) (hx:Rp G ι Hf x dx) (hy:Rp G ι Hf y dy) (h:((I.items os dy).bind fun xs=>I.isIn dx xs)=some k) :
  ∃ p xs,y=.ref p∧(SqL G.K H p xs∨SqT G.K H p xs)∧flatV x=true∧xs.all flatV=true∧inV x xs=k:=by
 cases e:I.items os dy with
 | none=>rw [e] at h; cases h
 | some xs =>
  rw [e] at h
  have h:I.isIn dx xs=some k:=h
  cases hx with
  | int i =>
   have h':(I.asInts xs).map (fun ns=>decide (i∈ns))=some k:=h
   cases e2:I.asInts xs with
   | none=>rw [e2] at h'; cases h'
   | some ns =>
    rw [e2] at h'
    cases h'
    obtain ⟨a,vs,rfl,h1,_,h3⟩:=rel.asI hy e
    rw [asInts_map e2] at h3
    have ev:=h3.ints
    subst ev
    refine ⟨a,ns.map V.int,rfl,h1,rfl,?_,inV_int i ns⟩
    rw [List.all_eq_true]
    intro z hz
    obtain ⟨j,_,rfl⟩:=List.mem_map.mp hz
    rfl
  | _=>cases h
theorem v_in:VR2 G E (.cmp .isIn) (rIn G.K false):=by
 intro ι Hf H os x y dx dy Q rel hx hy w
 obtain ⟨d,e,w⟩:=WR.ofO (show WR G E ι Hf (R.ofO (((I.items os dy).bind fun xs=>I.isIn dx xs).map D.bl) os) _ from w)
 obtain ⟨k,e1,rfl⟩:=Option.map_eq_some_iff.mp e
 obtain ⟨p,xs,h1,h2,h3,h4,h5⟩:=in_of rel hx hy e1
 subst h5
 exact ⟨p,xs,h1,h2,h3,h4,w.now rel (.bl _) (.bl _)⟩
theorem v_notin:VR2 G E (.cmp .notIn) (rIn G.K true):=by
 intro ι Hf H os x y dx dy Q rel hx hy w
 obtain ⟨d,e,w⟩:=WR.ofO (show WR G E ι Hf (R.ofO (((I.items os dy).bind fun xs=>I.isIn dx xs).map fun x=>D.bl (!x)) os) _ from w)
 obtain ⟨k,e1,rfl⟩:=Option.map_eq_some_iff.mp e
 obtain ⟨p,xs,h1,h2,h3,h4,h5⟩:=in_of rel hx hy e1
 subst h5
 exact ⟨p,xs,h1,h2,h3,h4,w.now rel (.bl _) (.bl _)⟩
end
end IS
namespace IS
open PySem PySem.Spec PyProof.Rows L2
noncomputable def BMd (mg:Str→Option Value) (h:Heap):Prop:=∃ bm ob,mg "__builtins__" = some (.ref bm)∧bm≠builtinsNs∧h.get? bm=some ob∧ob.cls=.type "module"∧ob.dict=some builtinsNs∧ob.data=.plain
noncomputable def OnlyT (tabs:List (Addr × Addr)) (H:Hp):Prop:=∀ b,H b=none∨(∃ o xs,H b=some (.frz o (.lst xs)))∨(b∈tabs.map (·.2)∧H b=some (.tbl #[]))
theorem law_callT {P:Program} {w:World} {K:PySem.W.Frag} {mg mb:Str→Option Value} {CX:CXT} {k:Nat} {fa a:Addr} {fd:FuncData} {x:Str} {sp:Sp} {s₁:Shared} {vs:List Value} {ns:List Int} {tabs:List (Addr × Addr)}
  (KX:K.In s₁.heap) (hns:s₁.heap.Ns mainGlobals mg) (hb:s₁.heap.Ns builtinsNs mb) (hbb:∀ x:Str,x ≠ "__name__"→mb x=bootBuiltins x) (hlim:s₁.heap.NoLimit) (hg:s₁.gens = #[])
  (hB:BMd mg s₁.heap) (hT:PySem.W.TabsAt tabs s₁.heap) (hnt:PySem.W.noTabs K=true)
  (ha:s₁.heap.get? a=some { cls:=.type "list",data:=.seq vs.toArray }) (hi:IntsAre vs ns) (hl:ns.length≤sizeLine) (hr:Room k callerA)
  (F:∀ base:Heap,K.In base→base.Ns mainGlobals mg→BMd mg base→FnOk P w K mg base CX k fa fd [x] sp) (hbind:∀ (s:Shared) (u:Value),BindsTo s fd ⟨[u],[]⟩ [(x,u)])
  (hsp:∀ H:Hp,OnlyT tabs H→(∀ q∈tabs,H q.2=some (.tbl #[]))→SqL K H a (ns.map V.int)→sp [.ref a] H (fun v _=>v=.bl true) fun _ _ _=>False)
  (hCX:∀ H e s',CX [] H s₁ (fun _ _ _=>False) e s'→False) :
  codeAny (model P w) callerA (.call (.ref fa) ⟨[.ref a],[]⟩) (fun r s'=>r=.ok (.ret (.bool true))∧OldK s₁.heap s'.heap∧s'.os=s₁.os∧AllBare s'.gens) s₁:=by
 have rv:=vals_ints hi
 have lenV:=hi.length
 have hTb:∀ {b:Addr},b∈tabs.map (·.2)→s₁.heap.get? b=some (PySem.W.tabObj #[])∧isCodeTable s₁.heap b:=fun {b} hb=>by
  obtain ⟨q,hq,rfl⟩:=List.mem_map.mp hb
  exact ⟨(hT q hq).2,((hT q hq).1.tab (hT q hq).2).isCodeTable⟩
 have core:∀ H:Hp,OnlyT tabs H→(∀ q∈tabs,H q.2=some (.tbl #[]))→SqL K H a (ns.map V.int)→HOk P w H s₁.heap→(∀ b,H b≠none→b=a∨b∈tabs.map (·.2))→(H a≠none→K.lookup a=none) →
   codeAny (model P w) callerA (.call (.ref fa) ⟨[.ref a],[]⟩) (fun r s'=>r=.ok (.ret (.bool true))∧OldK s₁.heap s'.heap∧s'.os=s₁.os∧AllBare s'.gens) s₁:=by
  intro H hO hTt hS hok hA hK
  have base_of:∀ {b:Addr} {o:Obj},s₁.heap.get? b=some o→H b=none→(hidT s₁.heap H).get? b=some o:=fun e n=>hidT_get e n
  have free_of:∀ {b:Addr} {o:Obj},s₁.heap.get? b=some o→o.cls≠.none→(∀ xs n,o.data≠.seq xs n)→H b=none:=fun {b o} e c d=>by
   cases q:H b with
   | none=>rfl
   | some u =>
    rcases hA b (by rw [q]; simp) with e' | e'
    ·subst e'
     rw [ha] at e; cases e
     exact absurd rfl (d _ _)
    ·rw [(hTb e').1] at e; cases e
     exact absurd rfl c
  have noA:∀ {b:Addr} {o:Obj} {es:Array DictEntry} {ep:Nat},s₁.heap.get? b=some o→o.data=.dict es ep→H b=none:=fun {b o es ep} e d=>by
   cases q:H b with
   | none=>rfl
   | some u =>
    rcases hA b (by rw [q]; simp) with e' | e'
    ·subst e'
     rw [ha] at e; cases e
     cases d
    ·rw [(hTb e').1] at e; cases e
     cases d
  have nsK:∀ {b:Addr} {m:Str→Option Value},s₁.heap.Ns b m→(hidT s₁.heap H).Ns b m:=fun {b m} ⟨o,es,ep,e,d,r⟩=>⟨o,es,ep,base_of e (noA e d),d,r⟩
  have hKb:K.In (hidT s₁.heap H):=fun b o e=>base_of (KX b o e) (by
   cases q:H b with
   | none=>rfl
   | some u =>
    rcases hA b (by rw [q]; simp) with e' | e'
    ·subst e'
     rw [hK (by rw [q]; simp)] at e; cases e
    ·have e1:=KX b o e
     rw [(hTb e').1] at e1; cases e1
     exact absurd (show false=true from List.all_eq_true.mp hnt _ (PySem.W.mem_of_lookupK e)) Bool.false_ne_true)
  have hM:Mod K mg (hidT s₁.heap H):=⟨hKb,nsK hns,⟨mb,nsK hb,hbb⟩,let ⟨mc,h1,h2⟩:=hlim; ⟨mc,nsK h1,h2⟩⟩
  have hBb:BMd mg (hidT s₁.heap H):=by
   obtain ⟨bm,ob,b1,b2,b3,b4,b5,b6⟩:=hB
   exact ⟨bm,ob,b1,b2,base_of b3 (free_of b3 (by rw [b4]; nofun) (fun _ _ z=>by rw [b6] at z; cases z)),b4,b5,b6⟩
  have e0:Env0 P w K mg (hidT s₁.heap H) callerA [] s₁ H:=⟨rfl,hM,fun b o e=>of_hidT e,Nat.le_of_eq (hidT_size _ _),trivial,fun b hb=>absurd (show b∈([]:List Addr) from hb) (by simp),hok,.of_eq hg⟩
  refine codeAny_mono ((F _ hKb (nsK hns) hBb).run callerA [] s₁ H ⟨[.ref a],[]⟩ [.ref a] [.ref a] _ _ hr e0 (hbind s₁ (.ref a)) (.cons rfl .nil) (hsp H hO hTt hS)) fun r s' h => ?_
  cases r with
  | error e=>exact (hCX H e s' h).elim
  | ok fl =>
   cases fl with
   | next=>exact False.elim h
   | brk=>exact False.elim h
   | cont=>exact False.elim h
   | ret u =>
    obtain ⟨v,H',os,bare,un,hok',r',q⟩:=h
    have q':v=.bl true:=q
    subst q'
    obtain rfl:u=Value.bool true:=r'
    have kept:∀ b o,s₁.heap.get? b=some o→s'.heap.get? b=some o∨(isCodeTable s₁.heap b∧o=PySem.W.tabObj #[]∧∃ ps,s'.heap.get? b=some (PySem.W.tabObj ps)):=fun b o e=>by
     rcases hO b with z | ⟨ob,xs,z⟩ | ⟨hm,z⟩
     ·exact .inl (un.keep b o e z (by intro z; exact absurd (show b∈([]:List Addr) from z) (by simp)) (by simp))
     ·have z2:=un.frzs b ob _ z
      obtain ⟨e1,_⟩:=hok b _ z
      obtain ⟨e2,_⟩:=hok' b _ z2
      rw [e] at e1; cases e1
      exact .inl e2
     ·obtain ⟨more,z2⟩:=un.tbls b _ z
      have e1:=(hTb hm).1
      rw [e] at e1
      exact .inr ⟨(hTb hm).2,Option.some.inj e1,_,hok' b _ z2⟩
    refine ⟨rfl,⟨fun b o e => ?_,fun b o e => ?_⟩,os,bare⟩
    ·rcases kept b o e with z | ⟨t,rfl,ps,z⟩
     ·exact .inl z
     ·exact .inr (.inl ⟨t,rfl,#[],ps,rfl,by rw [Array.empty_append]; exact z⟩)
    ·rcases kept b o e with z | ⟨_,_,ps,z⟩
     ·exact ⟨_,z⟩
     ·exact ⟨_,z⟩
 have hat:a ∉ tabs.map (·.2):=fun z=>by
  have e:=(hTb z).1
  rw [ha] at e; cases e
 have hq2:∀ q∈tabs,q.2∈tabs.map (·.2):=fun q hq=>List.mem_map_of_mem hq
 cases hk:K.lookup a with
 | some o =>
  have e:=KX a o hk
  rw [ha] at e
  cases e
  refine core (fun b=>if b∈tabs.map (·.2) then some (.tbl #[]) else none) (fun b => ?_) (fun q hq=>if_pos (hq2 q hq)) (.inr ⟨_,vs.toArray,_,hk,rfl,rfl,rfl,by rw [List.size_toArray,lenV]; exact hl,by simpa using rv⟩) (fun b u z => ?_) (fun b z => ?_) fun z=>absurd (if_neg hat) z
  ·by_cases hb:b∈tabs.map (·.2)
   ·exact .inr (.inr ⟨hb,if_pos hb⟩)
   ·exact .inl (if_neg hb)
  ·by_cases hb:b∈tabs.map (·.2)
   ·have z':=(if_pos hb).symm.trans z
    cases z'
    exact (hTb hb).1
   ·have z':=(if_neg hb).symm.trans z
    cases z'
  ·by_cases hb:b∈tabs.map (·.2)
   ·exact .inr hb
   ·exact absurd (if_neg hb) z
 | none =>
  refine core (fun b=>if b=a then some (.frz { cls:=.type "list",data:=.seq vs.toArray } (.lst (ns.map V.int))) else if b∈tabs.map (·.2) then some (.tbl #[]) else none) (fun b => ?_)
   (fun q hq=>(if_neg (fun z=>hat (by rw [← z]; exact hq2 q hq))).trans (if_pos (hq2 q hq))) (.inl (.inr ⟨{ cls:=.type "list",data:=.seq vs.toArray },if_pos rfl⟩)) (fun b u z => ?_) (fun b z => ?_) fun _=>hk
  ·by_cases hb:b=a
   ·exact .inr (.inl ⟨_,_,if_pos hb⟩)
   ·by_cases hc:b∈tabs.map (·.2)
    ·exact .inr (.inr ⟨hc,(if_neg hb).trans (if_pos hc)⟩)
    ·exact .inl ((if_neg hb).trans (if_neg hc))
  ·by_cases hb:b=a
   ·have z':=(if_pos hb).symm.trans z
    cases z'
    subst hb
    exact ⟨ha,by rw [List.length_map]; exact hl,vs,_,rv,ha⟩
   ·by_cases hc:b∈tabs.map (·.2)
    ·have z':=((if_neg hb).trans (if_pos hc)).symm.trans z
     cases z'
     exact (hTb hc).1
    ·have z':=((if_neg hb).trans (if_neg hc)).symm.trans z
     cases z'
  ·by_cases hb:b=a
   ·exact .inl hb
   ·by_cases hc:b∈tabs.map (·.2)
    ·exact .inr hc
    ·exact absurd ((if_neg hb).trans (if_neg hc)) z
end IS
namespace IS
open PySem PySem.Spec L2
open PyProof.Rows hiding St
section
variable {X:Cx} {pins:List (Addr × Obj)} {σ:List (Option V)} {H:Hp} {s:Shared} {c P:Addr} {q:Str} {params:Arguments} {body:Expr} {scope:Scope} {clos:List (Str × Addr)} {pos:Pos} {Q:Value→Shared→Prop}
end
end IS
namespace IS
open PySem PySem.Spec L2
open PyProof.Rows hiding St
section
variable {prog:Program} {w:World} {A:Around} {E:Value→Shared→Prop} {s:Shared} {Q:Value→Shared→Prop} {q x:Str} {params:Arguments} {body:Expr} {scope:Scope} {clos:List (Str × Addr)} {pm ctv v:Value} {f c':Addr}
end
end IS
namespace IS
open PySem PySem.W PyProof.Rows
section
variable (ky:Nat→Int)
end
end IS
namespace IS
open PySem PySem.W PyProof.Rows
section
variable (ky:Nat→Int)
end
end IS
namespace IS
open PySem PySem.W PyProof.Rows
section
variable {α:Type}
end
end IS
namespace IS
open PySem PySem.W PyProof.Rows
section
variable {N:Nat}
end
section
variable {prog:Program} {w:World} {A:Around} {E:Value→Shared→Prop} {s:Shared} {h₀:Heap} {L l:Addr} {m:Str→Option Value} {news:List (Addr × Obj)} {vs:List Value} {Q:Value→Shared→Prop} {kz:List Int} {f:Value}
end
end IS
namespace IS
open PySem PySem.W PyProof.Rows
section
variable {prog:Program} {w:World} {A:Around} {E:Value→Shared→Prop} {s:Shared}
end
section
variable {prog:Program} {w:World} {A:Around} {E:Value→Shared→Prop} {s:Shared} {h₀:Heap} {L D:Addr} {m:Str→Option Value} {news:List (Addr × Obj)} {vs:List Value} {kz:List Int} {f:Value} {P:PySem.Fin→Shared→Prop} {n:Nat}
end
end IS
namespace IS
open PySem PySem.W PyProof.Rows
section
variable {prog:Program} {w:World} {A:Around} {E:Value→Shared→Prop} {s:Shared}
end
section
variable {prog:Program} {w:World} {A:Around} {E:Value→Shared→Prop} {s:Shared} {h₀:Heap} {L l:Addr} {m:Str→Option Value} {news:List (Addr × Obj)} {vs:List Value} {Q:Value→Shared→Prop} {ts:List (Int × Int)}
end
end IS
namespace IS
open PySem PySem.Spec L2
open PyProof.Rows hiding St
section
variable {X:Cx} {pins:List (Addr × Obj)} {σ:List (Option V)} {H:Hp} {s:Shared} {f l:Addr} {xs:List V} {kz:List Int} {Q:VK}
end
end IS
namespace IS
open PySem PySem.Spec L2
open PyProof.Rows hiding St
section
variable {X:Cx} {c P:Addr} {q x:Str} {params:Arguments} {body e:Expr} {scope:Scope} {clos:List (Str × Addr)} {pos lp kp p:Pos} {te:TE}
end
end IS
namespace IS
open PySem PySem.Spec L2
open PyProof.Rows hiding St
section
variable {X:Cx} {pins:List (Addr × Obj)} {σ:List (Option V)} {H:Hp} {s:Shared} {f r:Addr} {lo hi:Int} {n:Nat} {kz:List Int} {Q:VK}
end
end IS
namespace IS
open PySem PySem.Spec L2
open PyProof.Rows hiding St
section
variable {X:Cx} {c P:Addr} {q x:Str} {params:Arguments} {body e:Expr} {scope:Scope} {clos:List (Str × Addr)} {pos lp kp p:Pos} {te:TE}
end
end IS
namespace IS
open PySem PySem.Spec L2
open PyProof.Rows hiding St
open I (D Cell OS Fr R SZ Kt Ko)
section
variable {G:GI} {E:XK} {P:I.Pg} {KO:I.Orc} {W:Nat} {X:Cx}
end
end IS
namespace L2
open PySem PySem.Spec PyProof.Rows
section
variable {X:Cx}
end
end L2
namespace L2
open PySem PySem.Spec PyProof.Rows
section
variable {X:Cx}
end
end L2
namespace IS
open PySem PySem.Spec L2
open PyProof.Rows hiding St
open I (D Cell OS Fr R SZ Kt Ko)
section
variable {G:GI} {E:XK} {P:I.Pg} {KO:I.Orc} {W:Nat} {X:Cx} {a:Expr} {ea:I.E} {tg:Expr} {p pos:Pos}
theorem rps_ints {ι:List Addr} {Hf:Hp}:∀ (ns:List Int),Rps G ι Hf (ns.map V.int) (ns.map D.int)
 | []=>.nil
 | _::r=>.cons (.int _) (rps_ints r)
end
end IS
namespace IS
open PySem PySem.Spec L2
open PyProof.Rows hiding St
open I (D Cell OS Fr R SZ Kt Ko)
section
variable {G:GI} {E:XK} {P:I.Pg} {KO:I.Orc} {W:Nat} {X:Cx}
end
end IS
namespace IS
open PySem PySem.Spec L2
open PyProof.Rows hiding St
open I (D Cell OS Fr R SZ Kt Ko)
section
variable {α β:Type}
end
section
variable {X:Cx}
end
section
variable {G:GI} {E:XK} {P:I.Pg} {KO:I.Orc} {W:Nat}
theorem pl_cel {n m:Nat}:¬ D.pl n (.cel m)=true:=by cases n <;> exact fun h=>nomatch h
mutual
theorem Rp.deep {ι:List Addr} {Hf H:Hp} {os:OS} (rel:Rel G ι Hf H os):∀ (k:Nat) {v:V} {d:D} {n:Nat},Rp G ι Hf v d→D.pl n (I.deep os k d)=true→DatK G.K H v (toPy (I.deep os k d))
 | 0,_,d,_,h,p=>Rp.dat rel.sub h p
 | k+1,_,_,_,.non,p=>.non
 | k+1,_,_,_,.bl b,p=>.bl b
 | k+1,_,_,_,.int b,p=>.int b
 | k+1,_,_,_,.str b,p=>.str b
 | k+1,_,_,n,.lst (xs:=xs) h z r,p=>by
  obtain ⟨m,_,q⟩:=pl_lst (show D.pl n (.lst (xs.map (I.deep os k)))=true from p)
  exact .lst (SqL.of (rel.sub _ _ h)) (Rps.deep rel k r q)
 | k+1,_,_,n,.tup (xs:=xs) h z r,p=>by
  obtain ⟨m,_,q⟩:=pl_tup (show D.pl n (.tup (xs.map (I.deep os k)))=true from p)
  exact .tup (SqT.of (rel.sub _ _ h)) (Rps.deep rel k r q)
 | k+1,_,_,n,.scr h z r,p=>by cases n <;> cases p
 | k+1,_,_,n,.ktu h z r,p=>by cases n <;> cases p
 | k+1,_,_,n,.fn _ _,p=>by cases n <;> cases p
 | k+1,_,_,n,.cel (a:=a) (n:=m) h,p=>by
  have e0:I.deep os (k+1) (.cel m)=(match I.getC os m with | some (.lst xs)=>.lst (xs.map (I.deep os k)) | _=>.cel m):=rfl
  rw [e0] at p ⊢
  cases e:I.getC os m with
  | none=>rw [e] at p; exact absurd p pl_cel
  | some c =>
   rw [e] at p
   cases c with
   | lst xs =>
    obtain ⟨a',vs,h1,h2,h3,h4,z,h5⟩:=rel.asC (.cel h) e
    cases h1
    obtain ⟨m',_,q⟩:=pl_lst (show D.pl n (.lst (xs.map (I.deep os k)))=true from p)
    exact .lst (SqL.of h4) (Rps.deep rel k h5 q)
   | _=>exact absurd p pl_cel
theorem Rps.deep {ι:List Addr} {Hf H:Hp} {os:OS} (rel:Rel G ι Hf H os):∀ (k:Nat) {vs:List V} {ds:List D} {n:Nat},Rps G ι Hf vs ds→(∀ d∈ds.map (I.deep os k),D.pl n d=true)→DatsK G.K H vs (toPys (ds.map (I.deep os k)))
 | _,_,_,_,.nil,_=>.nil
 | k,_,_,_,.cons h r,q=>.cons (Rp.deep rel k h (q _ (.head _))) (Rps.deep rel k r fun d hd=>q d (.tail _ hd))
end
theorem v_eqd:VR2 G E (.cmp .eqd) (rEqK G.K false):=by
 intro ι Hf H os x y dx dy Q rel hx hy w
 obtain ⟨d,e,w⟩:=WR.ofO (show WR G E ι Hf (R.ofO ((D.eq (I.deep os 4 dx) (I.deep os 4 dy)).map D.bl) os) _ from w)
 cases e':D.eq (I.deep os 4 dx) (I.deep os 4 dy) with
 | none=>rw [e'] at e; cases e
 | some k =>
  rw [e'] at e
  cases e
  obtain ⟨p1,p2,nm,rfl⟩:=eq_some e'
  refine ⟨_,_,Rp.deep rel 4 hx p1,Rp.deep rel 4 hy p2,pl_shaped p1,pl_shaped p2,nm_py _ _ nm,?_⟩
  rw [same_py _ _ p1 p2]
  exact w.now rel _ (.bl _)
end
end IS
namespace L2
open PySem PySem.Spec PyProof.Rows
section
variable {X:Cx}
end
end L2
namespace IS
open PySem PySem.Spec L2
open PyProof.Rows hiding St
open I (D Cell OS Fr R SZ Kt Ko)
section
variable {G:GI} {E:XK}
end
end IS
namespace L2
open PySem PySem.Spec PyProof.Rows
theorem op_isB {X:Cx}:OpR X (compareOp .Is) (fun x y H Q=>∃ b c,x=.bl b∧y=.bl c∧Q (.bl (b == c)) H):=by
 intro pins s σ H x y v u Q I rx ry h
 obtain ⟨b,c,rfl,rfl,q⟩:=h
 cases rx
 cases ry
 refine wpAny_is_plain (by cases b <;> cases c <;> rfl) ?_
 exact ⟨.bl (b == c),H,I,by cases b <;> cases c <;> rfl,q⟩
end L2
namespace IS
open PySem PySem.Spec L2
open PyProof.Rows hiding St
open I (D Cell OS Fr R SZ Kt Ko)
theorem v_isB {G:GI} {E:XK}:VR2 G E (.cmp .isB) (fun x y H Q=>∃ b c,x=.bl b∧y=.bl c∧Q (.bl (b == c)) H):=by
 intro ι Hf H os x y dx dy Q rel hx hy w
 cases hx with
 | bl b =>
  cases hy with
  | bl c=>exact ⟨b,c,rfl,rfl,WR.now (show WR G E ι Hf (R.ok (D.bl (b == c)) os) _ from w) rel _ (.bl _)⟩
  | _=>exact False.elim w
 | _=>exact False.elim (by cases hy <;> exact w)
end IS
namespace L2
open PySem PySem.Spec PyProof.Rows
section
variable {X:Cx} {CX:CXT} {k:Nat} {f C:Addr} {fd:FuncData} {ps:List Str} {sp:Sp} {dvs:List V} {ds:List Value} {Ex:XK} {x m:Str} {p pos apos:Pos} {e o:Expr} {es:List Expr} {ta:TE} {t:TA}
theorem run_fn_at {pins:List (Addr × Obj)} {σ:St} {H:Hp} {s:Shared} {Q:VK} {us:List Value} {vs:List V} (F:FnOk X.prog X.w X.K X.mg X.base CX k f fd ps sp) (hr:Room k X.A) (hb:Binds X.K fd ps ds) (hd:Vals dvs ds) (hx:∀ e s',CX X.stack H s Ex e s'→X.xe e s')
  (I:Inv X pins σ H s) (r:Vals vs us) (h:sp (vs++dvs) H Q Ex):wpAny (model X.prog X.w) X.A (call (.ref f) us) (EP X pins σ Q) X.xe s:=by
 have r2:Vals (vs++dvs) (us++ds):=r.append hd
 have hl:(us++ds).length=ps.length:=by rw [← r2.length]; exact F.len _ _ _ _ h
 refine wpAny_call (codeAny_mono (F.run X.A X.stack s H ⟨us,[]⟩ (us++ds) (vs++dvs) Q Ex hr I.env0 (hb s us I.kIn hl) r2 h) fun r s' hq => ?_)
 cases r with
 | error e=>exact hx e s' hq
 | ok fl =>
  cases fl with
  | ret u=>exact I.after hq
  | next=>exact False.elim hq
  | brk=>exact False.elim hq
  | cont=>exact False.elim hq
theorem call_at {pins:List (Addr × Obj)} {σ:St} {H:Hp} {s:Shared} {Q:VK} (h:CalE X.prog X.w X.K X.mg X.base x k ps sp) (hr:Room k X.A) (ha:PA X (e::es) t) (I:Inv X pins σ H s) (ht:t σ H fun vs H1=>sp (vs++[]) H1 Q Ex)
  (hx:∀ H1 s1 e s',Inv X pins σ H1 s1→CXE X.prog X.w X.stack H1 s1 Ex e s'→X.xe e s') (hg:Gl X x) (hs:starEach (e::es) X.env=(false,eval e X.env)::starEach es X.env)
  (hplain:(backTo pos (starEach es X.env)).any (·.1)=false) (hd:(x == ("__debug__" : Str))=false):wpAny (model X.prog X.w) X.A (eval (.Call (.Name x p) (e::es) [] pos) X.env) (EP X pins σ Q) X.xe s:=by
 obtain ⟨f,fd,hm,hk,hb,F⟩:=h
 refine wpAny_Call_Name_kw (ld_glob I hg hm ?_ hd)
 refine PySem.W.callWith_K (h₀:=X.base) I.ok.mod.kin hk (thn (ha pos pins s σ H _ I ht) fun us s1 ⟨vs,H1,I1,r,q⟩=>⟨I1.kIn,?_⟩) hs hplain
 exact run_fn_at F hr hb .nil (hx H1 s1 · · I1) I1 r q
end
section
variable {X:Cx} {suite:List Stmt} {b₀ b₁:Stmt} {x n:Str} {c:Value} {i:Nat} {np hpos pos:Pos} {Ex:XK} {D:Ends}
theorem try_at {pins:List (Addr × Obj)} {s:Shared} {σ:St} {H:Hp} (I:Inv X pins σ H s) (hs:X.stack=X.env::X.outer) (hf:X.env.frame=some X.env.locals) (hN:X.N.Nodup) (hi:X.N[i]?=some n) (hl:X.env.scope.names.lookup n=some .local) (hm:X.mg x=some c)
  (hb:∀ (xe:Value→Shared→Prop),(∀ H1 s1 e s',Inv (X.tryB xe (X.pn++pins)) [] σ H1 s1→CXE X.prog X.w X.stack H1 s1 Ex e s'→xe e s')→Inv (X.tryB xe (X.pn++pins)) [] σ H s →
   wpAny (model X.prog X.w) X.A (exec b₁ X.env) (SP (X.tryB xe (X.pn++pins)) [] D) xe s)
  (hh:∀ (cls:Value) (H':Hp),Ex cls none H'→PySem.W.exmOne X.K cls c=some true∧∀ (a:Addr) (oe:Obj) (pn:List (Addr × Obj)) (s7:Shared),H' a=none→(a,oe)∈pn→oe.cls=cls →
   Inv (X.tryH a pn) [] (σ.set i (some (.ref a))) H' s7→wpAny (model X.prog X.w) (X.tryH a pn).A (execs (b₀::suite) X.env) (SP (X.tryH a pn) [] (endH i D)) (fun _ _=>False) s7)
  (hg:Gl X x) (hd:(x == ("__debug__" : Str))=false) :
  wpAny (model X.prog X.w) X.A (exec (.Try [b₁] [.ExceptHandler (some (.Name x np)) (some n) (b₀::suite) hpos] [] [] pos) X.env) (SP X pins D) X.xe s:=by
 have kf:=I.ok.kind
 refine wpAny_Try_except ?_
 have back:∀ {E:Value→Shared→Prop} {f:Flow} {s':Shared},SP (X.tryB E (X.pn++pins)) [] D f s'→SP X pins D f s':=fun {E f s'} z =>
  z.ctx fun σ' H' J=>J.ctx I.ok rfl rfl rfl rfl rfl rfl rfl rfl fun p hp=>J.pin p (List.mem_append_left _ hp)
 have one:∀ {E:Value→Shared→Prop},wpAny (model X.prog X.w) X.A (exec b₁ X.env) (SP (X.tryB E (X.pn++pins)) [] D) E s→wpAny (model X.prog X.w) X.A (execs [b₁] X.env) (SP (X.tryB E (X.pn++pins)) [] D) E s:=fun {E} h=>by
  refine wpAny_execs_cons (thn h fun f s1 q => ?_)
  cases f with
  | next=>exact wpAny_execs_nil q
  | ret v=>exact q
  | brk=>exact q
  | cont=>exact q
 refine wpAny_mono (one (hb _ ?_ (I.ctx I.ok.tryB rfl rfl rfl rfl rfl rfl rfl rfl fun p hp=>I.pin p (by simpa using hp)))) (fun f s₁ z => ?_) (fun _ _ z=>z)
 ·rintro H1 s1 e s' I1 ⟨a,cls,a0,B,H',rfl,F,hE⟩
  obtain ⟨hE,hT⟩:=hh cls H' hE
  have hfr:X.A.frames=some (X.env::X.outer):=by rw [← hs]; exact I.ok.frames
  have fl0:Heap.FlyingW B (X.env::X.outer) a cls a0 s'.heap:=by rw [← hs]; exact F.fly
  refine wpAny_looks_onW hfr hf fl0 fun h₄ held sm₄ => ?_
  refine wpAny_landsW held fun h₅ fly₅ sm₅ => ?_
  have Fl:∀ {h':Heap},Heap.FlyingW B (X.env::X.outer) a cls a0 h'→s'.heap.UpToSlots h'→Inv (X.tryB (fun _ _=>True) (X.pn++pins)) [] σ H' { s' with heap:=h' }:=fun {h'} fly sm=>by
   have Fm:=F.move F.fly.2.2.1 fly sm
   have J:=I1.call' (s':={ s' with heap:=h' }) Fm.os Fm.un Fm.hok Fm.bare (fun b z=>nomatch z)
   exact J.ctx I.ok.tryB rfl rfl rfl rfl rfl rfl rfl rfl J.pin
  have I5:=Fl fly₅ (sm₄.trans sm₅)
  have IM:Inv (X.tryH a (X.pn++pins)) [] σ H' { s' with heap:=h₅ }:=I5.ctx I.ok.tryH rfl rfl rfl rfl rfl rfl rfl rfl I5.pin
  refine wpAny_handleBy_cons (codeAny_handlers_test (ld_glob (X:=X.tryH a (X.pn++pins)) IM hg hm ?_ hd)) (by intro q; cases q)
  have LT:PySem.W.Looks (model X.prog X.w) h₅ (typeOf (.ref a)) cls:=by
   obtain ⟨ob,hob,hobc⟩:=fly₅.there
   exact hobc ▸ (PySem.W.Looks.ld hob).andThen .now
  refine (PySem.W.exm_one I5.kIn LT hE).here ?_
  refine codeAny_handlers_suite_as ?_
  refine lands_againW fly₅ fun h₆ fly₆ sm₆ => ?_
  have I6:=Fl fly₆ ((sm₄.trans sm₅).trans sm₆)
  obtain ⟨oe,ws,T,oT,ts,q1,⟨q2,q3⟩,q4,_⟩:=fly₆.2.2.2
  have na:H' a=none:=by
   cases q:H' a with
   | none=>rfl
   | some u =>
    obtain ⟨o,ho⟩:=F.trk a u q
    rw [F.fly.2.1] at ho
    cases ho
  have naf:a ∉ frs (X.env::X.outer):=fun z=>by
   obtain ⟨_,o',e2,nf⟩:=fly₆.2.2.1.mem z
   rw [q1] at e2
   cases e2
   exact nf _ q4
  have nL:a≠X.env.locals:=fun z=>naf (List.mem_filterMap.mpr ⟨X.env,List.mem_cons_self,by rw [hf,z]⟩)
  have nF:a ∉ X.fs:=fun z=>naf (by
   obtain ⟨e',h1,h2⟩:=List.mem_filterMap.mp z
   exact List.mem_filterMap.mpr ⟨e',List.mem_cons_of_mem _ h1,h2⟩)
  have I7:Inv (X.tryH a ((X.pn++pins)++[(a,oe)])) [] σ H' { s' with heap:=h₆ }:=by
   refine I6.ctx I.ok.tryH rfl rfl rfl rfl rfl rfl rfl rfl fun p hp => ?_
   rw [List.append_nil] at hp
   rcases List.mem_append.mp hp with hp | hp
   ·exact I6.pin p (List.mem_append_left _ hp)
   ·obtain rfl:p=(a,oe):=by simpa using hp
    exact ⟨q1,na,nL,nF,fun v z=>by rw [q4] at z; cases z⟩
  refine store_ok (X:=X.tryH a ((X.pn++pins)++[(a,oe)])) (v:=.ref a) I7 hN hi (.inl hl) rfl (fun s7 I8 => ?_) (.inr hl)
  refine wpAny_mono (hT a oe _ s7 na (List.mem_append_right _ (List.mem_singleton.mpr rfl)) q2 I8) (fun f s₃ z => ?_) (fun _ _ z=>z.elim)
  have fin:∀ {σ3:St} {H3:Hp},Inv (X.tryH a ((X.pn++pins)++[(a,oe)])) [] σ3 H3 s₃→Inv X pins σ3 H3 s₃:=fun {σ3 H3} J =>
   J.ctx I.ok rfl rfl rfl rfl rfl rfl rfl rfl fun p hp=>J.pin p (List.mem_append_left _ (List.mem_append_left _ hp))
  have goes:∀ {σ3:St} {H3:Hp},Inv X pins σ3 H3 s₃→(∀ s4,Inv X pins (σ3.set i none) H3 s4→SP X pins D f s4)→wpAny (model X.prog X.w) X.A (do bindName X.env n .none; unbindBehindTheSuite X.env n hpos) (fun _ s₅=>SP X pins D f s₅) X.xe s₃:=fun {σ3 H3} J k=>by
   obtain ⟨m,hn,hv⟩:=J.loc
   exact wpAny_nameGoes_keeps hl hn (by rw [kf]; rfl) fun h' v hn' sb=>k _ (J.goneK hN hi hv hn' sb)
  cases f with
  | next=>obtain ⟨σ3,H3,J,q⟩:=z; exact goes (fin J) fun s4 J4=>⟨_,H3,J4,q⟩
  | brk=>obtain ⟨σ3,H3,J,q⟩:=z; exact goes (fin J) fun s4 J4=>⟨_,H3,J4,q⟩
  | cont=>obtain ⟨σ3,H3,J,q⟩:=z; exact goes (fin J) fun s4 J4=>⟨_,H3,J4,q⟩
  | ret u=>obtain ⟨v,σ3,H3,J,r,q⟩:=z; exact goes (fin J) fun s4 J4=>⟨v,_,H3,J4,r,q⟩
 ·have z':=back z
  cases f with
  | next=>exact wpAny_execs_nil z'
  | brk=>exact z'
  | cont=>exact z'
  | ret u=>exact z'
end
end L2
namespace L2
open PySem PySem.Spec PyProof.Rows
noncomputable def HT (Y:Cx) (σ:St) (e:Expr) (b:Bool):Prop:=∃ t,PE Y e t∧∀ (H:Hp) (Q:VK),(∀ H',Same H H'→Q (.bl b) H')→t σ H Q
section
variable {Y:Cx} {σ:St} {a b:Expr} {rest:List Expr} {p q:Bool} {pos:Pos}
theorem HT.one {op:BoolOp} (h:HT Y σ a p):HT Y σ (.BoolOp op [a] pos) p:=let ⟨t,h1,h2⟩:=h; ⟨t,pe_one h1,h2⟩
theorem HT.not (h:HT Y σ a p):HT Y σ (.UnaryOp .Not a pos) (!p):=let ⟨_,h1,h2⟩:=h; ⟨_,pe_not h1,fun H _ hq=>h2 H _ fun H' s=>⟨_,rfl,hq H' s⟩⟩
theorem HT.and (h:HT Y σ a p) (g:HT Y σ (.BoolOp .And (b::rest) pos) q):HT Y σ (.BoolOp .And (a::b::rest) pos) (p&&q):=by
 obtain ⟨t,h1,h2⟩:=h
 obtain ⟨u,g1,g2⟩:=g
 refine ⟨_,pe_and h1 g1,fun H Q hq=>h2 H _ fun H' s=>⟨p,rfl,?_⟩⟩
 cases p with
 | true=>rw [if_pos rfl]; exact g2 H' Q fun H'' s2=>hq H'' (s.trans s2)
 | false=>rw [if_neg (by simp)]; exact hq H' s
theorem HT.or (h:HT Y σ a p) (g:HT Y σ (.BoolOp .Or (b::rest) pos) q):HT Y σ (.BoolOp .Or (a::b::rest) pos) (p||q):=by
 obtain ⟨t,h1,h2⟩:=h
 obtain ⟨u,g1,g2⟩:=g
 refine ⟨_,pe_or h1 g1,fun H Q hq=>h2 H _ fun H' s=>⟨p,rfl,?_⟩⟩
 cases p with
 | true=>rw [if_pos rfl]; exact hq H' s
 | false=>rw [if_neg (by simp)]; exact g2 H' Q fun H'' s2=>hq H'' (s.trans s2)
theorem HT.var {i:Nat} {x:Str} (hN:Y.N[i]?=some x) (hv:Vis Y.env.scope x) (h:σ[i]?=some (some (.bl p))) (hd:(x == ("__debug__" : Str))=false) (hcd:(x == ("__classdict__" : Str))=false):HT Y σ (.Name x pos) p :=
 ⟨_,pe_var hN hv hd hcd,fun H _ hq=>⟨_,h,hq H (Same.refl H)⟩⟩
theorem HT.k {j:Nat}:HT Y σ (.Constant (.bool p) j pos) p:=⟨_,pe_bl,fun H _ hq=>hq H (Same.refl H)⟩
end
section
variable {Y:Cx} {σ:St} {ea C:Addr} {oe:Obj} {i:Nat} {n:Str} {np xp cpos:Pos}
theorem HT.inst {x:Str} {A:Value} {w:V} {p:Bool} (hp:(ea,oe)∈Y.pn) (hc:oe.cls=.ref C) (Z:PySem.W.ExC Y.K C) (hx:PE Y (.Name x xp) (tC w)) (hA:clsV w=some A) (hk:PySem.W.kitOne Y.K (.ref C) A=some p)
  (hN:Y.N[i]?=some n) (hv:Vis Y.env.scope n) (h:σ[i]?=some (some (.ref ea))) (hd:(n == ("__debug__" : Str))=false) (hcd:(n == ("__classdict__" : Str))=false) (hg:Gl Y "isinstance") (hm:Y.mg "isinstance" = none) {ip:Pos} :
  HT Y σ (.Call (.Name "isinstance" ip) [.Name n np,.Name x xp] [] cpos) p :=
 ⟨_,pe_callB (call_isinstX hp hc Z) hg hm boot_isinstance (pa_cons (pe_var hN hv hd hcd) (pa_cons hx pa_nil)),fun H _ hq=>⟨_,h,_,A,p,rfl,hA,hk,hq H (Same.refl H)⟩⟩
theorem pa_cls {kt:Str→Option Bool} (K:PySem.W.Frag) (hK:Y.K=K) (hkt:∀ x b,kt x=some b→∃ A,Y.mg x=some (.ref A)∧PySem.W.kitOne K (.ref C) (.ref A)=some b):∀ (ts:List (Str × Pos)) (bs:List Bool),ts.map (fun t=>kt t.1)=bs.map some→(∀ t∈ts,Gl Y t.1∧(t.1 == ("__debug__" : Str))=false) →
  ∃ (t:TA) (cs:List Addr),PA Y (ts.map fun t=>.Name t.1 t.2) t∧(∀ σ H Q,Q (cs.map V.ref) H→t σ H Q)∧PySem.W.kitAny K (.ref C) (cs.map Value.ref)=some (bs.any id)∧cs.length=ts.length
 | [],[],_,_=>⟨_,[],pa_nil,fun _ _ _ h=>h,rfl,rfl⟩
 | [],_::_,h,_=>by cases h
 | _::_,[],h,_=>by cases h
 | (x,xp)::ts,b::bs,h,hg=>by
  rw [List.map_cons,List.map_cons] at h
  obtain ⟨h1,h2⟩:=List.cons.inj h
  obtain ⟨A,m1,m2⟩:=hkt x b h1
  obtain ⟨t,cs,r1,r2,r3,r4⟩:=pa_cls K hK hkt ts bs h2 fun t ht=>hg t (.tail _ ht)
  obtain ⟨g1,g2⟩:=hg (x,xp) (.head _)
  refine ⟨_,A::cs,pa_cons (pe_glob (v:=.ref A) g1 m1 rfl g2) r1,fun σ H Q hq=>r2 σ H _ hq,?_,by simp [r4]⟩
  show (match PySem.W.kitOne K (.ref C) (.ref A) with | some true=>some true | some false=>PySem.W.kitAny K (.ref C) (cs.map Value.ref) | none=>none)=_
  rw [m2]
  cases b with
  | true=>rfl
  | false=>exact r3
theorem HT.instT {kt:Str→Option Bool} {ts:List (Str × Pos)} {bs:List Bool} {x1} (hp:(ea,oe)∈Y.pn) (hc:oe.cls=.ref C) (Z:PySem.W.ExC Y.K C) (hkt:∀ x b,kt x=some b→∃ A,Y.mg x=some (.ref A)∧PySem.W.kitOne Y.K (.ref C) (.ref A)=some b)
  (hb:ts.map (fun t=>kt t.1)=bs.map some) (hgs:∀ t∈ts,Gl Y t.1∧(t.1 == ("__debug__" : Str))=false) (hz:ts.length≤sizeLine)
  (hN:Y.N[i]?=some n) (hv:Vis Y.env.scope n) (h:σ[i]?=some (some (.ref ea))) (hd:(n == ("__debug__" : Str))=false) (hcd:(n == ("__classdict__" : Str))=false) (hg:Gl Y "isinstance") (hm:Y.mg "isinstance" = none) {ip tp:Pos} :
  HT Y σ (.Call (.Name "isinstance" ip) [.Name n np,.Tuple (ts.map fun t=>.Name t.1 t.2) x1 tp] [] cpos) (bs.any id):=by
 obtain ⟨t,cs,r1,r2,r3,r4⟩:=pa_cls (C:=C) Y.K rfl hkt ts bs hb hgs
 refine ⟨_,pe_callB (call_isinstT hp hc Z) hg hm boot_isinstance (pa_cons (pe_var hN hv hd hcd) (pa_cons (pe_tup r1) pa_nil)),fun H Q hq=>⟨_,h,r2 σ H _ ⟨by rw [List.length_map,r4]; exact hz,fun p hp=>⟨p,cs,_,rfl,upd_same,r3,hq _ (Same.new hp _)⟩⟩⟩⟩
end
noncomputable def setsV (ws:List (Nat × Bool)) (σ:St):St:=ws.foldl (fun σ w=>σ.set w.1 (some (.bl w.2))) σ
noncomputable def HQ (Y:Cx) (σ:St) (suite:List Stmt) (ws:List (Nat × Bool)) (rt:Option Bool):Prop :=
 ∀ (pins:List (Addr × Obj)) (s:Shared) (H:Hp) (D:Ends),Inv Y pins σ H s→(∀ H',Same H H'→match rt with | none=>D.nx (setsV ws σ) H' | some b=>D.rt (.bl b) H')→wpAny (model Y.prog Y.w) Y.A (execs suite Y.env) (SP Y pins D) Y.xe s
section
variable {Y:Cx} {σ:St} {e:Expr} {r:List Stmt} {p:Bool} {ws:List (Nat × Bool)} {rt:Option Bool} {pos xp:Pos}
theorem HQ.nil:HQ Y σ [] [] none:=fun pins s H D I h=>wpAny_execs_nil ⟨σ,H,I,h H (Same.refl H)⟩
theorem HQ.set {j:Nat} {x:Str} (hN:Y.N.Nodup) (hi:Y.N[j]?=some x) (hx:Loc Y.env.scope x) (hf:Y.fn x=true∨Y.env.scope.names.lookup x=some .local) (hs:swapsWith e (some (.Name x xp)) pos.line Y.env=pure false) (he:HT Y σ e p) (hr:HQ Y (σ.set j (some (.bl p))) r ws rt) :
  HQ Y σ (.Assign [.Name x xp] e pos::r) ((j,p)::ws) rt:=by
 obtain ⟨t,h1,h2⟩:=he
 intro pins s H D I h
 refine wpAny_execs_cons (thn (ps_set hN hi hx h1 hs hf pins s σ H { D with nx:=fun σ' H'=>σ'=σ.set j (some (.bl p))∧Same H H' } I (h2 H _ fun H' q=>⟨rfl,q⟩)) fun f s1 z => ?_)
 cases f with
 | next =>
  obtain ⟨σ',H',J,rfl,sm⟩:=z
  exact hr pins s1 H' D J fun H'' q=>h H'' (sm.trans q)
 | ret v=>exact z
 | brk=>exact z
 | cont=>exact z
noncomputable def HTt (Y:Cx) (σ:St) (e:Expr) (b:Bool):Prop:=∃ t,PT Y e t∧∀ (H:Hp) (Q:Bool→Hp→Prop),(∀ H',Same H H'→Q b H')→t σ H Q
noncomputable def HTw (Y:Cx) (σ:St) (e:Expr) (b:Bool):Prop:=∃ t,PW Y e t∧∀ (H:Hp) (Q:Bool→Hp→Prop),(∀ H',Same H H'→Q b H')→t σ H Q
theorem HTw.t (h:HTw Y σ e p):HTt Y σ e p:=let ⟨_,h1,h2⟩:=h; ⟨_,h1.pt,h2⟩
theorem HT.t (he:HT Y σ e p) (ht:∀ whole,isTrue e Y.env whole=(do let v ← whole; standAt e.pos; holding [v] (truthy v))):HTt Y σ e p :=
 let ⟨_,h1,h2⟩:=he; ⟨_,pt_val h1 ht,fun H _ hq=>h2 H _ fun H' s=>⟨_,rfl,hq H' s⟩⟩
theorem HTt.not (he:HTt Y σ e p):HTt Y σ (.UnaryOp .Not e pos) (!p):=let ⟨_,h1,h2⟩:=he; ⟨_,pt_not h1,fun H _ hq=>h2 H _ hq⟩
theorem HTt.one (he:HTt Y σ e p):HTw Y σ (.BoolOp .Or [e] pos) p:=let ⟨_,h1,h2⟩:=he; ⟨_,pw_or1 h1,h2⟩
theorem HTt.or {f:Expr} {rest:List Expr} {q:Bool} (he:HTt Y σ e p) (hf:HTw Y σ (.BoolOp .Or (f::rest) pos) q):HTw Y σ (.BoolOp .Or (e::f::rest) pos) (p||q):=by
 obtain ⟨_,h1,h2⟩:=he
 obtain ⟨_,g1,g2⟩:=hf
 refine ⟨_,pw_or h1 g1,fun H Q hq=>h2 H _ fun H' s => ?_⟩
 cases p with
 | true=>rw [if_pos rfl]; exact hq H' s
 | false=>rw [if_neg (by simp)]; exact g2 H' Q fun H'' s2=>hq H'' (s.trans s2)
theorem HQ.skipT {body:List Stmt} (he:HTt Y σ e false) (hr:HQ Y σ r ws rt):HQ Y σ (.If e body [] pos::r) ws rt:=by
 obtain ⟨t,h1,h2⟩:=he
 intro pins s H D I h
 have nobody:PSs Y body (fun _ _ _=>False):=fun _ _ _ _ _ _ z=>z.elim
 have nothing:PSs Y [] (fun D σ H=>D.nx σ H):=fun _ _ σ H _ I z=>wpAny_execs_nil ⟨σ,H,I,z⟩
 refine wpAny_execs_cons (thn (ps_if h1 nobody nothing pins s σ H { D with nx:=fun σ' H'=>σ'=σ∧Same H H' } I (h2 H _ fun H' q=>⟨rfl,q⟩)) fun f s1 z => ?_)
 cases f with
 | next =>
  obtain ⟨σ',H',J,rfl,sm⟩:=z
  exact hr pins s1 H' D J fun H'' q=>h H'' (sm.trans q)
 | ret v=>exact z
 | brk=>exact z
 | cont=>exact z
theorem HQ.ret (he:HT Y σ e p):HQ Y σ (.Return (some e) pos::r) [] (some p):=by
 obtain ⟨t,h1,h2⟩:=he
 intro pins s H D I h
 refine wpAny_execs_cons (thn (ps_ret h1 pins s σ H { nx:=fun _ _=>False,rt:=D.rt,bk:=fun _ _=>False,ct:=fun _ _=>False } I (h2 H _ fun H' q=>h H' q)) fun f s1 z => ?_)
 cases f with
 | next=>obtain ⟨_,_,_,z⟩:=z; exact z.elim
 | ret v=>exact z
 | brk=>obtain ⟨_,_,_,z⟩:=z; exact z.elim
 | cont=>obtain ⟨_,_,_,z⟩:=z; exact z.elim
end
end L2
namespace L2
open PySem PySem.Spec PyProof.Rows
theorem vals_strs:∀ {ts:List Str} {its:List Value},Vals (ts.map V.str) its→∃ l:List (Str × Tok),strValues l=its∧l.map (·.1)=ts
 | [],_,h=>by cases h; exact ⟨[],rfl,rfl⟩
 | t::ts,_,h=>by
  cases h with
  | cons h r =>
   obtain ⟨k,rfl⟩:=h
   obtain ⟨l,e1,e2⟩:=vals_strs r
   exact ⟨(t,k)::l,by rw [← e1]; rfl,by rw [← e2]; rfl⟩
theorem strs_vals:∀ (l:List (Str × Tok)),Vals ((l.map (·.1)).map V.str) (strValues l)
 | []=>.nil
 | (t,k)::l=>.cons ⟨k,rfl⟩ (strs_vals l)
section
variable {X:Cx}
theorem call_str:CallR X (.type "str") (fun xs H Q=>∃ i:Int,xs=[.int i]∧i.natAbs.log2<1920∧Q (.str (Str.ofString (toString i))) H):=by
 intro pins s σ H xs us Q J r h
 obtain ⟨i,rfl,hi,q⟩:=h
 obtain ⟨u,rfl,ru⟩:=vals1 r
 obtain ⟨t,rfl⟩:=ru
 exact PySem.P.str_of_int hi ⟨.str _,H,J.tok _,⟨_,rfl⟩,q⟩
theorem call_int:CallR X (.type "int") (fun xs H Q=>∃ (x:Str) (n:Int),xs=[.str x]∧PySem.intText? x=some n∧x.length≤640∧Q (.int n) H):=by
 intro pins s σ H xs us Q J r h
 obtain ⟨x,n,rfl,hn,hl,q⟩:=h
 obtain ⟨u,rfl,ru⟩:=vals1 r
 obtain ⟨t,rfl⟩:=ru
 exact PySem.W.KIN.call_text hn hl ⟨.int n,H,J.tok _,⟨_,rfl⟩,q⟩
theorem mt_join:MtM X "str.join" (fun x vs H Q=>∃ (sep:Str) (a:Addr) (ts:List Str),x=.str sep∧vs=[.ref a]∧SqL X.K H a (ts.map V.str)∧JoinOk sep ts=true∧Q (.str (Txt.join sep ts)) H):=by
 intro pins s σ H x vs v us Q J rx rv h
 obtain ⟨sep,a,ts,rfl,rfl,hq,hj,q⟩:=h
 obtain ⟨t,rfl⟩:=rx
 obtain ⟨u,rfl,ru⟩:=rv.one
 cases ru
 obtain ⟨its,r,pl,hz⟩:=J.list hq
 obtain ⟨l,rfl,e2⟩:=vals_strs r
 exact SC.join pl.isList e2 hj fun t' k=>⟨.str _,H,J.tok _,⟨_,rfl⟩,q⟩
theorem mt_starts:MtM X "str.startswith" (fun x vs H Q=>∃ (a b:Str),x=.str a∧vs=[.str b]∧Q (.bl (Txt.startswith a b)) H):=by
 intro pins s σ H x vs v us Q J rx rv h
 obtain ⟨a,b,rfl,rfl,q⟩:=h
 obtain ⟨t,rfl⟩:=rx
 obtain ⟨u,rfl,ru⟩:=rv.one
 obtain ⟨t',rfl⟩:=ru
 exact SC.startswith ⟨.bl _,H,J,rfl,q⟩
theorem mt_split:MtM X "str.split" (fun x vs H Q=>∃ (a b:Str),x=.str a∧vs=[.str b]∧(b.length == 0)=false∧a.length+2≤sizeLine∧∀ p,H p=none→Q (.ref p) (upd H p (.lst ((Txt.split a b).map V.str)))):=by
 intro pins s σ H x vs v us Q J rx rv h
 obtain ⟨a,b,rfl,rfl,hb,hsz,q⟩:=h
 obtain ⟨t,rfl⟩:=rx
 obtain ⟨u,rfl,ru⟩:=rv.one
 obtain ⟨u,rfl⟩:=ru
 have fin:∀ (l:List (Str × Tok)) (k:Nat),l.map (·.1)=Txt.split a b→EP X pins σ Q (.ref s.heap.objs.size) { s with heap:=s.heap.push { cls:=.type "list",data:=.seq (strValues l).toArray },toks:=k }:=fun l k e=>by
  refine ⟨.ref _,_,J.laid (o:=.lst ((Txt.split a b).map V.str)) (fun b o e=>Heap.get?_push_of_some _ e) (Nat.le_refl _) ⟨?_,strValues l,0,?_,?_⟩,rfl,q _ (J.hok.fresh (Nat.le_refl _))⟩
  ·have:=split_le a b
   rw [List.length_map]; omega
  ·have:=strs_vals l
   rw [e] at this
   exact this
  ·exact Heap.get?_push_size _ rfl
 have hn:(Builtin.Str.partsBetween a (Builtin.Str.occurrences a b 0 a.length (a.length+1)) b.length).length≤sizeLine:=by
  have e1:=StrLaws.occ_length_le a b 0 a.length (a.length+1)
  rw [length_partsBetween]; omega
 cases h1:(decide (a.length<b.length)||decide (Builtin.Str.strKind a<Builtin.Str.strKind b))
 ·cases hf:(Builtin.Str.occurrences a b 0 a.length (a.length+1)).isEmpty
  ·refine call_meets F.slot_str_split (typeIs_str _ _ _) F.entry_str_split (F.args_str_split_2 _ _) (meets_str_split_sep a b t u h1 hb hf (by omega) hn) ?_
   have e:=fin (numbered s.toks (Builtin.Str.partsBetween a (Builtin.Str.occurrences a b 0 a.length (a.length+1)) b.length))
   rw [← strsFrom_eq] at e
   exact e _ ((numbered_texts _ _).trans ((if_neg (ne_true_of_eq_false h1)).trans (if_neg (ne_true_of_eq_false hf))).symm)
  ·exact call_meets F.slot_str_split (typeIs_str _ _ _) F.entry_str_split (F.args_str_split_2 _ _) (meets_str_split_not_found a b t u h1 hb hf)
    (fin [(a,t)] s.toks ((if_neg (ne_true_of_eq_false h1)).trans (if_pos hf)).symm)
 ·exact call_meets F.slot_str_split (typeIs_str _ _ _) F.entry_str_split (F.args_str_split_2 _ _) (meets_str_split_cannot_occur a b t u h1)
   (fin [(a,t)] s.toks (if_pos h1).symm)
theorem op_leS:OpR X (compareOp .LtE) (fun x y H Q=>∃ a b:Nat,x=.str ⟨#[a]⟩∧y=.str ⟨#[b]⟩∧Q (.bl (decide (a≤b))) H):=by
 intro pins s σ H x y v u Q I rx ry h
 obtain ⟨a,b,rfl,rfl,q⟩:=h
 obtain ⟨t,rfl⟩:=rx
 obtain ⟨t',rfl⟩:=ry
 refine PySem.P.le_str ⟨.bl (decide (a≤b)),H,I,?_,q⟩
 show Value.bool _=Value.bool _
 congr 1
 show (!decide ([b] < [a]))=decide (a≤b)
 have e:[b] < [a]↔b<a:=by
  rw [List.cons_lt_cons_iff]
  exact ⟨fun h=>h.elim id fun h=>absurd h.2 (List.not_lt_nil _),.inl⟩
 by_cases h:a≤b
 ·rw [decide_eq_true h,decide_eq_false fun z=>absurd (e.mp z) (by omega)]; rfl
 ·rw [decide_eq_false h,decide_eq_true (e.mpr (by omega))]; rfl
noncomputable def Itc (x:Str):It:=⟨fun i _=>i<x.cps.size,fun i H v H'=>H'=H∧∃ c,x.cps[i]?=some c∧v=.str ⟨#[c]⟩,fun i _=>x.cps.size≤i⟩
theorem turn_str {P:Program} {w:World} {K:PySem.W.Frag} {tg:Expr} (x:Str) (t:Tok) (it:Addr):Turn P w K tg (Itc x) [it] it (fun i h=>h.IsStrIter it "str_ascii_iterator" x t i) where
 mem:=by simp
 obj:=fun i h st b hb=>by
  have e:b=it:=by simpa using hb
  subst e
  obtain ⟨o,e,c,d⟩:=st
  exact ⟨o,e,fun v z=>by rw [d] at z; cases z⟩
 keep:=fun i h h' st k=>let ⟨o,e,c,d⟩:=st; ⟨o,k it (by simp) o e,c,d⟩
 item:=by
  intro X hP hw hK hc i pins s σ H E I hf st hg
  subst hP hw hK
  obtain ⟨f0,f1,f2,f3,f4,f5⟩:=hf it (by simp)
  have hx:x.cps[i]?=some (x.cps[i]'hg):=Array.getElem?_eq_getElem hg
  refine wpAny_pyNext_ascii_item st hx fun h' st' sb => ?_
  have I1:Inv X pins σ H { s with heap:=h',toks:=s.toks+1 }:=I.turned (fun b o hb e=>(sb.2 b hb).trans e) f0 f1 f3 f4 f5
  obtain ⟨o,e,c,d⟩:=id st'
  exact ⟨_,rfl,go_of (s:={ s with heap:=h',toks:=s.toks+1 }) e c d (by decide) ⟨.str ⟨#[x.cps[i]'hg]⟩,H,I1,⟨_,rfl⟩,⟨rfl,_,hx,rfl⟩,st',fun b hb=>(hf b hb).1⟩⟩
 done:=by
  intro X hP hw hK hc i pins s σ H E I hf st hg
  subst hP hw hK
  obtain ⟨f0,f1,f2,f3,f4,f5⟩:=hf it (by simp)
  exact wpAny_pyNext_ascii_end (I.ok.hd hc) st (Array.getElem?_eq_none hg) fun h' eb=>⟨rfl,I.turned (t':=s.toks) (fun b o hb e=>eb b o hb e) f0 f1 f3 f4 f5⟩
 self:=fun _ _ _ _ _ st h=>wpAny_pyIter_striter_ascii st h
theorem pi_chars {tg l:Expr} {tl:TE} (hl:PE X l tl):PI X tg l (fun σ H R=>tl σ H fun x H1=>∃ a,x=.str a∧a.cps.all (· < 128)=true∧R (Itc a) H1):=by
 intro pins s σ H R I h
 refine thn (hl pins s σ H _ I h) fun v s1 ⟨x,H1,I1,r1,q1⟩ => ?_
 obtain ⟨a,rfl,ha,q⟩:=q1
 obtain ⟨t,rfl⟩:=r1
 refine wpAny_pyIter_ascii ha ?_
 refine ⟨s1.heap.objs.size,[s1.heap.objs.size],_,_,H1,rfl,I1.kept (t':=s1.toks) fun b o e=>Heap.get?_push_of_some _ e,turn_str a t _,⟨_,Heap.get?_push_size _ rfl,rfl,rfl⟩,fun b hb => ?_,q⟩
 have e:b=s1.heap.objs.size:=by simpa using hb
 subst e
 exact I1.fpOk (Nat.le_refl _) (I1.hok.fresh (Nat.le_refl _))
end
end L2
namespace IS
open PySem PySem.Spec L2
open PyProof.Rows hiding St
open I (D Cell OS Fr R SZ Kt Ko)
theorem join_cps (sep:Str):∀ (ts:List Str),(Str.join sep ts).cps.toList=I.joinL sep.cps.toList (ts.map (·.cps.toList))
 | []=>rfl
 | [a]=>rfl
 | a::b::r=>by
  show (a++sep++Str.join sep (b::r)).cps.toList=a.cps.toList++sep.cps.toList++I.joinL sep.cps.toList ((b::r).map (·.cps.toList))
  rw [PySem.W.KT.app_list,PySem.W.KT.app_list,join_cps sep (b::r)]
theorem split_cps (x:Str) (c:Nat):(Txt.split x ⟨#[c]⟩).map (·.cps.toList)=I.splitC c x.cps.toList:=by
 have h1:=StrLaws.join_split x ⟨#[c]⟩
 have h2:=StrLaws.split_free x c
 have h3:=split_pos x ⟨#[c]⟩
 generalize Txt.split x ⟨#[c]⟩=ps at *
 have h4:=congrArg (fun s:Str=>s.cps.toList) h1
 simp only [join_cps] at h4
 rw [← h4]
 refine (I.splitC_join ?_ ?_).symm
 ·intro z
  have:=congrArg List.length z
  rw [List.length_map] at this
  simp at this
  subst this
  simp at h3
 ·intro w hw
  obtain ⟨p,hp,rfl⟩:=List.mem_map.mp hw
  exact h2 p hp
section
variable {G:GI} {E:XK} {P:I.Pg} {KO:I.Orc} {W:Nat} {X:Cx} {e:Expr} {ea:I.E} {tg:Expr} {ι:List Addr} {Hf H:Hp}
theorem rps_strs:∀ (ts:List Str),Rps G ι Hf (ts.map V.str) ((ts.map (·.cps.toList)).map D.str)
 | []=>.nil
 | t::ts=>.cons (.str t) (rps_strs ts)
theorem asStrs_of:∀ {vs:List V} {xs:List D} {l:List (List Nat)},Rps G ι Hf vs xs→I.asStrs xs=some l→∃ ts:List Str,vs=ts.map V.str∧l=ts.map (·.cps.toList)
 | _,_,_,.nil,h=>by cases h; exact ⟨[],rfl,rfl⟩
 | _,_,l,.cons h r,e=>by
  cases h with
  | str x =>
   obtain ⟨l',h1,rfl⟩:=Option.map_eq_some_iff.mp (show (I.asStrs _).map (x.cps.toList :: ·)=some l from e)
   obtain ⟨ts,rfl,rfl⟩:=asStrs_of r h1
   exact ⟨x::ts,rfl,rfl⟩
  | _=>cases e
theorem v_toS:VRs G E .toS (fun xs H Q=>∃ i:Int,xs=[.int i]∧i.natAbs.log2<1920∧Q (.str (Str.ofString (toString i))) H):=by
 intro ι Hf H os xs ds Q rel hx w
 cases hx with
 | nil=>exact False.elim w
 | cons hx r =>
  cases r with
  | cons _ _=>exact False.elim (by cases hx <;> exact w)
  | nil =>
   cases hx with
   | int i =>
    obtain ⟨hg,w⟩:=WR.gd (show WR (α:=D) G E ι Hf (R.gd (0≤i∧i<10000000000) (R.ok (D.str (I.digs i.toNat)) os)) _ from w)
    obtain ⟨m,rfl⟩:=Int.eq_ofNat_of_zero_le hg.1
    refine ⟨_,rfl,?_,?_⟩
    ·show m.log2<1920
     by_cases h0:m=0
     ·subst h0; decide
     ·have:m<2 ^ 40:=by omega
      have:=(Nat.log2_lt h0).mpr this
      omega
    ·have:=Rp.str (G:=G) (ι:=ι) (Hf:=Hf) (Str.ofString (toString ((m:Nat):Int)))
     rw [PySem.W.KIN.signs_num] at this
     exact w.now rel _ this
   | _=>exact False.elim w
theorem v_toI:VRs G E .toI (fun xs H Q=>∃ (x:Str) (n:Int),xs=[.str x]∧PySem.intText? x=some n∧x.length≤640∧Q (.int n) H):=by
 intro ι Hf H os xs ds Q rel hx w
 cases hx with
 | nil=>exact False.elim w
 | cons hx r =>
  cases r with
  | cons _ _=>exact False.elim (by cases hx <;> exact w)
  | nil =>
   cases hx with
   | str x =>
    obtain ⟨⟨hg,hl⟩,w⟩:=WR.gd (show WR (α:=D) G E ι Hf (R.gd ((!x.cps.toList.isEmpty&&x.cps.toList.all I.isFig)=true∧x.cps.toList.length≤600) (R.ok (D.int (I.dval x.cps.toList:Nat)) os)) _ from w)
    obtain ⟨h1,h2⟩:=Bool.and_eq_true_iff.mp hg
    have hl:x.length≤600:=by rw [Array.length_toList] at hl; exact hl
    refine ⟨x,_,rfl,PySem.intText_digits (fun c hc => ?_) ?_ (by omega),by omega,w.now rel _ (.int _)⟩
    ·have:=List.all_eq_true.mp h2 c hc
     obtain ⟨a,b⟩:=Bool.and_eq_true_iff.mp (show (decide (48≤c)&&decide (c≤57))=true from this)
     exact ⟨of_decide_eq_true a,of_decide_eq_true b⟩
    ·intro z; rw [z] at h1; cases h1
   | _=>exact False.elim w
theorem v_joinS:VRm G E .joinS (fun x vs H Q=>∃ (sep:Str) (a:Addr) (ts:List Str),x=.str sep∧vs=[.ref a]∧SqL G.K H a (ts.map V.str)∧JoinOk sep ts=true∧Q (.str (Txt.join sep ts)) H):=by
 intro ι Hf H os x xs d ds Q rel hx hxs w
 cases hxs with
 | nil=>exact False.elim (by cases hx <;> exact w)
 | cons hy r =>
  cases r with
  | cons _ _=>exact False.elim (by cases hx <;> exact w)
  | nil =>
   cases hx with
   | str sep =>
    rename_i y dy
    have w:WR G E ι Hf (I.joinK sep.cps.toList os ((I.itemsL os dy).bind I.asStrs)) (fun ι' Hf' H' _ d=>∀ v,Rp G ι' Hf' v d→Q v H'):=w
    cases e:I.itemsL os dy with
    | none=>rw [e] at w; exact w.elim
    | some ys =>
     rw [e] at w
     have w:WR G E ι Hf (I.joinK sep.cps.toList os (I.asStrs ys)) (fun ι' Hf' H' _ d=>∀ v,Rp G ι' Hf' v d→Q v H'):=w
     cases e2:I.asStrs ys with
     | none=>rw [e2] at w; exact w.elim
     | some l =>
      rw [e2] at w
      obtain ⟨a,rfl,la⟩:=laterL rel hy e
      obtain ⟨vs,hq,z,rr⟩:=la ι Hf H os .refl rel (stay_refl _)
      obtain ⟨ts,rfl,rfl⟩:=asStrs_of rr e2
      have w:WR G E ι Hf (if ((ts.map (·.cps.toList)).map List.length).sum+(ts.map (·.cps.toList)).length * sep.cps.toList.length≤1000000 then .ok (.str (I.joinL sep.cps.toList (ts.map (·.cps.toList)))) os else .stk) (fun ι' Hf' H' _ d=>∀ v,Rp G ι' Hf' v d→Q v H'):=w
      split at w
      ·rename_i hs
       refine ⟨sep,a,ts,rfl,rfl,hq,joinOk_of ?_,?_⟩
       ·have e1:(ts.map (·.cps.toList)).length=ts.length:=List.length_map ..
        have e2:sep.cps.toList.length=sep.length:=Array.length_toList
        rw [List.map_map,e1,e2] at hs
        have:(List.length ∘ fun x:Str=>x.cps.toList)=fun x:Str=>x.length:=by funext x; exact Array.length_toList
        rw [this] at hs
        omega
       ·have:=Rp.str (G:=G) (ι:=ι) (Hf:=Hf) (Txt.join sep ts)
        rw [show Txt.join sep ts=Str.join sep ts from StrLaws.glued_eq_join sep ts] at this ⊢
        rw [join_cps] at this
        exact w.now rel _ this
      ·exact w.elim
   | _=>exact False.elim w
theorem split3 {os:OS} {l l':List Nat} {d:D} {ds:List D}:I.pr .splitS (.str l::.str l'::d::ds) os=.stk:=by
 cases l' with
 | nil=>rfl
 | cons c r=>cases r <;> rfl
theorem v_splitS:VRm G E .splitS (fun x vs H Q=>∃ (a b:Str),x=.str a∧vs=[.str b]∧(b.length == 0)=false∧a.length+2≤sizeLine∧∀ p,H p=none→Q (.ref p) (upd H p (.lst ((Txt.split a b).map V.str)))):=by
 intro ι Hf H os x xs d ds Q rel hx hxs w
 cases hxs with
 | nil=>exact False.elim (by cases hx <;> exact w)
 | cons hy r =>
  cases r with
  | cons _ _=>exact False.elim (by cases hx <;> first | exact w | (cases hy <;> first | exact w | (rw [split3] at w; exact w)))
  | nil =>
   cases hx with
   | str a =>
    cases hy with
    | str b =>
     obtain ⟨c,rfl⟩:∃ c,b=⟨#[c]⟩:=by
      cases e:b.cps.toList with
      | nil=>rw [e] at w; exact False.elim w
      | cons c r =>
       cases r with
       | nil =>
        refine ⟨c,?_⟩
        have:b.cps = #[c]:=by rw [← Array.toArray_toList (xs:=b.cps),e]
        cases b; cases this; rfl
       | cons _ _=>rw [e] at w; exact False.elim w
     obtain ⟨hl,w⟩:=WR.gd (show WR (α:=D) G E ι Hf (R.gd (a.cps.toList.length≤1000000) (R.ok (D.lst ((I.splitC c a.cps.toList).map D.str)) os)) _ from w)
     have hl:a.length≤1000000:=by rw [Array.length_toList] at hl; exact hl
     refine ⟨a,_,rfl,rfl,rfl,by rw [sizeLine_eq]; omega,fun p hp => ?_⟩
     obtain ⟨x1,r1⟩:=rel.froze (p:=p) (o:=.lst ((Txt.split a ⟨#[c]⟩).map V.str)) hp
     refine (w.ext x1).now r1 _ ?_
     rw [← split_cps]
     refine .lst upd_same ?_ (rps_strs _)
     have:=split_le a ⟨#[c]⟩
     rw [List.length_map,sizeLine_eq]; omega
    | _=>exact False.elim w
   | _=>exact False.elim w
theorem starts_cps (a b:Str):Txt.startswith a b=b.cps.toList.isPrefixOf a.cps.toList:=by
 unfold Txt.startswith
 rw [StrLaws.subAt_eq,List.drop_zero]
 have lb:b.cps.toList.length=b.length:=Array.length_toList
 have la:a.cps.toList.length=a.length:=Array.length_toList
 rw [Bool.eq_iff_iff,Bool.and_eq_true,decide_eq_true_iff,beq_iff_eq,List.isPrefixOf_iff_prefix,List.prefix_iff_eq_take,lb]
 refine ⟨fun h=>h.2.symm,fun h=>⟨?_,h.symm⟩⟩
 have:=congrArg List.length h
 rw [List.length_take] at this
 omega
theorem v_startS:VRm G E .startS (fun x vs H Q=>∃ (a b:Str),x=.str a∧vs=[.str b]∧Q (.bl (Txt.startswith a b)) H):=by
 intro ι Hf H os x xs d ds Q rel hx hxs w
 cases hxs with
 | nil=>exact False.elim (by cases hx <;> exact w)
 | cons hy r =>
  cases r with
  | cons _ _=>exact False.elim (by cases hx <;> first | exact w | (cases hy <;> exact w))
  | nil =>
   cases hx with
   | str a =>
    cases hy with
    | str b =>
     refine ⟨a,b,rfl,rfl,?_⟩
     rw [starts_cps]
     exact WR.now (show WR (α:=D) G E ι Hf (R.ok (D.bl (b.cps.toList.isPrefixOf a.cps.toList)) os) _ from w) rel _ (.bl _)
    | _=>exact False.elim w
   | _=>exact False.elim w
theorem one_sign {b:Str} {c:Nat} (e:b.cps.toList=[c]):b=⟨#[c]⟩:=by
 have:b.cps = #[c]:=by rw [← Array.toArray_toList (xs:=b.cps),e]
 cases b; cases this; rfl
theorem v_leS:VR2 G E (.cmp .leS) (fun x y H Q=>∃ a b:Nat,x=.str ⟨#[a]⟩∧y=.str ⟨#[b]⟩∧Q (.bl (decide (a≤b))) H):=by
 intro ι Hf H os x y dx dy Q rel hx hy w
 cases hx with
 | str a =>
  cases hy with
  | str b =>
   cases e:a.cps.toList with
   | nil=>rw [e] at w; exact False.elim w
   | cons c r =>
    cases r with
    | cons _ _=>rw [e] at w; exact False.elim w
    | nil =>
     cases e':b.cps.toList with
     | nil=>rw [e,e'] at w; exact False.elim w
     | cons c' r' =>
      cases r' with
      | cons _ _=>rw [e,e'] at w; exact False.elim w
      | nil =>
       rw [e,e'] at w
       exact ⟨c,c',by rw [one_sign e],by rw [one_sign e'],WR.now (show WR (α:=D) G E ι Hf (R.ok (D.bl (decide (c≤c'))) os) _ from w) rel _ (.bl _)⟩
  | _=>exact False.elim (by revert w; generalize a.cps.toList=l; intro w; match l,w with | [],w=>exact w | [_],w=>exact w | _::_::_,w=>exact w)
 | _=>exact False.elim w
theorem v_isN:VR2 G E (.cmp .isN) (fun x y H Q=>y=.non∧Q (.bl (decide (x=.non))) H):=by
 intro ι Hf H os x y dx dy Q rel hx hy w
 cases hy with
 | non =>
  refine ⟨rfl,?_⟩
  cases hx with
  | non=>rw [decide_eq_true rfl]; exact WR.now (show WR (α:=D) G E ι Hf (R.ok (D.bl true) os) _ from w) rel _ (.bl _)
  | _=>rw [decide_eq_false fun z=>nomatch z]; exact WR.now (show WR (α:=D) G E ι Hf (R.ok (D.bl false) os) _ from w) rel _ (.bl _)
 | _=>exact False.elim (by cases hx <;> exact w)
theorem v_notN:VR2 G E (.cmp .notN) (fun x y H Q=>y=.non∧Q (.bl (!decide (x=.non))) H):=by
 intro ι Hf H os x y dx dy Q rel hx hy w
 cases hy with
 | non =>
  refine ⟨rfl,?_⟩
  cases hx with
  | non=>rw [decide_eq_true rfl]; exact WR.now (show WR (α:=D) G E ι Hf (R.ok (D.bl false) os) _ from w) rel _ (.bl _)
  | _=>rw [decide_eq_false fun z=>nomatch z]; exact WR.now (show WR (α:=D) G E ι Hf (R.ok (D.bl true) os) _ from w) rel _ (.bl _)
 | _=>exact False.elim (by cases hx <;> exact w)
theorem v_inS:VR2 G E (.cmp .inS) (fun x y H Q=>∃ (c:Nat) (b:Str),x=.str ⟨#[c]⟩∧y=.str b∧Q (.bl (decide (c∈b.cps.toList))) H):=by
 intro ι Hf H os x y dx dy Q rel hx hy w
 cases hx with
 | str a =>
  cases e:a.cps.toList with
  | nil=>rw [e] at w; exact False.elim w
  | cons c r =>
   cases r with
   | cons _ _=>rw [e] at w; exact False.elim w
   | nil =>
    rw [e] at w
    cases hy with
    | str b=>exact ⟨c,b,by rw [one_sign e],rfl,WR.now (show WR (α:=D) G E ι Hf (R.ok (D.bl (decide (c∈b.cps.toList))) os) _ from w) rel _ (.bl _)⟩
    | _=>exact False.elim w
 | _=>exact False.elim w
theorem s_orS {a b:Expr} {rest:List Expr} {pos:Pos} {ea eb:I.E} (ha:PE X a (T G E P KO ea)) (hb:PE X (.BoolOp .Or (b::rest) pos) (T G E P KO eb)):PE X (.BoolOp .Or (a::b::rest) pos) (T G E P KO (.orS ea eb)) :=
 PE.weak (pe_orS ha hb) fun σ H Q ⟨ι,Hf,ρ,os,rel,rf,w⟩=>T.use rel rf (WR.bind (k:=⟨_⟩) w) fun ι1 Hf1 H1 os1 d v x1 r1 f1 hv q=>by
  cases hv with
  | str y =>
   have q:WR (α:=D) G E ι1 Hf1 (R.gd (y.cps.toList.length≤1000000) (if y.cps.toList.isEmpty then I.ev P KO eb ρ os1 else R.ok (D.str y.cps.toList) os1)) _:=q
   obtain ⟨hz,q⟩:=WR.gd q
   have e1:y.cps.toList.length=y.length:=Array.length_toList
   rw [e1] at hz
   refine ⟨y,rfl,by rw [sizeLine_eq]; omega,?_⟩
   by_cases h0:y.length=0
   ·rw [if_pos h0]
    rw [if_pos (show y.cps.toList.isEmpty=true from List.isEmpty_iff.mpr (List.length_eq_zero_iff.mp (e1.trans h0)))] at q
    exact ⟨ι1,Hf1,ρ,os1,r1,f1,q⟩
   ·rw [if_neg h0]
    rw [if_neg (show ¬ y.cps.toList.isEmpty=true from fun z=>h0 (e1.symm.trans (List.length_eq_zero_iff.mpr (List.isEmpty_iff.mp z))))] at q
    exact q.now r1 _ (.str y)
  | _=>exact False.elim q
theorem j_chars {os:OS} (x:Str):JOk G (Itc x) ι Hf os [] (x.cps.toList.map fun c=>D.str [c]):=by
 intro i ι' Hf' H' os' x2 r2 st
 refine ⟨fun d hd => ?_,fun hn _ => ?_⟩
 ·rw [List.getElem?_map] at hd
  obtain ⟨c,hc,rfl⟩:=Option.map_eq_some_iff.mp hd
  have hc':x.cps[i]?=some c:=by rw [← hc]; simp
  have hi:=(List.getElem?_eq_some_iff.mp hc).1
  rw [Array.length_toList] at hi
  refine ⟨hi,fun v H'' y => ?_⟩
  obtain ⟨e1,c',h1,e2⟩:=y
  rw [hc'] at h1
  cases h1
  subst e1 e2
  exact ⟨Hf',.refl,r2,.str ⟨#[c]⟩⟩
 ·have:=List.getElem?_eq_none_iff.mp hn
  rw [List.length_map,Array.length_toList] at this
  exact this
theorem i_chars (h:PE X e (T G E P KO ea)):PI X tg e (TIr G E P KO (.chars ea)) :=
 PI.weak (pi_chars h) fun σ H R ⟨ι,Hf,ρ,os,rel,rf,w⟩=>T.use rel rf (WR.bind (k:=⟨_⟩) w) fun ι1 Hf1 H1 os1 d v x1 r1 f1 hv q=>by
  cases hv with
  | str x =>
   obtain ⟨⟨h1,h2⟩,q⟩:=WR.gd (show WR (α:=List D × List D) G E ι1 Hf1 (I.R.gd ((x.cps.toList.all fun c=>decide (c<128))=true∧x.cps.toList.length≤SZ) (I.R.ok ([],x.cps.toList.map fun c=>D.str [c]) os1)) _ from q)
   refine ⟨x,rfl,?_,q.now r1 _ (j_chars x)⟩
   rw [← h1,← Array.all_toList]
  | _=>exact False.elim q
end
end IS
namespace IS
open PySem PySem.Spec L2
open PyProof.Rows hiding St
open I (D Cell OS Fr R SZ Kt Ko)
structure CI where
 fn:Nat→Option (Str × Nat)
 gl:Nat→Option Str
 fl:Nat→Option Str
 ec:Nat→Option Str
 cl:Nat→Option (Str × Nat)
 mt:Nat→Option (Str × Nat)
 kt:Nat→Str→Option Bool:=fun _ _=>none
 xm:Nat→Str→Bool:=fun _ _=>false
noncomputable def visB (sc:Scope) (x:Str):Bool:=match sc.names.lookup x with
 | some .local=>true | some .cell=>true | some .free=>true | _=>false
noncomputable def gloB (sc:Scope) (x:Str):Bool:=match sc.names.lookup x with
 | some .globalImplicit=>true | _=>false
structure LC where
 c:Bool
 t:Option Nat
noncomputable abbrev lc0:LC:=⟨false,none⟩
noncomputable def asgB (lc:Bool) (sc:Scope) (x:Str):Bool:=match sc.names.lookup x with
 | some .local=>true | some .cell=>lc | _=>false
noncomputable def okN (x:Str):Bool:=!(x == ("__debug__" : Str)) && !(x == ("__classdict__" : Str))
noncomputable def noStar:Expr→Bool
 | .Starred _ _=>false
 | _=>true
noncomputable def baseOk:Expr→Bool
 | .Call _ [] _ _=>false
 | _=>true
noncomputable def notSlice:Expr→Bool
 | .Slice _ _ _ _=>false
 | _=>true
noncomputable def notSet:Expr→Bool
 | .Set _ _ _=>false
 | _=>true
noncomputable def notComp:Expr→Bool
 | .ListComp _ _ _ _=>false
 | .SetComp _ _ _ _=>false
 | .DictComp _ _ _ _ _=>false
 | _=>true
noncomputable def notTup:Expr→Bool
 | .Tuple _ _ _=>false
 | _=>true
noncomputable def plainT:Expr→Bool
 | .UnaryOp .Not _ _=>false
 | .BoolOp _ _ _=>false
 | .IfExp _ _ _ _=>false
 | .Compare _ _ _ _=>false
 | _=>true
noncomputable def isCmp:Expr→Bool
 | .Compare _ _ _ _=>true
 | _=>false
noncomputable def okT (e:Expr):Bool:=plainT e||isCmp e
noncomputable def cK:D→Const→Bool
 | .int i,.int j=>decide (i=j)
 | .bl i,.bool j=>i == j
 | .non,.none=>true
 | .str s,.str x=>decide (x.cps.toList=s)
 | _,_=>false
noncomputable def binO:I.Pr→Option Operator
 | .add=>some .Add | .sub=>some .Sub | .mul=>some .Mult | .fdiv=>some .FloorDiv | .mod=>some .Mod | .pow=>some .Pow
 | .shl=>some .LShift | .shr=>some .RShift | .band=>some .BitAnd | .bor=>some .BitOr | .bxor=>some .BitXor
 | _=>none
noncomputable def cmpO:I.Cop→Option CmpOp
 | .eq=>some .Eq | .ne=>some .NotEq | .lt=>some .Lt | .le=>some .LtE | .gt=>some .Gt | .ge=>some .GtE | .isN=>some .Is | .notN=>some .IsNot | .eqd=>some .Eq | .isB=>some .Is | .leS=>some .LtE | _=>none
noncomputable def inO:I.Cop→Option CmpOp
 | .isIn=>some .In | .notIn=>some .NotIn | .inS=>some .In | _=>none
noncomputable def cmpB (o:I.Cop) (op:CmpOp) (y:Expr):Bool:=decide (cmpO o=some op)||(notSet y&&decide (inO o=some op))
noncomputable def calO:I.Pr→Option Str
 | .len=>some "len" | .all=>some "all" | .max2=>some "max" | .toS=>some "str" | .toI=>some "int"
 | _=>none
noncomputable def metO:I.Pr→Option Str
 | .append=>some "append"
 | .joinS=>some "join" | .splitS=>some "split" | .startS=>some "startswith"
 | _=>none
noncomputable def frO:I.E→Bool
 | .lst _=>true
 | .comp _ _ _ _ _ _=>true
 | .compX _ _ _ _ _ _=>true
 | .pr .add _=>true
 | .pr (.sl _ _) _=>true
 | _=>false
noncomputable def isAsI:I.E→Bool
 | .asI _=>true
 | _=>false
noncomputable def tgN:Expr→List Str
 | .Name x _=>[x]
 | .Tuple es _ _=>es.filterMap fun e=>match e with | .Name x _=>some x | _=>none
 | _=>[]
noncomputable def chkTs (lc:Bool) (sc:Scope) (N:List Str):List Nat→List Expr→Bool
 | [],[]=>true
 | i::is,.Name x _::es=>decide (N[i]?=some x)&&asgB lc sc x&&chkTs lc sc N is es
 | _,_=>false
noncomputable def chkT (lc:Bool) (sc:Scope) (N:List Str):I.Tg→Expr→Bool
 | .v i,.Name x _=>decide (N[i]?=some x)&&asgB lc sc x
 | .tup is,.Tuple es _ _=>chkTs lc sc N is es
 | _,_=>false
noncomputable def compB (sc:Scope) (N:List Str) (scope:Scope) (N':List Str) (nl:Nat) (fr:List Nat):Bool :=
 decide (scope.kind=.function)&&scope.names.all (fun y=>decide (y.2≠.cell)) &&
 scope.names.all (fun y => !decide (y.2=.local)||decide (scope.names.lookup y.1=some .local)) &&
 scope.names.all (fun y => !decide (y.2=.free)||(decide (sc.names.lookup y.1=some .cell)||decide (sc.names.lookup y.1=some .free))) &&
 decide (N'.length=nl+fr.length)&&decide ((N'.drop nl).map some=fr.map fun j=>N[j]?) &&
 (N'.drop nl).all (fun x=>decide (scope.names.lookup x=some .free))&&decide N'.Nodup
theorem no {p:Prop} (h:false=true):p:=nomatch h
theorem and2 {a b:Bool} (h:(a&&b)=true):a=true∧b=true:=Bool.and_eq_true_iff.mp h
theorem or2 {a b:Bool} (h:(a||b)=true):a=true∨b=true:=Bool.or_eq_true_iff.mp h
noncomputable def onName (e:Expr) (p:Str→Bool):Bool:=match e with | .Name x _=>p x | _=>false
theorem onName_of {e:Expr} {p:Str→Bool} (h:onName e p=true):∃ x np,e=.Name x np∧p x=true:=by
 cases e <;> first | exact no h | exact ⟨_,_,rfl,h⟩
noncomputable def onK (e:Expr) (p:Const→Bool):Bool:=match e with | .Constant c _ _=>p c | _=>false
theorem onK_of {e:Expr} {p:Const→Bool} (h:onK e p=true):∃ c j pos,e=.Constant c j pos∧p c=true:=by
 cases e <;> first | exact no h | exact ⟨_,_,_,rfl,h⟩
noncomputable def onBin (e:Expr) (p:Expr→Operator→Expr→Bool):Bool:=match e with | .BinOp x op y _=>p x op y | _=>false
theorem onBin_of {e:Expr} {p:Expr→Operator→Expr→Bool} (h:onBin e p=true):∃ x op y pos,e=.BinOp x op y pos∧p x op y=true:=by
 cases e <;> first | exact no h | exact ⟨_,_,_,_,rfl,h⟩
noncomputable def onUn (e:Expr) (p:UnaryOp→Expr→Bool):Bool:=match e with | .UnaryOp op x _=>p op x | _=>false
theorem onUn_of {e:Expr} {p:UnaryOp→Expr→Bool} (h:onUn e p=true):∃ op x pos,e=.UnaryOp op x pos∧p op x=true:=by
 cases e <;> first | exact no h | exact ⟨_,_,_,rfl,h⟩
noncomputable def onNot (op:UnaryOp) (b:Bool):Bool:=match op with | .Not=>b | _=>false
theorem onNot_of {op:UnaryOp} {b:Bool} (h:onNot op b=true):op=.Not∧b=true:=by
 cases op <;> first | exact no h | exact ⟨rfl,h⟩
noncomputable def onUSub (op:UnaryOp) (b:Bool):Bool:=match op with | .USub=>b | _=>false
theorem onUSub_of {op:UnaryOp} {b:Bool} (h:onUSub op b=true):op=.USub∧b=true:=by
 cases op <;> first | exact no h | exact ⟨rfl,h⟩
noncomputable def onAnd (op:BoolOp) (b:Bool):Bool:=match op with | .And=>b | _=>false
theorem onAnd_of {op:BoolOp} {b:Bool} (h:onAnd op b=true):op=.And∧b=true:=by
 cases op <;> first | exact no h | exact ⟨rfl,h⟩
noncomputable def onOr (op:BoolOp) (b:Bool):Bool:=match op with | .Or=>b | _=>false
theorem onOr_of {op:BoolOp} {b:Bool} (h:onOr op b=true):op=.Or∧b=true:=by
 cases op <;> first | exact no h | exact ⟨rfl,h⟩
noncomputable def onBool (e:Expr) (p:BoolOp→Expr→Expr→List Expr→Pos→Bool):Bool:=match e with | .BoolOp op (x::y::r) pos=>p op x y r pos | _=>false
theorem onBool_of {e:Expr} {p:BoolOp→Expr→Expr→List Expr→Pos→Bool} (h:onBool e p=true):∃ op x y r pos,e=.BoolOp op (x::y::r) pos∧p op x y r pos=true:=by
 cases e with
 | BoolOp op xs pos=>match xs,h with
  | [],h=>exact no h
  | [_],h=>exact no h
  | x::y::r,h=>exact ⟨_,_,_,_,_,rfl,h⟩
 | _=>exact no h
noncomputable def behind (op:BoolOp) (y:Expr) (r:List Expr) (pos:Pos):Expr:=match r with | []=>y | _::_=>.BoolOp op (y::r) pos
noncomputable def onIf (e:Expr) (p:Expr→Expr→Expr→Bool):Bool:=match e with | .IfExp c a b _=>p c a b | _=>false
theorem onIf_of {e:Expr} {p:Expr→Expr→Expr→Bool} (h:onIf e p=true):∃ c a b pos,e=.IfExp c a b pos∧p c a b=true:=by
 cases e <;> first | exact no h | exact ⟨_,_,_,_,rfl,h⟩
noncomputable def onCmp (e:Expr) (p:Expr→List CmpOp→List Expr→Bool):Bool:=match e with | .Compare x ops ys _=>p x ops ys | _=>false
theorem onCmp_of {e:Expr} {p:Expr→List CmpOp→List Expr→Bool} (h:onCmp e p=true):∃ x ops ys pos,e=.Compare x ops ys pos∧p x ops ys=true:=by
 cases e <;> first | exact no h | exact ⟨_,_,_,_,rfl,h⟩
noncomputable def onCall (e:Expr) (p:Expr→List Expr→List Keyword→Pos→Bool):Bool:=match e with | .Call f as ks pos=>p f as ks pos | _=>false
theorem onCall_of {e:Expr} {p:Expr→List Expr→List Keyword→Pos→Bool} (h:onCall e p=true):∃ f as ks pos,e=.Call f as ks pos∧p f as ks pos=true:=by
 cases e <;> first | exact no h | exact ⟨_,_,_,_,rfl,h⟩
noncomputable def onAttr (e:Expr) (p:Expr→Str→Pos→Bool):Bool:=match e with | .Attribute o m pos=>p o m pos | _=>false
theorem onAttr_of {e:Expr} {p:Expr→Str→Pos→Bool} (h:onAttr e p=true):∃ o m pos,e=.Attribute o m pos∧p o m pos=true:=by
 cases e <;> first | exact no h | exact ⟨_,_,_,rfl,h⟩
noncomputable def onTup (e:Expr) (p:List Expr→Bool):Bool:=match e with | .Tuple es _ _=>p es | _=>false
theorem onTup_of {e:Expr} {p:List Expr→Bool} (h:onTup e p=true):∃ es j pos,e=.Tuple es j pos∧p es=true:=by
 cases e <;> first | exact no h | exact ⟨_,_,_,rfl,h⟩
noncomputable def onLst (e:Expr) (p:List Expr→Bool):Bool:=match e with | .List es _=>p es | _=>false
theorem onLst_of {e:Expr} {p:List Expr→Bool} (h:onLst e p=true):∃ es pos,e=.List es pos∧p es=true:=by
 cases e <;> first | exact no h | exact ⟨_,_,rfl,h⟩
noncomputable def onComp (e:Expr) (p:Expr→List Comprehension→Scope→Bool):Bool:=match e with | .ListComp el gs sc _=>p el gs sc | _=>false
theorem onComp_of {e:Expr} {p:Expr→List Comprehension→Scope→Bool} (h:onComp e p=true):∃ el gs sc pos,e=.ListComp el gs sc pos∧p el gs sc=true:=by
 cases e <;> first | exact no h | exact ⟨_,_,_,_,rfl,h⟩
noncomputable def onSub (e:Expr) (p:Expr→Expr→Bool):Bool:=match e with | .Subscript x i _=>p x i | _=>false
theorem onSub_of {e:Expr} {p:Expr→Expr→Bool} (h:onSub e p=true):∃ x i pos,e=.Subscript x i pos∧p x i=true:=by
 cases e <;> first | exact no h | exact ⟨_,_,_,rfl,h⟩
noncomputable def onSli (e:Expr) (p:Option Expr→Option Expr→Bool):Bool:=match e with | .Slice l u none _=>p l u | _=>false
theorem onSli_of {e:Expr} {p:Option Expr→Option Expr→Bool} (h:onSli e p=true):∃ l u pos,e=.Slice l u none pos∧p l u=true:=by
 cases e with
 | Slice l u s pos=>cases s with
  | none=>exact ⟨_,_,_,rfl,h⟩
  | some _=>exact no h
 | _=>exact no h
noncomputable def on0 {α:Type} (l:List α) (b:Bool):Bool:=match l with | []=>b | _=>false
theorem on0_of {α:Type} {l:List α} {b:Bool} (h:on0 l b=true):l=[]∧b=true:=by
 cases l <;> first | exact no h | exact ⟨rfl,h⟩
noncomputable def on1 {α:Type} (l:List α) (p:α→Bool):Bool:=match l with | [a]=>p a | _=>false
theorem on1_of {α:Type} {l:List α} {p:α→Bool} (h:on1 l p=true):∃ a,l=[a]∧p a=true:=by
 match l,h with
 | [],h=>exact no h
 | [a],h=>exact ⟨a,rfl,h⟩
 | _::_::_,h=>exact no h
noncomputable def on2 {α:Type} (l:List α) (p:α→α→Bool):Bool:=match l with | [a,b]=>p a b | _=>false
theorem on2_of {α:Type} {l:List α} {p:α→α→Bool} (h:on2 l p=true):∃ a b,l=[a,b]∧p a b=true:=by
 match l,h with
 | [],h=>exact no h
 | [_],h=>exact no h
 | [a,b],h=>exact ⟨a,b,rfl,h⟩
 | _::_::_::_,h=>exact no h
noncomputable def on3 {α:Type} (l:List α) (p:α→α→α→Bool):Bool:=match l with | [a,b,c]=>p a b c | _=>false
theorem on3_of {α:Type} {l:List α} {p:α→α→α→Bool} (h:on3 l p=true):∃ a b c,l=[a,b,c]∧p a b c=true:=by
 match l,h with
 | [],h=>exact no h
 | [_],h=>exact no h
 | [_,_],h=>exact no h
 | [a,b,c],h=>exact ⟨a,b,c,rfl,h⟩
 | _::_::_::_::_,h=>exact no h
noncomputable def onS {α:Type} (o:Option α) (p:α→Bool):Bool:=match o with | some a=>p a | none=>false
theorem onS_of {α:Type} {o:Option α} {p:α→Bool} (h:onS o p=true):∃ a,o=some a∧p a=true:=by
 cases o <;> first | exact no h | exact ⟨_,rfl,h⟩
noncomputable def onN {α:Type} (o:Option α) (b:Bool):Bool:=match o with | none=>b | some _=>false
theorem onN_of {α:Type} {o:Option α} {b:Bool} (h:onN o b=true):o=none∧b=true:=by
 cases o <;> first | exact no h | exact ⟨rfl,h⟩
noncomputable def onNC (e:Expr) (p:Str→List Expr→Bool):Bool:=onCall e fun f as ks _=>onName f fun x=>on0 ks (p x as)
theorem onNC_of {e:Expr} {p:Str→List Expr→Bool} (h:onNC e p=true):∃ x np as pos,e=.Call (.Name x np) as [] pos∧p x as=true:=by
 obtain ⟨f,as,ks,pos,rfl,h⟩:=onCall_of h
 obtain ⟨x,np,rfl,h⟩:=onName_of h
 obtain ⟨rfl,h⟩:=on0_of h
 exact ⟨_,_,_,_,rfl,h⟩
noncomputable def onMC (e:Expr) (p:Expr→Str→List Expr→Pos→Pos→Bool):Bool:=onCall e fun f as ks cp=>onAttr f fun o m ap=>on0 ks (p o m as ap cp)
theorem onMC_of {e:Expr} {p:Expr→Str→List Expr→Pos→Pos→Bool} (h:onMC e p=true):∃ o m as ap cp,e=.Call (.Attribute o m ap) as [] cp∧p o m as ap cp=true:=by
 obtain ⟨f,as,ks,pos,rfl,h⟩:=onCall_of h
 obtain ⟨o,m,np,rfl,h⟩:=onAttr_of h
 obtain ⟨rfl,h⟩:=on0_of h
 exact ⟨_,_,_,_,_,rfl,h⟩
noncomputable def onNeg (p:I.Pr) (b:Bool):Bool:=match p with | .neg=>b | _=>false
theorem onNeg_of {p:I.Pr} {b:Bool} (h:onNeg p b=true):p=.neg∧b=true:=by
 cases p <;> first | exact no h | exact ⟨rfl,h⟩
noncomputable def onIx (p:I.Pr) (b:Bool):Bool:=match p with | .ix=>b | _=>false
theorem onIx_of {p:I.Pr} {b:Bool} (h:onIx p b=true):p=.ix∧b=true:=by
 cases p <;> first | exact no h | exact ⟨rfl,h⟩
noncomputable def onSl (p:I.Pr) (q:Bool→Bool→Bool):Bool:=match p with | .sl a b=>q a b | _=>false
theorem onSl_of {p:I.Pr} {q:Bool→Bool→Bool} (h:onSl p q=true):∃ a b,p=.sl a b∧q a b=true:=by
 cases p <;> first | exact no h | exact ⟨_,_,rfl,h⟩
noncomputable def onCo (p:I.Pr) (q:I.Cop→Bool):Bool:=match p with | .cmp o=>q o | _=>false
theorem onCo_of {p:I.Pr} {q:I.Cop→Bool} (h:onCo p q=true):∃ o,p=.cmp o∧q o=true:=by
 cases p <;> first | exact no h | exact ⟨_,rfl,h⟩
noncomputable def onInst (p:I.Pr) (q:I.Ty→Bool):Bool:=match p with | .isInst t=>q t | _=>false
theorem onInst_of {p:I.Pr} {q:I.Ty→Bool} (h:onInst p q=true):∃ t,p=.isInst t∧q t=true:=by
 cases p <;> first | exact no h | exact ⟨_,rfl,h⟩
noncomputable def onCons {α:Type} (l:List α) (p:α→List α→Bool):Bool:=match l with | a::r=>p a r | []=>false
theorem onCons_of {α:Type} {l:List α} {p:α→List α→Bool} (h:onCons l p=true):∃ a r,l=a::r∧p a r=true:=by
 cases l <;> first | exact no h | exact ⟨_,_,rfl,h⟩
noncomputable def onNameP (e:Expr) (p:Str→Pos→Bool):Bool:=match e with | .Name x np=>p x np | _=>false
theorem onNameP_of {e:Expr} {p:Str→Pos→Bool} (h:onNameP e p=true):∃ x np,e=.Name x np∧p x np=true:=by
 cases e <;> first | exact no h | exact ⟨_,_,rfl,h⟩
section
variable (cx:CI) (lc:LC) (sc:Scope) (N:List Str)
noncomputable abbrev CE:=Expr→Bool
noncomputable abbrev CA:=List Expr→Bool
noncomputable def kV (i:Nat) (e:Expr):Bool:=onName e fun x=>decide (N[i]?=some x)&&visB sc x&&okN x
noncomputable def kG (i:Nat) (e:Expr):Bool:=onName e fun x=>decide (cx.gl i=some x)&&gloB sc x&&okN x
noncomputable def kBm (p:I.Pr) (co:CE) (ca:CA) (e:Expr):Bool:=onMC e fun o m as ap cp=>decide (metO p=some m)&&co o&&ca as&&baseOk o&&(ap.endLine == cp.line)&&decide (as.length<20)
noncomputable def kCl (f n:Nat) (ca:CA) (e:Expr):Bool:=onNC e fun x as=>decide (cx.fn f=some (x,n))&&gloB sc x&&okN x && !as.isEmpty&&ca as
noncomputable def kAnd (a b:CE) (e:Expr):Bool:=onBool e fun op x y r pos=>onAnd op (a x&&b (behind .And y r pos))
noncomputable def kOr (a b:CE) (e:Expr):Bool:=onBool e fun op x y r pos=>onOr op (a x&&b (behind .Or y r pos))
noncomputable def kNot (a:CE) (e:Expr):Bool:=onUn e fun op x=>onNot op (a x)
noncomputable def kIf (c a b:CE) (e:Expr):Bool:=onIf e fun x y z=>c x&&a y&&b z
noncomputable def kC2 (o1 o2:I.Cop) (a b c:CE) (e:Expr):Bool:=onCmp e fun x ops ys=>on2 ops fun p1 p2=>on2 ys fun y z=>decide (cmpO o1=some p1)&&decide (cmpO o2=some p2)&&a x&&b y&&c z
noncomputable def kC3 (o1 o2 o3:I.Cop) (a b c d:CE) (e:Expr):Bool:=onCmp e fun x ops ys=>on3 ops fun p1 p2 p3=>on3 ys fun y z u=>decide (cmpO o1=some p1)&&decide (cmpO o2=some p2)&&decide (cmpO o3=some p3)&&a x&&b y&&c z&&d u
noncomputable def kLs (n:Nat) (ca:CA) (e:Expr):Bool:=onLst e fun xs=>ca xs&&decide (n≤1000)
noncomputable def cN (tg:Expr) (fr:List Nat):List Str:=tgN tg++fr.filterMap (N[·]?)
noncomputable def kCm (nl:Nat) (fr:List Nat) (t:I.Tg) (ci:Expr→CE) (cc:Scope→List Str→CA) (ce:Scope→List Str→CE) (e:Expr):Bool:=onComp e fun elt gs scope=>on1 gs fun g =>
 decide (g.is_async=0)&&compB sc N scope (cN N g.target fr) nl fr&&tgLow nl t&&notSet g.iter&&ci g.target g.iter&&chkT false scope (cN N g.target fr) t g.target&&cc scope (cN N g.target fr) g.ifs&&ce scope (cN N g.target fr) elt
noncomputable def kNg (p:I.Pr) (a:CE) (e:Expr):Bool:=onUn e fun op x=>onUSub op (onNeg p (a x))
noncomputable def kS0 (p:I.Pr) (a:CE) (e:Expr):Bool:=onSub e fun x i=>onSli i fun l u=>onN l (onN u (onSl p fun b1 b2 => !b1 && !b2&&a x))
noncomputable def kB1 (p:I.Pr) (a:CE) (e:Expr):Bool:=onNC e fun x as=>on1 as fun y=>decide (calO p=some x)&&gloB sc x&&okN x&&noStar y&&a y
noncomputable def kIn (p:I.Pr) (a:CE) (e:Expr):Bool:=onNC e fun x as=>on2 as fun y t=>onName t fun t=>onInst p fun ty=>decide (x = "isinstance")&&gloB sc x&&decide (t=Str.ofString (tyN ty))&&gloB sc t&&noStar y&&a y
noncomputable def kBi (p:I.Pr) (a b:CE) (e:Expr):Bool:=onBin e fun x op y=>decide (binO p=some op)&&a x&&b y
noncomputable def kC1 (p:I.Pr) (a b:CE) (e:Expr):Bool:=onCmp e fun x ops ys=>on1 ops fun op=>on1 ys fun y=>onCo p fun o=>cmpB o op y&&a x&&b y
noncomputable def kSl (p:I.Pr) (a b:CE) (e:Expr):Bool:=onSub e fun x i=>onSli i fun l u=>onS l fun l=>onN u (onSl p fun b1 b2=>b1 && !b2&&a x&&b l)
noncomputable def kSu (p:I.Pr) (a b:CE) (e:Expr):Bool:=onSub e fun x i=>onSli i fun l u=>onN l (onS u fun u=>onSl p fun b1 b2 => !b1&&b2&&a x&&b u)
noncomputable def kIx (p:I.Pr) (a b:CE) (e:Expr):Bool:=onSub e fun x i=>onIx p (notSlice i&&a x&&b i)
noncomputable def kB2 (p:I.Pr) (a b:CE) (e:Expr):Bool:=onNC e fun x as=>on2 as fun y z=>decide (calO p=some x)&&gloB sc x&&okN x&&noStar y&&noStar z&&a y&&b z
noncomputable def kSb (p:I.Pr) (i:Bool) (a b c:CE) (e:Expr):Bool:=onSub e fun x j=>onSli j fun l u=>onS l fun l=>onS u fun u=>onSl p fun b1 b2=>b1&&b2&&i&&a x&&b l&&c u
noncomputable def kEs (a:CE) (as:CA) (es:List Expr):Bool:=onCons es fun e r=>noStar e&&a e&&as r
noncomputable def kRn (n:Nat) (ca:CA) (e:Expr):Bool:=onNC e fun x as=>decide (x = "range")&&gloB sc x&&decide (0<n)&&decide (n≤3)&&ca as
end
noncomputable def wrap:I.E→Bool
 | .cell _=>true
 | .fz _=>true
 | .asI _=>true
 | _=>false
mutual
noncomputable def chkE (cx:CI) (lc:LC) (sc:Scope) (N:List Str):I.E→Expr→Bool
 | .v i,e=>kV sc N i e
 | .c d,e=>onK e fun c=>cK d c
 | .g i,e=>kG cx sc i e
 | .pr p es,e=>chkP cx lc sc N p es e
 | .bm p o es,e=>kBm p (chkE cx lc sc N o) (chkEs cx lc sc N es) e
 | .call f es,e=>kCl cx sc f (esLen es) (chkEs cx lc sc N es) e
 | .callP f es,e=>kCl cx sc f (esLen es) (chkEs cx lc sc N es) e
 | .and a b,e=>kAnd (chkE cx lc sc N a) (chkE cx lc sc N b) e
 | .or a b,e=>kOr (chkE cx lc sc N a) (chkE cx lc sc N b) e
 | .not a,e=>kNot (chkE cx lc sc N a) e
 | .ite c a b,e=>kIf (chkC cx lc sc N c) (chkE cx lc sc N a) (chkE cx lc sc N b) e
 | .chain o1 o2 a b c,e=>kC2 o1 o2 (chkE cx lc sc N a) (chkE cx lc sc N b) (chkE cx lc sc N c) e
 | .chain3 o1 o2 o3 a b c d,e=>kC3 o1 o2 o3 (chkE cx lc sc N a) (chkE cx lc sc N b) (chkE cx lc sc N c) (chkE cx lc sc N d) e
 | .mk c es,e=>false
 | .meth m o es,e=>false
 | .methP m o es,e=>false
 | .fld o f,e=>false
 | .tup es,e=>false
 | .lst es,e=>kLs (esLen es) (chkEs cx lc sc N es) e
 | .cell a,e=>frO a&&chkE cx lc sc N a e
 | .dict _,e=>false
 | .fz a,e=>chkE cx lc sc N a e
 | .asI a,e=>chkE cx lc sc N a e
 | .comp nl fr t it cd el,e=>kCm sc N nl fr t (fun tg i=>chkI cx lc sc N tg it i) (fun s n es=>chkCo cx s n cd es) (fun s n x=>chkE cx lc0 s n el x) e
 | .compX nl fr t it cd el,e=>lc.c&&kCm sc N nl fr t (fun tg i=>chkI cx lc sc N tg it i) (fun s n es=>chkCo cx s n cd es) (fun s n x=>chkE cx lc0 s n el x) e
 | .orS a b,e=>kOr (chkE cx lc sc N a) (chkE cx lc sc N b) e
 | .sortK _ _,_=>false
noncomputable def chkP (cx:CI) (lc:LC) (sc:Scope) (N:List Str) (p:I.Pr):I.Es→Expr→Bool
 | .cons a .nil,e=>kNg p (chkE cx lc sc N a) e||(kS0 p (chkE cx lc sc N a) e||(kB1 sc p (chkE cx lc sc N a) e||kIn sc p (chkE cx lc sc N a) e))
 | .cons a (.cons b .nil),e=>kBi p (chkE cx lc sc N a) (chkE cx lc sc N b) e||(kC1 p (chkE cx lc sc N a) (chkE cx lc sc N b) e||(kSl p (chkE cx lc sc N a) (chkE cx lc sc N b) e||(kSu p (chkE cx lc sc N a) (chkE cx lc sc N b) e ||
   (kIx p (chkE cx lc sc N a) (chkE cx lc sc N b) e||kB2 sc p (chkE cx lc sc N a) (chkE cx lc sc N b) e))))
 | .cons a (.cons b (.cons c .nil)),e=>kSb p (isAsI b) (chkE cx lc sc N a) (chkE cx lc sc N b) (chkE cx lc sc N c) e
 | _,_=>false
noncomputable def chkEs (cx:CI) (lc:LC) (sc:Scope) (N:List Str):I.Es→List Expr→Bool
 | .nil,es=>on0 es true
 | .cons a as,es=>kEs (chkE cx lc sc N a) (chkEs cx lc sc N as) es
noncomputable def chkC (cx:CI) (lc:LC) (sc:Scope) (N:List Str):I.C→Expr→Bool
 | .e a,e=>okT e && !wrap a&&chkE cx lc sc N a e
 | .and a b,e=>kAnd (chkC cx lc sc N a) (chkC cx lc sc N b) e
 | .or a b,e=>kOr (chkC cx lc sc N a) (chkC cx lc sc N b) e
 | .not a,e=>kNot (chkC cx lc sc N a) e
 | .tt,_=>false
noncomputable def chkCo (cx:CI) (sc:Scope) (N:List Str):I.C→List Expr→Bool
 | .tt,es=>on0 es true
 | .e a,es=>on1 es fun e=>okT e && !wrap a&&chkE cx lc0 sc N a e
 | .and a b,es=>on1 es fun e=>kAnd (chkC cx lc0 sc N a) (chkC cx lc0 sc N b) e
 | .or a b,es=>on1 es fun e=>kOr (chkC cx lc0 sc N a) (chkC cx lc0 sc N b) e
 | .not a,es=>on1 es fun e=>kNot (chkC cx lc0 sc N a) e
noncomputable def chkI (cx:CI) (lc:LC) (sc:Scope) (N:List Str) (tg:Expr):I.It→Expr→Bool
 | .seq a,e=>chkE cx lc sc N a e
 | .rng es,e=>kRn sc (esLen es) (chkEs cx lc sc N es) e
 | .enum s a,e=>false
 | .zrev a b,e=>false
 | .zip _ _,_=>false
 | .rev a,e=>false
 | .chars a,e=>chkE cx lc sc N a e
end
noncomputable def swapB (sc:Scope) (x:Str) (xl:Nat) (scope:Scope) (vl:Nat):Bool :=
 decide (sc.names.lookup x=some .local)&&decide (xl=vl) && !(scope.names.any fun p=>p.1 == x&&(p.2 == .local||p.2 == .cell))
noncomputable def compish:I.E→Bool
 | .comp _ _ _ _ _ _=>true
 | .cell (.comp _ _ _ _ _ _)=>true
 | _=>false
noncomputable def setOk (sc:Scope) (x:Str) (xl:Nat) (a:I.E):Expr→Bool
 | .ListComp _ _ scope vp=>compish a || !swapB sc x xl scope vp.line
 | .SetComp _ _ _ _=>false
 | .DictComp _ _ _ _ _=>false
 | _=>true
noncomputable def onAs (s:Stmt) (p:Expr→Expr→Bool):Bool:=match s with | .Assign [t] e _=>p t e | _=>false
theorem onAs_of {s:Stmt} {p:Expr→Expr→Bool} (h:onAs s p=true):∃ t e pos,s=.Assign [t] e pos∧p t e=true:=by
 cases s with
 | Assign ts e pos=>match ts,h with
  | [],h=>exact no h
  | [t],h=>exact ⟨_,_,_,rfl,h⟩
  | _::_::_,h=>exact no h
 | _=>exact no h
noncomputable def onEx (s:Stmt) (p:Expr→Bool):Bool:=match s with | .Expr e _=>p e | _=>false
theorem onEx_of {s:Stmt} {p:Expr→Bool} (h:onEx s p=true):∃ e pos,s=.Expr e pos∧p e=true:=by
 cases s <;> first | exact no h | exact ⟨_,_,rfl,h⟩
noncomputable def onRet (s:Stmt) (p:Option Expr→Bool):Bool:=match s with | .Return e _=>p e | _=>false
theorem onRet_of {s:Stmt} {p:Option Expr→Bool} (h:onRet s p=true):∃ e pos,s=.Return e pos∧p e=true:=by
 cases s <;> first | exact no h | exact ⟨_,_,rfl,h⟩
noncomputable def onIfS (s:Stmt) (p:Expr→List Stmt→List Stmt→Bool):Bool:=match s with | .If t x y _=>p t x y | _=>false
theorem onIfS_of {s:Stmt} {p:Expr→List Stmt→List Stmt→Bool} (h:onIfS s p=true):∃ t x y pos,s=.If t x y pos∧p t x y=true:=by
 cases s <;> first | exact no h | exact ⟨_,_,_,_,rfl,h⟩
noncomputable def onFor (s:Stmt) (p:Expr→Expr→List Stmt→List Stmt→Bool):Bool:=match s with | .For t i x y _=>p t i x y | _=>false
theorem onFor_of {s:Stmt} {p:Expr→Expr→List Stmt→List Stmt→Bool} (h:onFor s p=true):∃ t i x y pos,s=.For t i x y pos∧p t i x y=true:=by
 cases s <;> first | exact no h | exact ⟨_,_,_,_,_,rfl,h⟩
noncomputable def onRaise (s:Stmt) (p:Expr→Bool):Bool:=match s with | .Raise (some e) none _=>p e | _=>false
theorem onRaise_of {s:Stmt} {p:Expr→Bool} (h:onRaise s p=true):∃ e pos,s=.Raise (some e) none pos∧p e=true:=by
 cases s with
 | Raise e f pos=>match e,f,h with
  | none,_,h=>exact no h
  | some _,none,h=>exact ⟨_,_,rfl,h⟩
  | some _,some _,h=>exact no h
 | _=>exact no h
section
variable (cx:CI) (sc:Scope) (N:List Str)
noncomputable def kSet (i:Nat) (a:I.E) (ca:CE) (s:Stmt):Bool:=onAs s fun t e=>onNameP t fun x xp=>decide (N[i]?=some x)&&asgB true sc x&&setOk sc x xp.line a e&&ca e
noncomputable def kSix (co ci ca:CE) (s:Stmt):Bool:=onAs s fun t e=>onSub t fun x y=>notSlice y&&notComp e&&co x&&ci y&&ca e
noncomputable def kRa (c n:Nat) (ca:CA) (s:Stmt):Bool:=onRaise s fun e=>onNC e fun x as=>decide (cx.ec c=some x)&&gloB sc x&&okN x && !as.isEmpty&&decide (n≤1000)&&ca as
noncomputable def kFr (t:I.Tg) (ci:Expr→CE) (cb:List Stmt→Bool) (s:Stmt):Bool:=onFor s fun tg iter body els=>on0 els (notSet iter&&chkT true sc N t tg&&ci tg iter&&cb body)
end
noncomputable def onTry (s:Stmt) (p:Stmt→Str→Str→List Stmt→Bool):Bool:=match s with | .Try [b] [.ExceptHandler (some (.Name x _)) (some n) (b0::su) _] [] [] _=>p b x n (b0::su) | _=>false
noncomputable def onBo (e:Expr) (p:BoolOp→List Expr→Pos→Bool):Bool:=match e with | .BoolOp op es pos=>p op es pos | _=>false
noncomputable def isAnd:BoolOp→Bool | .And=>true | _=>false
noncomputable def tnm:List Expr→Option (List (Str × Pos))
 | []=>some []
 | .Name x p::r=>(tnm r).map ((x,p) :: ·)
 | _::_=>none
section
variable (kt:Str→Option Bool) (sc:Scope) (N:List Str) (n:Str)
noncomputable def kIs (b:Bool) (t:Expr):Bool:=(onName t fun x=>(decide (x = "ValueError")&&b&&gloB sc x)||(decide (kt x=some b)&&gloB sc x&&okN x)) ||
 onTup t fun ts=>onS (tnm ts) fun l=>decide (l.length≤1000)&&(l.all fun t=>(kt t.1).isSome&&gloB sc t.1&&okN t.1)&&decide ((l.any fun t=>(kt t.1).getD false)=b)
noncomputable def chkHE (κ:List (Nat × Bool)):I.HE→Expr→Bool
 | .inst b,e=>onCall e fun f as kws _=>onName f fun g=>on0 kws (decide (g = "isinstance")&&gloB sc g&&on2 as fun a t=>onName a fun m=>decide (m=n)&&kIs kt sc b t)
 | .v j b,e=>onName e fun x=>decide (N[j]?=some x)&&visB sc x&&okN x&&decide (κ.lookup j=some b)
 | .k b,e=>onK e fun c=>decide (c=.bool b)
 | .not a,e=>onUn e fun op x=>onNot op (chkHE κ a x)
 | .one a,e=>onBo e fun _ es _=>on1 es fun x=>chkHE κ a x
 | .and a b,e=>onBo e fun op es pos=>isAnd op&&onCons es fun x r=>onCons r fun y z=>chkHE κ a x&&chkHE κ b (.BoolOp .And (y::z) pos)
 | .or a b,e=>onBo e fun op es pos => !isAnd op&&onCons es fun x r=>onCons r fun y z=>chkHE κ a x&&chkHE κ b (.BoolOp .Or (y::z) pos)
noncomputable def chkHN (κ:List (Nat × Bool)):I.HE→Expr→Bool
 | .not a,e=>onUn e fun op x=>onNot op (plainT x&&chkHE kt sc N n κ a x)
 | a,e=>plainT e&&chkHE kt sc N n κ a e
noncomputable def chkHW (κ:List (Nat × Bool)):I.HE→Expr→Bool
 | .one a,e=>onBo e fun op es _ => !isAnd op&&on1 es fun x=>chkHN kt sc N n κ a x
 | .or a b,e=>onBo e fun op es pos => !isAnd op&&onCons es fun x r=>onCons r fun y z=>chkHN kt sc N n κ a x&&chkHW κ b (.BoolOp .Or (y::z) pos)
 | _,_=>false
noncomputable def chkHS (i:Nat):List (Nat × Bool)→List I.HS→List Stmt→Bool
 | _,[],ss=>on0 ss true
 | κ,.set j e::hr,ss=>onCons ss fun s r=>(onAs s fun t x=>onName t fun y=>decide (N[j]?=some y)&&asgB true sc y&&notComp x&&decide (j≠i)&&chkHE kt sc N n κ e x)&&chkHS i ((j,e.val)::κ) hr r
 | κ,.skip t::hr,ss=>onCons ss fun s r=>(onIfS s fun e _ els=>on0 els (!t.val&&(chkHN kt sc N n κ t e||chkHW kt sc N n κ t e)))&&chkHS i κ hr r
 | κ,.ret e::_,ss=>onCons ss fun s _=>onRet s fun x=>onS x fun x=>chkHE kt sc N n κ e x
end
noncomputable def kTryA (cx:CI) (sc:Scope) (N:List Str) (j f m i:Nat) (hs:List (Nat × List I.HS)) (ca:CA) (s:Stmt):Bool:=onTry s fun b x n su=>onAs b fun tg e=>onName tg fun y=>onNC e fun g as =>
 (decide (cx.fn f=some (g,m))&&(decide (N[j]?=some y)&&asgB true sc y&&decide (j≠i)))&&gloB sc g&&okN g && !as.isEmpty&&as.all noStar&&ca as&&gloB sc x&&okN x&&decide (N[i]?=some n)&&decide (sc.names.lookup n=some .local)&&okN n&&gloB sc "isinstance" &&
 (hs.all fun h=>cx.xm h.1 x&&chkHS (cx.kt h.1) sc N n i [] h.2 su) && !hs.isEmpty
mutual
noncomputable def chkS (cx:CI) (tb:Option Nat) (sc:Scope) (N:List Str):I.S→Stmt→Bool
 | .set i a,s=>kSet sc N i a (chkE cx ⟨true,tb⟩ sc N a) s
 | .tset is a,s=>false
 | .setix o i a,s=>kSix (chkE cx ⟨true,tb⟩ sc N o) (chkE cx ⟨true,tb⟩ sc N i) (chkE cx ⟨true,tb⟩ sc N a) s
 | .setfld o f a,s=>false
 | .augfld o f p a,s=>false
 | .aug i p a,s=>false
 | .ex a,s=>onEx s fun e=>notComp e&&chkE cx ⟨true,tb⟩ sc N a e
 | .ret a,s=>onRet s fun e=>onS e fun e=>chkE cx ⟨true,tb⟩ sc N a e
 | .retN,s=>false
 | .ite c a b,s=>onIfS s fun t x y=>chkC cx ⟨true,tb⟩ sc N c t&&chkSs cx tb sc N a x&&chkSs cx tb sc N b y
 | .wh c b,s=>false
 | .fr t it b,s=>kFr sc N t (fun tg i=>chkI cx ⟨true,tb⟩ sc N tg it i) (chkSs cx tb sc N b) s
 | .brk,s=>false
 | .cont,s=>false
 | .pass,s=>false
 | .stop,_=>false
 | .raise c es,s=>kRa cx sc c (esLen es) (chkEs cx ⟨true,tb⟩ sc N es) s
 | .tryM f es i hs,s=>false
 | .tryA j f es i hs,s=>kTryA cx sc N j f (esLen es) i hs (chkEs cx ⟨true,tb⟩ sc N es) s
 | .tryV v es i hs,s=>false
 | .tryC f es i hs,s=>false
 | .augix _ _ _ _,_=>false
noncomputable def chkSs (cx:CI) (tb:Option Nat) (sc:Scope) (N:List Str):I.Ss→List Stmt→Bool
 | .nil,ss=>on0 ss true
 | .cons a r,ss=>onCons ss fun s rest=>chkS cx tb sc N a s&&chkSs cx tb sc N r rest
end
end IS
namespace IS
open PySem PySem.Spec L2
open PyProof.Rows hiding St
open I (D Cell OS Fr R SZ Kt Ko)
structure SC (X:Cx) (lc:Bool) (sc:Scope):Prop where
 vis:∀ x,visB sc x=true→Vis X.env.scope x
 glo:∀ x,gloB sc x=true→Gl X x
 asg:∀ x,asgB lc sc x=true→Loc X.env.scope x∧(X.fn x=true∨X.env.scope.names.lookup x=some .local)
 cel:∀ x,(sc.names.lookup x=some .cell∨sc.names.lookup x=some .free)→(X.env.scope.names.lookup x=some .cell∨X.env.scope.names.lookup x=some .free)
noncomputable def TabX (G:GI) (X:Cx) (t:Nat):Prop:=∃ c,X.env.code=.ref c∧PySem.W.CodeHd X.base c (G.tA t)∧X.env.qual ++ "<lambda>" = G.tq t∧BMd X.mg X.base
structure XI (G:GI) (E:XK) (k:Nat) (X:Cx) (lc:LC) (sc:Scope) (N:List Str):Prop where
 prog:X.prog=G.prog
 w:X.w=G.w
 K:X.K=G.K
 mg:X.mg=G.mg
 base:X.base=G.base
 nms:X.N=N
 nd:N.Nodup
 sc:SC X lc.c sc
 calm:X.calm=true
 room:Room (2 * k+1) X.A
 pass:Passes (CXE X.prog X.w) X E
 tab:∀ t,lc.t=some t→TabX G X t
 ph:lc.c=true→PassH X E
noncomputable def bnames:List Str:=["len", "list", "tuple", "min", "max", "range", "enumerate", "isinstance", "int", "bool", "str", "sum", "all", "any", "sorted", "zip", "reversed", "dict", "set", "ValueError"]
structure FX (G:GI) (cx:CI):Prop where
 inj:∀ f g,G.fl f=G.fl g→f=g
 cl:∀ c,G.ok c→Cls G.K (G.CA c)
 nf:∀ f x,cx.fl f=some x→G.fl f=x∧∀ c,G.ok c→NoAttr G.K (G.CA c) x
 nm:∀ m x n,cx.mt m=some (x,n)→∀ f,G.fl f≠x
structure HND (G:GI) (cx:CI):Prop where
 ex:∀ c x,cx.xm c x=true→(∃ v,G.mg x=some v∧PySem.W.exmOne G.K (.ref (G.CA c)) v=some true)∧PySem.W.ExC G.K (G.CA c)∧PySem.W.kitOne G.K (.ref (G.CA c)) (.type "ValueError")=some true
 kt:∀ c x b,cx.kt c x=some b→∃ A,G.mg x=some (.ref A)∧PySem.W.kitOne G.K (.ref (G.CA c)) (.ref A)=some b
 fv:∀ f x,G.fa f=some x→cx.fn f=some (x,1)
structure TB (G:GI) (P:I.Pg) (W k:Nat) (cx:CI):Prop where
 fns:∀ f x n,cx.fn f=some (x,n)→∃ ps:List Str,CalE G.prog G.w G.K G.mg G.base x (2 * k) ps (spF G P W k f n)
 gls:∀ i x,cx.gl i=some x→∃ u v,G.mg x=some u∧RelV v u∧∀ ι Hf,Rp G ι Hf v (P.g i)
 nbs:∀ x,x∈bnames→G.mg x=none
 exs:∀ c x,cx.ec c=some x→G.mg x=some (.ref (G.CA c))∧PySem.W.excIn G.K (G.CA c) [.type "ValueError",.type "Exception",.type "BaseException",.type "object"] "ValueError.__new__" = true
 cls:∀ c x n,cx.cl c=some (x,n)→G.ok c∧∃ (fi:Nat) (ps:List Str),P.ini c=some fi∧KCalE G.prog G.w G.K G.mg G.base (G.CA c) x (2 * k) ps (spF G P W k fi n)
 mts:∀ c m f,P.meth c m=some f→∀ x n,cx.mt m=some (x,n)→∃ ps:List Str,MCalE G.prog G.w G.K G.mg G.base (G.CA c) x (2 * k) ps (spF G P W k f n)
 fx:FX G cx
 hn:HND G cx
theorem okN_d {x:Str} (h:okN x=true):(x == ("__debug__" : Str))=false∧(x == ("__classdict__" : Str))=false:=by
 obtain ⟨h1,h2⟩:=and2 h
 exact ⟨by simpa using h1,by simpa using h2⟩
theorem star_of {e:Expr} {es:List Expr} {env:Env} (h:noStar e=true):starEach (e::es) env=(false,eval e env)::starEach es env:=by
 cases e <;> first | rfl | cases h
theorem base_of {e:Expr} {m:Str} {env:Env} (h:baseOk e=true):attributeBase e m env (eval e env)=eval e env:=by
 cases e with
 | Call f args kws pos =>
  cases args with
  | nil=>cases h
  | cons a r=>cases f <;> rfl
 | _=>rfl
theorem plainIx_of {e:Expr} (h:notSlice e=true):PlainIx e:=by
 intro o i
 cases e <;> first | rfl | cases h
theorem set_of {e:Expr} {env:Env} (h:notSet e=true):∀ x,foldedSetIterable e env x=pure x:=by
 intro x
 cases e <;> first | rfl | cases h
theorem swap_of {e:Expr} {t:Option Expr} {n:Nat} {env:Env} (h:notComp e=true):swapsWith e t n env=pure false:=by
 cases e <;> first | rfl | cases h
theorem plainT_of {e:Expr} {env:Env} (h:plainT e=true):∀ whole,isTrue e env whole=(do let v ← whole; standAt e.pos; holding [v] (truthy v)):=by
 intro whole
 cases e with
 | UnaryOp op x pos=>cases op <;> first | rfl | cases h
 | BoolOp _ _ _=>cases h
 | IfExp _ _ _ _=>cases h
 | Compare _ _ _ _=>cases h
 | _=>rfl
section
variable {G:GI} {P:I.Pg} {W:Nat} {cx:CI} {E:XK} {k:Nat} {X:Cx} {lc:LC} {sc:Scope} {N:List Str}
theorem XI.nb (hX:XI G E k X lc sc N) {x:Str} (T:TB G P W k cx) (h:x∈bnames):X.mg x=none:=by rw [hX.mg]; exact T.nbs x h
theorem XI.units (hX:XI G E k X lc sc N):X.A.units+64<cLine:=hX.room.units
theorem XI.units1 (hX:XI G E k X lc sc N):X.A.units+1<cLine:=by have:=hX.room.units; omega
theorem opTab (hX:XI G E k X lc sc N) {p:I.Pr} {op:Operator} (h:binO p=some op):∃ r,OpR X (binaryOp op) r∧VR2 G E p r:=by
 cases p <;> cases h
 ·exact ⟨_,op_addA hX.K,v_add⟩
 ·exact ⟨_,op_sub,v_sub⟩
 ·exact ⟨_,OpR.or op_mulB (OpR.or op_rep op_repS),v_mulI⟩
 ·exact ⟨_,op_fdivB,v_fdiv⟩
 ·exact ⟨_,op_mod,v_mod⟩
 ·exact ⟨_,op_pow,v_pow⟩
 ·exact ⟨_,op_shlB,v_shl⟩
 ·exact ⟨_,op_shr,v_shr⟩
 ·exact ⟨_,op_and,v_band⟩
 ·exact ⟨_,op_or,v_bor⟩
 ·exact ⟨_,op_xor,v_bxor⟩
theorem cmpTab (hX:XI G E k X lc sc N) {o:I.Cop} {op:CmpOp} (h:cmpO o=some op):(∃ r,OpR X (compareOp op) r∧VR2 G E (.cmp o) r)∧∀ b,behindInMarks op b=false:=by
 cases o <;> cases h
 ·exact ⟨⟨_,hX.K ▸ op_eqK hX.units,v_eq⟩,fun b=>nomark b⟩
 ·exact ⟨⟨_,hX.K ▸ op_neK hX.units,v_ne⟩,fun b=>nomark b⟩
 ·exact ⟨⟨_,op_lt,v_lt⟩,fun b=>nomark b⟩
 ·exact ⟨⟨_,op_le,v_le⟩,fun b=>nomark b⟩
 ·exact ⟨⟨_,op_gt,v_gt⟩,fun b=>nomark b⟩
 ·exact ⟨⟨_,op_ge,v_ge⟩,fun b=>nomark b⟩
 ·exact ⟨⟨_,op_isN,v_isN⟩,fun b=>nomark b⟩
 ·exact ⟨⟨_,op_notN,v_notN⟩,fun b=>nomark b⟩
 ·exact ⟨⟨_,hX.K ▸ op_eqK hX.units,v_eqd⟩,fun b=>nomark b⟩
 ·exact ⟨⟨_,op_isB,v_isB⟩,fun b=>nomark b⟩
 ·exact ⟨⟨_,op_leS,v_leS⟩,fun b=>nomark b⟩
theorem cmpTab' (hX:XI G E k X lc sc N) {o:I.Cop} {op:CmpOp} {y:Expr} (h:cmpB o op y=true):(∃ r,OpR X (compareOp op) r∧VR2 G E (.cmp o) r)∧behindInMarks op y=false:=by
 unfold cmpB at h
 rw [Bool.or_eq_true] at h
 rcases h with h | h
 ·obtain ⟨h1,h2⟩:=cmpTab hX (of_decide_eq_true h)
  exact ⟨h1,h2 y⟩
 ·obtain ⟨h1,h2⟩:=and2 h
  have nm:behindInMarks op y=false:=by cases y <;> first | rfl | cases h1
  have e:=of_decide_eq_true h2
  cases o <;> cases e
  ·exact ⟨⟨_,hX.K ▸ op_in_seq,v_in⟩,nm⟩
  ·exact ⟨⟨_,hX.K ▸ op_notIn_seq,v_notin⟩,nm⟩
  ·exact ⟨⟨_,op_inS,v_inS⟩,nm⟩
theorem s_cal (T0:TB G P W k cx) (hX:XI G E k X lc sc N) {p:I.Pr} {x:Str} {as:I.Es} {e:Expr} {es:List Expr} {np pos:Pos} (h:calO p=some x) (hg:gloB sc x=true) (hk:okN x=true) (ha:PA X (e::es) (Ts G E P (I.call P W k) as))
  (he:starEach (e::es) X.env=(false,eval e X.env)::starEach es X.env) (hpl:(backTo pos (starEach es X.env)).any (·.1)=false) :
  PE X (.Call (.Name x np) (e::es) [] pos) (T G E P (I.call P W k) (.pr p as))∧(frO (.pr p as)=true→PE X (.Call (.Name x np) (e::es) [] pos) (TF G E P (I.call P W k) (.pr p as))):=by
 have hG:=hX.sc.glo x hg
 have hd:=(okN_d hk).1
 cases p <;> cases h
 ·exact ⟨PE.weak (pe_callB (call_lenA hX.K) hG (hX.nb T0 (by decide)) PySem.boot_len ha (by decide) hd he hpl) (t_cb v_len),fun z=>by cases z⟩
 ·exact ⟨PE.weak (pe_callB (hX.K ▸ call_all hX.calm) hG (hX.nb T0 (by decide)) PyProof.Rows.boot_all ha (by decide) hd he hpl) (t_cb v_all),fun z=>by cases z⟩
 ·exact ⟨PE.weak (pe_callB (call_max2 hX.calm) hG (hX.nb T0 (by decide)) PyProof.Rows.boot_max ha (by decide) hd he hpl) (t_cb v_max2),fun z=>by cases z⟩
 ·exact ⟨PE.weak (pe_callTy call_str hG (hX.nb T0 (by decide)) PyProof.Rows.boot_str ha (by decide) hd he hpl) (t_cb v_toS),fun z=>by cases z⟩
 ·exact ⟨PE.weak (pe_callTy call_int hG (hX.nb T0 (by decide)) PyProof.Rows.boot_int ha (by decide) hd he hpl) (t_cb v_toI),fun z=>by cases z⟩
theorem s_met (hX:XI G E k X lc sc N) {p:I.Pr} {m:Str} {o:Expr} {ea:I.E} {as:I.Es} {args:List Expr} {apos cpos:Pos} (h:metO p=some m) (ho:PE X o (T G E P (I.call P W k) ea)) (ha:PA X args (Ts G E P (I.call P W k) as)) (hb:baseOk o=true)
  (hst:∀ e∈args,noStar e=true) (hl:(apos.endLine == cpos.line)=true) (hf:args.length<20) (hn:args=[]→as=.nil):PE X (.Call (.Attribute o m apos) args [] cpos) (T G E P (I.call P W k) (.bm p ea as)):=by
 have stars:∀ es:List Expr,(∀ e∈es,noStar e=true)→(backTo cpos (starEach es X.env)).any (·.1)=false∧(backTo cpos (starEach es X.env)).all (fun x => !x.1)=true:=fun es=>by
  induction es with
  | nil=>exact fun _=>⟨rfl,rfl⟩
  | cons e es ih =>
   intro h
   obtain ⟨i1,i2⟩:=ih fun z hz=>h z (.tail _ hz)
   rw [star_of (h e (.head _))]
   exact ⟨by show (false||(backTo cpos (starEach es X.env)).any (·.1))=false; rw [i1]; rfl,by show (!false&&(backTo cpos (starEach es X.env)).all (fun x => !x.1))=true; rw [i2]; rfl⟩
 cases args with
 | nil =>
  cases hn rfl
  cases p with
  | append=>cases h; exact PE.weak (pe_bm0 PySem.F.plainAttrs_list PySem.F.slot_list_append PySem.F.type_list_append mt_append ho (base_of hb) hl) (hX.K ▸ t_bm0 v_append)
  | joinS=>cases h; exact PE.weak (pe_bm0 PySem.F.plainAttrs_str PySem.F.slot_str_join PySem.F.type_str_join mt_join ho (base_of hb) hl) (hX.K ▸ t_bm0 v_joinS)
  | splitS=>cases h; exact PE.weak (pe_bm0 PySem.F.plainAttrs_str PySem.F.slot_str_split PySem.F.type_str_split mt_split ho (base_of hb) hl) (hX.K ▸ t_bm0 v_splitS)
  | startS=>cases h; exact PE.weak (pe_bm0 PySem.F.plainAttrs_str PySem.F.slot_str_startswith PySem.F.type_str_startswith mt_starts ho (base_of hb) hl) (hX.K ▸ t_bm0 v_startS)
  | _=>cases h
 | cons e es =>
  have s1:=star_of (es:=es) (env:=X.env) (hst e (.head _))
  obtain ⟨s2,s3⟩:=stars es fun z hz=>hst z (.tail _ hz)
  obtain ⟨_,s4⟩:=stars (e::es) hst
  have hfew:((backTo cpos (starEach (e::es) X.env)).all (fun x => !x.1)&&(backToKw cpos (keywordEach [] X.env)).all (fun x=>x.1.isSome)&&decide ((e::es).length+([]:List Keyword).length+(if ([]:List Keyword).isEmpty then 0 else 1)<30))=true:=by
   rw [s4,decide_eq_true (by simp only [List.length_nil,List.isEmpty_nil,if_true]; omega)]
   rfl
  cases p with
  | append=>cases h; exact PE.weak (pe_bm PySem.F.plainAttrs_list PySem.F.slot_list_append PySem.F.type_list_append mt_append ho ha (base_of hb) hfew hl s1 s2) (hX.K ▸ t_bm v_append)
  | joinS=>cases h; exact PE.weak (pe_bm PySem.F.plainAttrs_str PySem.F.slot_str_join PySem.F.type_str_join mt_join ho ha (base_of hb) hfew hl s1 s2) (hX.K ▸ t_bm v_joinS)
  | splitS=>cases h; exact PE.weak (pe_bm PySem.F.plainAttrs_str PySem.F.slot_str_split PySem.F.type_str_split mt_split ho ha (base_of hb) hfew hl s1 s2) (hX.K ▸ t_bm v_splitS)
  | startS=>cases h; exact PE.weak (pe_bm PySem.F.plainAttrs_str PySem.F.slot_str_startswith PySem.F.type_str_startswith mt_starts ho ha (base_of hb) hfew hl s1 s2) (hX.K ▸ t_bm v_startS)
  | _=>cases h
end
end IS
namespace IS
open PySem PySem.Spec L2
open PyProof.Rows hiding St
open I (D Cell OS Fr R SZ Kt Ko)
section
variable {G:GI} {P:I.Pg} {W:Nat} {cx:CI} {E:XK} {k:Nat} {X:Cx} {lc:LC} {sc:Scope} {N:List Str} {KO:I.Orc} {a b c:I.E} {x l u:Expr} {p2 pos:Pos}
theorem slK_none {os:OS} {d:D}:I.slK os d none=.stk:=by cases d <;> rfl
theorem is_int {ι:List Addr} {Hf:Hp} {v:V} {d:D} (h:Rp G ι Hf v d):(∃ i,v=.int i∧d=.int i)∨∀ i,d≠.int i:=by
 cases h <;> first | exact .inl ⟨_,rfl,rfl⟩ | exact .inr fun _ z=>nomatch z
theorem sl1_not {d:D} (h:∀ i,d≠.int i):I.slB true false [d]=none∧I.slB false true [d]=none:=by
 cases d <;> first | exact ⟨rfl,rfl⟩ | exact absurd rfl (h _)
theorem sl2_not {d e:D} (h:(∀ i,d≠.int i)∨∀ i,e≠.int i):I.slB true true [d,e]=none:=by
 rcases h with h | h
 ·cases d <;> first | rfl | exact absurd rfl (h _)
 ·cases d <;> cases e <;> first | rfl | exact absurd rfl (h _)
theorem s_sl0 (hK:X.K=G.K) (ha:PE X x (T G E P KO a)):PE X (.Subscript x (.Slice none none none p2) pos) (T G E P KO (.pr (.sl false false) (.cons a .nil)))∧PE X (.Subscript x (.Slice none none none p2) pos) (TF G E P KO (.pr (.sl false false) (.cons a .nil))) :=
 ⟨PE.weak (pe_slice (sl_all hK) ha po_none po_none) fun σ H Q ⟨ι,Hf,ρ,os,rel,rf,w⟩=>T.use rel rf (one (WR.bind (k:=⟨_⟩) w)) fun ι1 Hf1 H1 os1 d1 v1 x1 r1 f1 hv1 q1=>v_sl (o:=(none,none)) r1 hv1 q1,
  PE.weak (pe_slice (sl_all hK) ha po_none po_none) fun σ H Q ⟨ι,Hf,ρ,os,rel,rf,w⟩=>T.use rel rf (one (WR.bind (k:=⟨_⟩) w)) fun ι1 Hf1 H1 os1 d1 v1 x1 r1 f1 hv1 q1=>v_slF (o:=(none,none)) r1 hv1 q1⟩
theorem s_slL (hK:X.K=G.K) (ha:PE X x (T G E P KO a)) (hb:PE X l (T G E P KO b)):PE X (.Subscript x (.Slice (some l) none none p2) pos) (T G E P KO (.pr (.sl true false) (.cons a (.cons b .nil))))∧PE X (.Subscript x (.Slice (some l) none none p2) pos) (TF G E P KO (.pr (.sl true false) (.cons a (.cons b .nil)))):=by
 constructor
 ·refine PE.weak (pe_slice (sl_all hK) ha (po_some hb) po_none) fun σ H Q ⟨ι,Hf,ρ,os,rel,rf,w⟩=>T.use rel rf (two (WR.bind (k:=⟨_⟩) w)) fun ι1 Hf1 H1 os1 d1 v1 x1 r1 f1 hv1 q1=>T.use r1 f1 q1 fun ι2 Hf2 H2 os2 d2 v2 x2 r2 f2 hv2 q2 => ?_
  have q3:WR G E ι2 Hf2 (I.slK os2 (I.deref os2 d1) (I.slB true false [d2])) _:=q2
  rcases is_int hv2 with ⟨i,rfl,rfl⟩ | h
  ·exact ⟨i,rfl,v_sl (o:=(some i,none)) r2 (hv1.ext x2) q3⟩
  ·rw [(sl1_not h).1,slK_none] at q3
   exact False.elim q3
 ·refine PE.weak (pe_slice (sl_all hK) ha (po_some hb) po_none) fun σ H Q ⟨ι,Hf,ρ,os,rel,rf,w⟩=>T.use rel rf (two (WR.bind (k:=⟨_⟩) w)) fun ι1 Hf1 H1 os1 d1 v1 x1 r1 f1 hv1 q1=>T.use r1 f1 q1 fun ι2 Hf2 H2 os2 d2 v2 x2 r2 f2 hv2 q2 => ?_
  have q3:WR G E ι2 Hf2 (I.slK os2 (I.deref os2 d1) (I.slB true false [d2])) _:=q2
  rcases is_int hv2 with ⟨i,rfl,rfl⟩ | h
  ·exact ⟨i,rfl,v_slF (o:=(some i,none)) r2 (hv1.ext x2) q3⟩
  ·rw [(sl1_not h).1,slK_none] at q3
   exact False.elim q3
theorem s_slU (hK:X.K=G.K) (ha:PE X x (T G E P KO a)) (hb:PE X u (T G E P KO b)):PE X (.Subscript x (.Slice none (some u) none p2) pos) (T G E P KO (.pr (.sl false true) (.cons a (.cons b .nil))))∧PE X (.Subscript x (.Slice none (some u) none p2) pos) (TF G E P KO (.pr (.sl false true) (.cons a (.cons b .nil)))):=by
 constructor
 ·refine PE.weak (pe_slice (sl_all hK) ha po_none (po_some hb)) fun σ H Q ⟨ι,Hf,ρ,os,rel,rf,w⟩=>T.use rel rf (two (WR.bind (k:=⟨_⟩) w)) fun ι1 Hf1 H1 os1 d1 v1 x1 r1 f1 hv1 q1=>T.use r1 f1 q1 fun ι2 Hf2 H2 os2 d2 v2 x2 r2 f2 hv2 q2 => ?_
  have q3:WR G E ι2 Hf2 (I.slK os2 (I.deref os2 d1) (I.slB false true [d2])) _:=q2
  rcases is_int hv2 with ⟨i,rfl,rfl⟩ | h
  ·exact ⟨i,rfl,v_sl (o:=(none,some i)) r2 (hv1.ext x2) q3⟩
  ·rw [(sl1_not h).2,slK_none] at q3
   exact False.elim q3
 ·refine PE.weak (pe_slice (sl_all hK) ha po_none (po_some hb)) fun σ H Q ⟨ι,Hf,ρ,os,rel,rf,w⟩=>T.use rel rf (two (WR.bind (k:=⟨_⟩) w)) fun ι1 Hf1 H1 os1 d1 v1 x1 r1 f1 hv1 q1=>T.use r1 f1 q1 fun ι2 Hf2 H2 os2 d2 v2 x2 r2 f2 hv2 q2 => ?_
  have q3:WR G E ι2 Hf2 (I.slK os2 (I.deref os2 d1) (I.slB false true [d2])) _:=q2
  rcases is_int hv2 with ⟨i,rfl,rfl⟩ | h
  ·exact ⟨i,rfl,v_slF (o:=(none,some i)) r2 (hv1.ext x2) q3⟩
  ·rw [(sl1_not h).2,slK_none] at q3
   exact False.elim q3
theorem WR.asInt {b:I.E} {ρ:Fr} {ι:List Addr} {Hf:Hp} {os:OS} {Q:List Addr→Hp→Hp→OS→D→Prop} (w:WR G E ι Hf (I.ev P KO (.asI b) ρ os) Q):WR G E ι Hf (I.ev P KO (.asI b) ρ os) (fun ι' Hf' H' os' d=>(∃ i,d=.int i)∧Q ι' Hf' H' os' d):=by
 cases e:I.ev P KO (.asI b) ρ os with
 | stk=>rw [e] at w; exact w
 | exc c p os'=>rw [e] at w; exact w
 | ok d os' =>
  rw [e] at w
  obtain ⟨d1,os1,_,h2⟩:=bind_some (f:=fun d os1=>I.asIK d os1) e
  have:∃ i,d=.int i:=by cases d1 <;> cases h2; exact ⟨_,rfl⟩
  exact fun ι' Hf' H' x r=>⟨this,w ι' Hf' H' x r⟩
theorem s_asI (h:PE X l (T G E P KO b)):PE X l (T G E P KO (.asI b)) :=
 PE.weak h fun σ H Q ⟨ι,Hf,ρ,os,rel,rf,w⟩=>T.use rel rf (WR.bind (k:=⟨_⟩) w) fun ι1 Hf1 H1 os1 d v x1 r1 f1 hv q=>by
  cases hv with
  | int i=>exact q.now r1 _ (.int i)
  | _=>exact False.elim q
theorem s_slB (hK:X.K=G.K) (ha:PE X x (T G E P KO a)) (hb:PE X l (T G E P KO (.asI b))) (hc:PE X u (T G E P KO c)):PE X (.Subscript x (.Slice (some l) (some u) none p2) pos) (T G E P KO (.pr (.sl true true) (.cons a (.cons (.asI b) (.cons c .nil)))))∧PE X (.Subscript x (.Slice (some l) (some u) none p2) pos) (TF G E P KO (.pr (.sl true true) (.cons a (.cons (.asI b) (.cons c .nil))))):=by
 constructor
 ·refine PE.weak (pe_slice (sl_all hK) ha (po_some hb) (po_some hc)) fun σ H Q ⟨ι,Hf,ρ,os,rel,rf,w⟩ => ?_
  have w':=three (WR.bind (k:=⟨_⟩) w)
  refine T.use rel rf w' fun ι1 Hf1 H1 os1 d1 v1 x1 r1 f1 hv1 q1=>T.use r1 f1 (WR.asInt q1) fun ι2 Hf2 H2 os2 d2 v2 x2 r2 f2 hv2 ⟨⟨i,ei⟩,q2⟩ => ?_
  subst ei
  obtain rfl:v2=.int i:=by cases hv2; rfl
  ·refine ⟨i,rfl,T.use r2 f2 q2 fun ι3 Hf3 H3 os3 d3 v3 x3 r3 f3 hv3 q3 => ?_⟩
   have q4:WR G E ι3 Hf3 (I.slK os3 (I.deref os3 d1) (I.slB true true [.int i,d3])) _:=q3
   rcases is_int hv3 with ⟨j,rfl,rfl⟩ | h
   ·exact ⟨j,rfl,v_sl (o:=(some i,some j)) r3 (hv1.ext (x2.trans x3)) q4⟩
   ·rw [sl2_not (.inr h),slK_none] at q4
    exact False.elim q4
 ·refine PE.weak (pe_slice (sl_all hK) ha (po_some hb) (po_some hc)) fun σ H Q ⟨ι,Hf,ρ,os,rel,rf,w⟩ => ?_
  have w':=three (WR.bind (k:=⟨_⟩) w)
  refine T.use rel rf w' fun ι1 Hf1 H1 os1 d1 v1 x1 r1 f1 hv1 q1=>T.use r1 f1 (WR.asInt q1) fun ι2 Hf2 H2 os2 d2 v2 x2 r2 f2 hv2 ⟨⟨i,ei⟩,q2⟩ => ?_
  subst ei
  obtain rfl:v2=.int i:=by cases hv2; rfl
  ·refine ⟨i,rfl,T.use r2 f2 q2 fun ι3 Hf3 H3 os3 d3 v3 x3 r3 f3 hv3 q3 => ?_⟩
   have q4:WR G E ι3 Hf3 (I.slK os3 (I.deref os3 d1) (I.slB true true [.int i,d3])) _:=q3
   rcases is_int hv3 with ⟨j,rfl,rfl⟩ | h
   ·exact ⟨j,rfl,v_slF (o:=(some i,some j)) r3 (hv1.ext (x2.trans x3)) q4⟩
   ·rw [sl2_not (.inr h),slK_none] at q4
    exact False.elim q4
theorem s_inst (T0:TB G P W k cx) (hX:XI G E k X lc sc N) {t:I.Ty} {tn:Str} {n1 n2:Pos} (hg:Gl X "isinstance") (hg2:Gl X tn) (ht:tn=Str.ofString (tyN t)) (ha:PE X x (T G E P KO a)) (hs:noStar x=true):PE X (.Call (.Name "isinstance" n1) [x,.Name tn n2] [] pos) (T G E P KO (.pr (.isInst t) (.cons a .nil))):=by
 have hb:PE X (.Name tn n2) (tC (.ty (tyN t))):=by
  subst ht
  cases t
  ·exact pe_bltn hg2 (hX.nb T0 (by decide)) PyProof.Rows.boot_int rfl
  ·exact pe_bltn hg2 (hX.nb T0 (by decide)) PyProof.Rows.boot_bool rfl
  ·exact pe_bltn hg2 (hX.nb T0 (by decide)) PyProof.Rows.boot_list rfl
  ·exact pe_bltn hg2 (hX.nb T0 (by decide)) PyProof.Rows.boot_tuple rfl
  ·exact pe_bltn hg2 (hX.nb T0 (by decide)) PyProof.Rows.boot_str rfl
 refine PE.weak (pe_callB (hX.K ▸ call_isinst) hg (hX.nb T0 (by decide)) boot_isinstance (pa_cons ha (pa_cons hb pa_nil) (star_of hs)) (by decide) (by decide) (star_of hs) rfl) fun σ H Q ⟨ι,Hf,ρ,os,rel,rf,w⟩ => ?_
 exact T.use rel rf (one (WR.bind (k:=⟨_⟩) w)) fun ι1 Hf1 H1 os1 d1 v1 x1 r1 f1 hv1 q1=>v_inst t r1 hv1 q1
end
end IS
namespace IS
open PySem PySem.Spec L2
open PyProof.Rows hiding St
open I (D Cell OS Fr R SZ Kt Ko)
section
variable {G:GI} {P:I.Pg} {W:Nat} {cx:CI} {E:XK} {k:Nat} {X:Cx} {lc:LC} {sc:Scope} {N:List Str}
theorem relb2 (env:Env) (x:Str) (kd:NameKind) (h:kd≠.free):(relb env (x,kd)).2=kd:=by
 unfold relb
 rw [if_neg]
 intro z
 have:=and2 (and2 z).1
 exact h (eq_of_beq this.1)
theorem relb3 (env:Env) (x:Str):(relb env (x,.free)).2=.cell∨(relb env (x,.free)).2=.free:=by
 unfold relb
 split
 ·exact .inl rfl
 ·exact .inr rfl
theorem vis_k {sc:Scope} {x:Str} (h:visB sc x=true):sc.names.lookup x=some .local∨sc.names.lookup x=some .cell∨sc.names.lookup x=some .free:=by
 unfold visB at h
 split at h
 ·exact .inl ‹_›
 ·exact .inr (.inl ‹_›)
 ·exact .inr (.inr ‹_›)
 ·cases h
theorem glo_k {sc:Scope} {x:Str} (h:gloB sc x=true):sc.names.lookup x=some .globalImplicit:=by
 unfold gloB at h
 split at h
 ·assumption
 ·cases h
theorem asg_k {lc:Bool} {sc:Scope} {x:Str} (h:asgB lc sc x=true):sc.names.lookup x=some .local∨(lc=true∧sc.names.lookup x=some .cell):=by
 unfold asgB at h
 split at h
 ·exact .inl ‹_›
 ·exact .inr ⟨h,‹_›⟩
 ·cases h
theorem SC.comp {scope:Scope} {N':List Str} {fp:List Addr} {s2:Shared} {H2:Hp} {C:Addr}:SC (X.comp scope N' fp s2 H2 C) false scope:=by
 have lk:∀ {x:Str} {kd:NameKind},scope.names.lookup x=some kd→(X.comp scope N' fp s2 H2 C).env.scope.names.lookup x=some (relb X.env (x,kd)).2:=fun {x kd} h=>by
  show (relabel scope X.env).names.lookup x=_
  rw [relabel_names]
  exact relb_look_of h
 refine ⟨fun x h => ?_,fun x h => ?_,fun x h => ?_,fun x h => ?_⟩
 ·rcases vis_k h with h | h | h
  ·have:=lk h
   rw [relb2 _ _ _ (by decide)] at this
   exact .inl this
  ·have:=lk h
   rw [relb2 _ _ _ (by decide)] at this
   exact .inr (.inl this)
  ·have:=lk h
   rcases relb3 X.env x with z | z
   ·rw [z] at this; exact .inr (.inl this)
   ·rw [z] at this; exact .inr (.inr this)
 ·have:=lk (glo_k h)
  rw [relb2 _ _ _ (by decide)] at this
  exact this
 ·rcases asg_k h with h | ⟨h,_⟩
  ·have:=lk h
   rw [relb2 _ _ _ (by decide)] at this
   exact ⟨.inl this,.inr this⟩
  ·cases h
 ·rcases h with h | h
  ·have:=lk h
   rw [relb2 _ _ _ (by decide)] at this
   exact .inl this
  ·have:=lk h
   rcases relb3 X.env x with z | z
   ·rw [z] at this; exact .inl this
   ·rw [z] at this; exact .inr this
theorem comp_k {scope:Scope} {N':List Str} {nl:Nat} {fr:List Nat} (h:compB sc N scope N' nl fr=true) (hX:XI G E k X lc sc N):CompSc X.env.scope X.N scope N' nl fr∧N'.Nodup:=by
 obtain ⟨h,h8⟩:=and2 h
 obtain ⟨h,h7⟩:=and2 h
 obtain ⟨h,h6⟩:=and2 h
 obtain ⟨h,h5⟩:=and2 h
 obtain ⟨h,h4⟩:=and2 h
 obtain ⟨h,h3⟩:=and2 h
 obtain ⟨h1,h2⟩:=and2 h
 refine ⟨⟨of_decide_eq_true h1,fun y hy=>of_decide_eq_true (List.all_eq_true.mp h2 y hy),fun y hy e => ?_,fun y hy e => ?_,of_decide_eq_true h5,by rw [hX.nms]; exact of_decide_eq_true h6,fun x hx=>of_decide_eq_true (List.all_eq_true.mp h7 x hx)⟩,of_decide_eq_true h8⟩
 ·have:=List.all_eq_true.mp h3 y hy
  rw [decide_eq_true e,Bool.not_true,Bool.false_or] at this
  exact of_decide_eq_true this
 ·have:=List.all_eq_true.mp h4 y hy
  rw [decide_eq_true e,Bool.not_true,Bool.false_or,Bool.or_eq_true] at this
  refine hX.sc.cel y.1 ?_
  rcases this with z | z
  ·exact .inl (of_decide_eq_true z)
  ·exact .inr (of_decide_eq_true z)
theorem XI.comp (hX:XI G E k X lc sc N) {scope:Scope} {N':List Str} {fp:List Addr} {s2:Shared} {H2:Hp} {C:Addr} (nd:N'.Nodup):XI G E0 k (X.comp scope N' fp s2 H2 C) lc0 scope N' :=
 ⟨hX.prog,hX.w,hX.K,hX.mg,hX.base,rfl,nd,SC.comp,hX.calm,hX.room,pass0E,(fun _ z=>by cases z),fun _=>passH0⟩
theorem XI.compE (hX:XI G E k X lc sc N) {scope:Scope} {N':List Str} {fp:List Addr} {s2:Shared} {H2:Hp} {C:Addr} (nd:N'.Nodup):XI G E k (X.compE E scope N' fp s2 H2 C) lc0 scope N' :=
 have z:SC (X.comp scope N' fp s2 H2 C) false scope:=SC.comp
 ⟨hX.prog,hX.w,hX.K,hX.mg,hX.base,rfl,nd,⟨z.vis,z.glo,z.asg,z.cel⟩,hX.calm,hX.room,passC,(fun _ z=>by cases z),(fun z=>by cases z)⟩
theorem cTs (hX:XI G E k X lc sc N):∀ (is:List Nat) (es:List Expr),chkTs lc.c sc N is es=true→PGs X es (TTgs G is)∧is.length=es.length∧(assignEach es X.env).length=es.length∧(assignEach es X.env).findIdx? (·.1)=none
 | [],[],_=>⟨gs_nil,rfl,rfl,rfl⟩
 | [],_::_,h=>by cases h
 | i::is,[],h=>by cases h
 | i::is,e::es,h=>by
  cases e with
  | Name x pos =>
   obtain ⟨h,h3⟩:=and2 (show (decide (N[i]?=some x)&&asgB lc.c sc x&&chkTs lc.c sc N is es)=true from h)
   obtain ⟨h1,h2⟩:=and2 h
   obtain ⟨i1,i2,i3,i4⟩:=cTs hX is es h3
   obtain ⟨l1,l2⟩:=hX.sc.asg x h2
   refine ⟨gs_cons (g_name (by rw [hX.nms]; exact hX.nd) (by rw [hX.nms]; exact of_decide_eq_true h1) l1 l2) i1 rfl,congrArg (· + 1) i2,congrArg (· + 1) i3,?_⟩
   show ((false,assign (.Name x pos) X.env)::assignEach es X.env).findIdx? (·.1)=none
   rw [List.findIdx?_cons]
   simp [i4]
  | _=>cases h
theorem cT (hX:XI G E k X lc sc N) (t:I.Tg) (e:Expr) (h:chkT lc.c sc N t e=true):PG X e (TTg G t):=by
 cases t with
 | v i =>
  cases e with
  | Name x pos =>
   obtain ⟨h1,h2⟩:=and2 (show (decide (N[i]?=some x)&&asgB lc.c sc x)=true from h)
   obtain ⟨l1,l2⟩:=hX.sc.asg x h2
   exact g_name (by rw [hX.nms]; exact hX.nd) (by rw [hX.nms]; exact of_decide_eq_true h1) l1 l2
  | _=>cases h
 | tup is =>
  cases e with
  | Tuple es kk pos =>
   obtain ⟨i1,i2,i3,i4⟩:=cTs hX is es h
   exact g_tup hX.K hX.calm i1 i2 i3 i4
  | _=>cases h
end
end IS
namespace IS
open PySem PySem.Spec L2
open PyProof.Rows hiding St
open I (D Cell OS Fr R SZ Kt Ko)
section
variable {G:GI} {P:I.Pg} {W:Nat} {cx:CI} {k:Nat}
theorem nostars {es:List Expr} {env:Env} {pos:Pos} (h:∀ e∈es,noStar e=true):(backTo pos (starEach es env)).any (·.1)=false:=by
 induction es with
 | nil=>rfl
 | cons e es ih =>
  rw [star_of (h e (.head _))]
  show (false||(backTo pos (starEach es env)).any (·.1))=false
  rw [ih fun z hz=>h z (.tail _ hz)]
  rfl
theorem pe_bool1 {X:Cx} {op:BoolOp} {a:Expr} {pos:Pos} {t:TE} (h:PE X a t):PE X (.BoolOp op [a] pos) t:=by
 intro pins s σ H Q I hw
 have:=h pins s σ H Q I hw
 cases op <;> exact this
theorem s_callF {E:XK} {X:Cx} {lc:LC} {sc:Scope} {N:List Str} (T0:TB G P W k cx) (hX:XI G E k X lc sc N) {f:Nat} {x:Str} {as:I.Es} {args:List Expr} {np pos:Pos} (hf:cx.fn f=some (x,esLen as)) (hg:gloB sc x=true) (hk:okN x=true) (hne:args.isEmpty=false)
  (ha:PA X args (Ts G E P (I.call P W k) as)) (hst:∀ e∈args,noStar e=true):PE X (.Call (.Name x np) args [] pos) (tCall (spF G P W k f (esLen as)) [] E (Ts G E P (I.call P W k) as)):=by
 obtain ⟨ps,C⟩:=T0.fns f x _ hf
 cases args with
 | nil=>cases hne
 | cons e es =>
  have C':CalE X.prog X.w X.K X.mg X.base x (2 * k) ps (spF G P W k f (esLen as)):=by rw [hX.prog,hX.w,hX.K,hX.mg,hX.base]; exact C
  exact pe_calE C' (hX.room.mono (by omega)) hX.pass ha (hX.sc.glo x hg) (star_of (hst e (.head _))) (nostars fun z hz=>hst z (.tail _ hz)) (okN_d hk).1
noncomputable def SE (G:GI) (P:I.Pg) (W k:Nat) (E:XK) (X:Cx) (a:I.E) (e:Expr):Prop:=PE X e (T G E P (I.call P W k) a)∧(frO a=true→PE X e (TF G E P (I.call P W k) a))∧(okT e=true→wrap a=false→PT X e (TCo G E P (I.call P W k) (.e a)))
theorem notE {α:Type} {l:List α} (h:(!l.isEmpty)=true):l.isEmpty=false:=by cases l <;> first | exact no h | rfl
theorem SE.of {E:XK} {X:Cx} {lc:LC} {sc:Scope} {N:List Str} {a:I.E} {e:Expr} (hX:XI G E k X lc sc N) (h1:PE X e (T G E P (I.call P W k) a)) (h2:frO a=true→PE X e (TF G E P (I.call P W k) a)) (hc:isCmp e=false):SE G P W k E X a e :=
 ⟨h1,h2,fun z _=>c_e hX.K h1 (plainT_of (by unfold okT at z; rw [hc,Bool.or_false] at z; exact z))⟩
theorem SE.of1 {E:XK} {X:Cx} {lc:LC} {sc:Scope} {N:List Str} {a:I.E} {e:Expr} (hX:XI G E k X lc sc N) (h1:PE X e (T G E P (I.call P W k) a)) (hf:frO a=false) (hc:isCmp e=false):SE G P W k E X a e :=
 .of hX h1 (fun z=>by rw [hf] at z; exact no z) hc
theorem pe_behind {X:Cx} {op:BoolOp} {y:Expr} {r:List Expr} {pos:Pos} {t:TE} (h:PE X (behind op y r pos) t):PE X (.BoolOp op (y::r) pos) t:=by
 cases r with
 | nil=>exact pe_bool1 h
 | cons _ _=>exact h
noncomputable def HE (G:GI) (P:I.Pg) (W k:Nat) (E:XK) (X:Cx) (ca:CE) (a:I.E):Prop:=∀ x,ca x=true→PE X x (T G E P (I.call P W k) a)
noncomputable def HA (G:GI) (P:I.Pg) (W k:Nat) (E:XK) (X:Cx) (ca:CA) (as:I.Es):Prop:=∀ xs,ca xs=true→PA X xs (Ts G E P (I.call P W k) as)∧(∀ e∈xs,noStar e=true)∧esLen as=xs.length
noncomputable def SQ (G:GI) (P:I.Pg) (W k:Nat) (E:XK) (X:Cx) (c:I.C) (e:Expr):Prop:=PT X e (TCo G E P (I.call P W k) c)∧(∀ op xs pos,e=.BoolOp op xs pos→PW X e (TCo G E P (I.call P W k) c))
theorem SQ.and {E:XK} {X:Cx} {c:I.C} {y:Expr} {r:List Expr} {pos:Pos} (h:SQ G P W k E X c (behind .And y r pos)):PW X (.BoolOp .And (y::r) pos) (TCo G E P (I.call P W k) c):=by
 cases r with
 | nil=>exact pw_and1 h.1
 | cons _ _=>exact h.2 _ _ _ rfl
theorem SQ.or {E:XK} {X:Cx} {c:I.C} {y:Expr} {r:List Expr} {pos:Pos} (h:SQ G P W k E X c (behind .Or y r pos)):PW X (.BoolOp .Or (y::r) pos) (TCo G E P (I.call P W k) c):=by
 cases r with
 | nil=>exact pw_or1 h.1
 | cons _ _=>exact h.2 _ _ _ rfl
theorem nilA {E:XK} {X:Cx} {as:I.Es} {args:List Expr} (h:esLen as=args.length) (z:args=[]):as=.nil:=by
 subst z
 cases as with
 | nil=>rfl
 | cons _ _=>cases h
theorem ff_of {a b:Bool} (h:(!a && !b)=true):a=false∧b=false:=by cases a <;> cases b <;> first | exact no h | exact ⟨rfl,rfl⟩
theorem tf_of {a b:Bool} (h:(a && !b)=true):a=true∧b=false:=by cases a <;> cases b <;> first | exact no h | exact ⟨rfl,rfl⟩
theorem ft_of {a b:Bool} (h:(!a&&b)=true):a=false∧b=true:=by cases a <;> cases b <;> first | exact no h | exact ⟨rfl,rfl⟩
theorem isAsI_of {a:I.E} (h:isAsI a=true):∃ b,a=.asI b:=by cases a <;> first | exact no h | exact ⟨_,rfl⟩
theorem rng_of {E:XK} {X:Cx} {es:I.Es} {args:List Expr} {np pos:Pos} {tg:Expr} (hg:Gl X "range") (hm:X.mg "range" = none) (a1:PA X args (Ts G E P (I.call P W k) es)) (a2:∀ e∈args,noStar e=true) (a3:esLen es=args.length) (h4:0<esLen es) (h5:esLen es≤3) :
  PI X tg (.Call (.Name "range" np) args [] pos) (TIr G E P (I.call P W k) (.rng es)):=by
 match es,args,a3,a1 with
 | .nil,_,_,_=>exact absurd h4 (Nat.lt_irrefl _)
 | .cons a .nil,[x],_,a1=>exact i_rng1 hg hm a1 (star_of (a2 x (.head _)))
 | .cons a (.cons b .nil),[x,y],_,a1 =>
  have s1:=star_of (es:=[]) (env:=X.env) (a2 y (.tail _ (.head _)))
  exact i_rng2 hg hm a1 (by rw [star_of (a2 x (.head _)),s1]; rfl) s1
 | .cons a (.cons b (.cons c .nil)),[x,y,z],_,a1=>exact i_rng3 hg hm a1 (star_of (a2 x (.head _))) (nostars fun e he=>a2 e (.tail _ he))
 | .cons a (.cons b (.cons c (.cons d es))),_,_,_=>exact absurd h5 (by show ¬ (esLen es+1+1+1+1≤3); omega)
theorem add_of {p:I.Pr} {op:Operator} {as:I.Es} (h:binO p=some op) (z:frO (.pr p as)=true):p=.add∧op=.Add:=by
 cases p <;> first | exact no z | (cases h; done) | (cases h; exact ⟨rfl,rfl⟩)
section
variable {E:XK} {X:Cx} {lc:LC} {sc:Scope} {N:List Str} {e:Expr} {p:I.Pr} {a b c d o:I.E} {as:I.Es} {ca cb cc cd co:CE} {cA:CA}
theorem q_v {i:Nat} (hX:XI G E k X lc sc N) (h:kV sc N i e=true):SE G P W k E X (.v i) e:=by
 obtain ⟨x,np,rfl,h⟩:=onName_of h
 obtain ⟨h,h3⟩:=and2 h
 obtain ⟨h1,h2⟩:=and2 h
 exact .of1 hX (s_var (by rw [hX.nms]; exact of_decide_eq_true h1) (hX.sc.vis x h2) (okN_d h3).1 (okN_d h3).2) rfl rfl
theorem q_c {d:D} (hX:XI G E k X lc sc N) (h:(onK e fun c=>cK d c)=true):SE G P W k E X (.c d) e:=by
 obtain ⟨c,j,pos,rfl,h⟩:=onK_of h
 refine .of1 hX ?_ rfl rfl
 cases d <;> cases c <;> first | exact no h | skip
 ·exact s_non
 ·obtain rfl:=eq_of_beq h; exact s_bl
 ·obtain rfl:=of_decide_eq_true h; exact s_int
 ·obtain rfl:=of_decide_eq_true h; exact s_str
theorem q_g {i:Nat} (T0:TB G P W k cx) (hX:XI G E k X lc sc N) (h:kG cx sc i e=true):SE G P W k E X (.g i) e:=by
 obtain ⟨x,np,rfl,h⟩:=onName_of h
 obtain ⟨h,h3⟩:=and2 h
 obtain ⟨h1,h2⟩:=and2 h
 obtain ⟨u,v,m1,m2,m3⟩:=T0.gls i x (of_decide_eq_true h1)
 exact .of1 hX (s_glob (hX.sc.glo x h2) (by rw [hX.mg]; exact m1) m2 (okN_d h3).1 m3) rfl rfl
theorem q_bm (hX:XI G E k X lc sc N) (ho:HE G P W k E X co o) (ha:HA G P W k E X cA as) (h:kBm p co cA e=true):SE G P W k E X (.bm p o as) e:=by
 obtain ⟨o',m,args,ap,cp,rfl,h⟩:=onMC_of h
 obtain ⟨h,h6⟩:=and2 h
 obtain ⟨h,h5⟩:=and2 h
 obtain ⟨h,h4⟩:=and2 h
 obtain ⟨h,h3⟩:=and2 h
 obtain ⟨h1,h2⟩:=and2 h
 obtain ⟨a1,a2,a3⟩:=ha _ h3
 exact .of1 hX (s_met hX (of_decide_eq_true h1) (ho _ h2) a1 h4 a2 h5 (of_decide_eq_true h6) (nilA (E:=E) (X:=X) a3)) rfl rfl
theorem q_cl {f:Nat} {a:I.E} (T0:TB G P W k cx) (hX:XI G E k X lc sc N) (ha:HA G P W k E X cA as) (h:kCl cx sc f (esLen as) cA e=true) (hf:frO a=false) (ht:∀ {x np args pos},PE X (.Call (.Name x np) args [] pos) (tCall (spF G P W k f (esLen as)) [] E (Ts G E P (I.call P W k) as))→PE X (.Call (.Name x np) args [] pos) (T G E P (I.call P W k) a)):SE G P W k E X a e:=by
 obtain ⟨x,np,args,pos,rfl,h⟩:=onNC_of h
 obtain ⟨h,h5⟩:=and2 h
 obtain ⟨h,h4⟩:=and2 h
 obtain ⟨h,h3⟩:=and2 h
 obtain ⟨h1,h2⟩:=and2 h
 obtain ⟨a1,a2,a3⟩:=ha _ h5
 exact .of1 hX (ht (s_callF T0 hX (of_decide_eq_true h1) h2 h3 (notE h4) a1 a2)) hf rfl
theorem q_and (hX:XI G E k X lc sc N) (ha:HE G P W k E X ca a) (hb:HE G P W k E X cb b) (h:kAnd ca cb e=true):SE G P W k E X (.and a b) e:=by
 obtain ⟨op,x,y,r,pos,rfl,h⟩:=onBool_of h
 obtain ⟨rfl,h⟩:=onAnd_of h
 obtain ⟨h1,h2⟩:=and2 h
 exact .of1 hX (s_and (ha _ h1) (pe_behind (hb _ h2))) rfl rfl
theorem q_or (hX:XI G E k X lc sc N) (ha:HE G P W k E X ca a) (hb:HE G P W k E X cb b) (h:kOr ca cb e=true):SE G P W k E X (.or a b) e:=by
 obtain ⟨op,x,y,r,pos,rfl,h⟩:=onBool_of h
 obtain ⟨rfl,h⟩:=onOr_of h
 obtain ⟨h1,h2⟩:=and2 h
 exact .of1 hX (s_or (ha _ h1) (pe_behind (hb _ h2))) rfl rfl
theorem q_not (hX:XI G E k X lc sc N) (ha:HE G P W k E X ca a) (h:kNot ca e=true):SE G P W k E X (.not a) e:=by
 obtain ⟨op,x,pos,rfl,h⟩:=onUn_of h
 obtain ⟨rfl,h⟩:=onNot_of h
 exact .of1 hX (s_not (ha _ h)) rfl rfl
theorem q_if {c:I.C} (hX:XI G E k X lc sc N) (hc:∀ x,cc x=true→PT X x (TCo G E P (I.call P W k) c)) (ha:HE G P W k E X ca a) (hb:HE G P W k E X cb b) (h:kIf cc ca cb e=true):SE G P W k E X (.ite c a b) e:=by
 obtain ⟨c',a',b',pos,rfl,h⟩:=onIf_of h
 obtain ⟨h,h3⟩:=and2 h
 obtain ⟨h1,h2⟩:=and2 h
 exact .of1 hX (s_ite (hc _ h1) (ha _ h2) (hb _ h3)) rfl rfl
theorem q_lst (hX:XI G E k X lc sc N) (ha:HA G P W k E X cA as) (h:kLs (esLen as) cA e=true):SE G P W k E X (.lst as) e:=by
 obtain ⟨xs,pos,rfl,h⟩:=onLst_of h
 obtain ⟨h1,h2⟩:=and2 h
 have F:=s_lstF (G:=G) (E:=E) (P:=P) (KO:=I.call P W k) (pos:=pos) (ha _ h1).1 (of_decide_eq_true h2)
 exact .of hX (s_froze F lst_is) (fun _=>F) rfl
theorem q_c2 {o1 o2:I.Cop} (hX:XI G E k X lc sc N) (ha:HE G P W k E X ca a) (hb:HE G P W k E X cb b) (hc:HE G P W k E X cc c) (h:kC2 o1 o2 ca cb cc e=true):SE G P W k E X (.chain o1 o2 a b c) e:=by
 obtain ⟨x,ops,ys,pos,rfl,h⟩:=onCmp_of h
 obtain ⟨op,op',rfl,h⟩:=on2_of h
 obtain ⟨y,z,rfl,h⟩:=on2_of h
 obtain ⟨h,h5⟩:=and2 h
 obtain ⟨h,h4⟩:=and2 h
 obtain ⟨h,h3⟩:=and2 h
 obtain ⟨h1,h2⟩:=and2 h
 obtain ⟨⟨r,p1,p2⟩,_⟩:=cmpTab hX (of_decide_eq_true h1)
 obtain ⟨⟨r',p1',p2'⟩,p3⟩:=cmpTab hX (of_decide_eq_true h2)
 obtain ⟨q1,q2⟩:=s_chain p1 p2 p1' p2' (ha _ h3) (hb _ h4) (hc _ h5) (p3 z)
 exact ⟨q1,fun z=>no z,fun _ _=>q2⟩
theorem q_c3 {o1 o2 o3:I.Cop} (hX:XI G E k X lc sc N) (ha:HE G P W k E X ca a) (hb:HE G P W k E X cb b) (hc:HE G P W k E X cc c) (hd:HE G P W k E X cd d) (h:kC3 o1 o2 o3 ca cb cc cd e=true):SE G P W k E X (.chain3 o1 o2 o3 a b c d) e:=by
 obtain ⟨x,ops,ys,pos,rfl,h⟩:=onCmp_of h
 obtain ⟨p1,p2,p3,rfl,h⟩:=on3_of h
 obtain ⟨y,z,u,rfl,h⟩:=on3_of h
 obtain ⟨h,h7⟩:=and2 h
 obtain ⟨h,h6⟩:=and2 h
 obtain ⟨h,h5⟩:=and2 h
 obtain ⟨h,h4⟩:=and2 h
 obtain ⟨h,h3⟩:=and2 h
 obtain ⟨h1,h2⟩:=and2 h
 obtain ⟨⟨_,a1,a2⟩,_⟩:=cmpTab hX (of_decide_eq_true h1)
 obtain ⟨⟨_,b1,b2⟩,_⟩:=cmpTab hX (of_decide_eq_true h2)
 obtain ⟨⟨_,c1,c2⟩,c3⟩:=cmpTab hX (of_decide_eq_true h3)
 obtain ⟨q1,q2⟩:=s_chain3 a1 a2 b1 b2 c1 c2 (ha _ h4) (hb _ h5) (hc _ h6) (hd _ h7) (c3 u)
 exact ⟨q1,fun z=>no z,fun _ _=>q2⟩
theorem q_cm {nl:Nat} {fr:List Nat} {t:I.Tg} {it:I.It} {cd:I.C} {el:I.E} {ci:Expr→CE} {cc:Scope→List Str→CA} {ce:Scope→List Str→CE} (hX:XI G E k X lc sc N) (hi:∀ tg x,ci tg x=true→PI X tg x (TIr G E P (I.call P W k) it))
  (hc:∀ {X' s n},XI G E0 k X' lc0 s n→∀ es,cc s n es=true→PTs X' es (TCo G E0 P (I.call P W k) cd)) (he:∀ {X' s n},XI G E0 k X' lc0 s n→∀ x,ce s n x=true→PE X' x (T G E0 P (I.call P W k) el)) (h:kCm sc N nl fr t ci cc ce e=true):SE G P W k E X (.comp nl fr t it cd el) e:=by
 obtain ⟨elt,gs,scope,pos,rfl,h⟩:=onComp_of h
 obtain ⟨g,rfl,h⟩:=on1_of h
 obtain ⟨tg,iter,ifs,n⟩:=g
 obtain ⟨h,h7⟩:=and2 h
 obtain ⟨h,h6⟩:=and2 h
 obtain ⟨h,h5⟩:=and2 h
 obtain ⟨h,h4⟩:=and2 h
 obtain ⟨h,h3⟩:=and2 h
 obtain ⟨h,h2⟩:=and2 h
 obtain ⟨h0,h1⟩:=and2 h
 obtain rfl:=of_decide_eq_true h0
 obtain ⟨cs,nd⟩:=comp_k h1 hX
 have F:=s_compF (pos:=pos) cs hX.calm (hi _ _ h4) (fun fp s2 H2 C=>cT (hX.comp nd) t tg h5) (fun fp s2 H2 C=>hc (hX.comp nd) _ h6) (fun fp s2 H2 C=>he (hX.comp nd) _ h7) (set_of h3) h2
 exact .of hX (s_froze F comp_is) (fun _=>F) rfl
theorem q_cmX {nl:Nat} {fr:List Nat} {t:I.Tg} {it:I.It} {cd:I.C} {el:I.E} {ci:Expr→CE} {cc:Scope→List Str→CA} {ce:Scope→List Str→CE} (hX:XI G E k X lc sc N) (hlc:lc.c=true) (hi:∀ tg x,ci tg x=true→PI X tg x (TIr G E P (I.call P W k) it))
  (hc:∀ {X' s n},XI G E k X' lc0 s n→∀ es,cc s n es=true→PTs X' es (TCo G E P (I.call P W k) cd)) (he:∀ {X' s n},XI G E k X' lc0 s n→∀ x,ce s n x=true→PE X' x (T G E P (I.call P W k) el)) (h:kCm sc N nl fr t ci cc ce e=true):SE G P W k E X (.compX nl fr t it cd el) e:=by
 obtain ⟨elt,gs,scope,pos,rfl,h⟩:=onComp_of h
 obtain ⟨g,rfl,h⟩:=on1_of h
 obtain ⟨tg,iter,ifs,n⟩:=g
 obtain ⟨h,h7⟩:=and2 h
 obtain ⟨h,h6⟩:=and2 h
 obtain ⟨h,h5⟩:=and2 h
 obtain ⟨h,h4⟩:=and2 h
 obtain ⟨h,h3⟩:=and2 h
 obtain ⟨h,h2⟩:=and2 h
 obtain ⟨h0,h1⟩:=and2 h
 obtain rfl:=of_decide_eq_true h0
 obtain ⟨cs,nd⟩:=comp_k h1 hX
 have F:=s_compFX (hX.ph hlc) (pos:=pos) cs hX.calm (hi _ _ h4) (fun fp s2 H2 C=>cT (hX.compE nd) t tg h5) (fun fp s2 H2 C=>hc (hX.compE nd) _ h6) (fun fp s2 H2 C=>he (hX.compE nd) _ h7) (set_of h3) h2
 exact .of hX (s_froze F comp_isX) (fun _=>F) rfl
theorem q_orS (hX:XI G E k X lc sc N) (ha:HE G P W k E X ca a) (hb:HE G P W k E X cb b) (h:kOr ca cb e=true):SE G P W k E X (.orS a b) e:=by
 obtain ⟨op,x,y,r,pos,rfl,h⟩:=onBool_of h
 obtain ⟨rfl,h⟩:=onOr_of h
 obtain ⟨h1,h2⟩:=and2 h
 exact .of1 hX (s_orS (ha _ h1) (pe_behind (hb _ h2))) rfl rfl
theorem q_ng (hX:XI G E k X lc sc N) (ha:HE G P W k E X ca a) (h:kNg p ca e=true):SE G P W k E X (.pr p (.cons a .nil)) e:=by
 obtain ⟨op,x,pos,rfl,h⟩:=onUn_of h
 obtain ⟨rfl,h⟩:=onUSub_of h
 obtain ⟨rfl,h⟩:=onNeg_of h
 exact .of1 hX (s_un un_neg v_neg (ha _ h)) rfl rfl
theorem q_s0 (hX:XI G E k X lc sc N) (ha:HE G P W k E X ca a) (h:kS0 p ca e=true):SE G P W k E X (.pr p (.cons a .nil)) e:=by
 obtain ⟨x,i,pos,rfl,h⟩:=onSub_of h
 obtain ⟨l,u,p2,rfl,h⟩:=onSli_of h
 obtain ⟨rfl,h⟩:=onN_of h
 obtain ⟨rfl,h⟩:=onN_of h
 obtain ⟨b1,b2,rfl,h⟩:=onSl_of h
 obtain ⟨h,h1⟩:=and2 h
 obtain ⟨rfl,rfl⟩:=ff_of h
 obtain ⟨r1,r2⟩:=s_sl0 (p2:=p2) (pos:=pos) hX.K (ha _ h1)
 exact .of hX r1 (fun _=>r2) rfl
theorem q_b1 (T0:TB G P W k cx) (hX:XI G E k X lc sc N) (ha:HE G P W k E X ca a) (h:kB1 sc p ca e=true):SE G P W k E X (.pr p (.cons a .nil)) e:=by
 obtain ⟨x,np,args,pos,rfl,h⟩:=onNC_of h
 obtain ⟨y,rfl,h⟩:=on1_of h
 obtain ⟨h,h5⟩:=and2 h
 obtain ⟨h,h4⟩:=and2 h
 obtain ⟨h,h3⟩:=and2 h
 obtain ⟨h1,h2⟩:=and2 h
 have hs:=star_of (es:=[]) (env:=X.env) h4
 obtain ⟨r1,r2⟩:=s_cal (np:=np) (pos:=pos) T0 hX (of_decide_eq_true h1) h2 h3 (s_cons (ha _ h5) s_nil hs) hs rfl
 exact .of hX r1 r2 rfl
theorem q_in (T0:TB G P W k cx) (hX:XI G E k X lc sc N) (ha:HE G P W k E X ca a) (h:kIn sc p ca e=true):SE G P W k E X (.pr p (.cons a .nil)) e:=by
 obtain ⟨x,np,args,pos,rfl,h⟩:=onNC_of h
 obtain ⟨y,t,rfl,h⟩:=on2_of h
 obtain ⟨t,tp,rfl,h⟩:=onName_of h
 obtain ⟨ty,rfl,h⟩:=onInst_of h
 obtain ⟨h,h6⟩:=and2 h
 obtain ⟨h,h5⟩:=and2 h
 obtain ⟨h,h4⟩:=and2 h
 obtain ⟨h,h3⟩:=and2 h
 obtain ⟨h1,h2⟩:=and2 h
 obtain rfl:=of_decide_eq_true h1
 exact .of1 hX (s_inst T0 hX (hX.sc.glo _ h2) (hX.sc.glo _ h4) (of_decide_eq_true h3) (ha _ h6) h5) rfl rfl
theorem q_bi (hX:XI G E k X lc sc N) (ha:HE G P W k E X ca a) (hb:HE G P W k E X cb b) (h:kBi p ca cb e=true):SE G P W k E X (.pr p (.cons a (.cons b .nil))) e:=by
 obtain ⟨x,op,y,pos,rfl,h⟩:=onBin_of h
 obtain ⟨h,h3⟩:=and2 h
 obtain ⟨h1,h2⟩:=and2 h
 have ha:=ha _ h2
 have hb:=hb _ h3
 have h1:=of_decide_eq_true h1
 obtain ⟨r,o1,o2⟩:=opTab hX h1
 refine .of hX (s_op o1 o2 ha hb) (fun z => ?_) rfl
 obtain ⟨rfl,rfl⟩:=add_of h1 z
 exact PE.weak (pe_op (op_addA hX.K) ha hb) (t_opF v_addF)
theorem q_c1 (hX:XI G E k X lc sc N) (ha:HE G P W k E X ca a) (hb:HE G P W k E X cb b) (h:kC1 p ca cb e=true):SE G P W k E X (.pr p (.cons a (.cons b .nil))) e:=by
 obtain ⟨x,ops,ys,pos,rfl,h⟩:=onCmp_of h
 obtain ⟨op,rfl,h⟩:=on1_of h
 obtain ⟨y,rfl,h⟩:=on1_of h
 obtain ⟨o,rfl,h⟩:=onCo_of h
 obtain ⟨h,h3⟩:=and2 h
 obtain ⟨h1,h2⟩:=and2 h
 obtain ⟨⟨r,o1,o2⟩,o3⟩:=cmpTab' hX h1
 exact ⟨s_cmp o1 o2 (ha _ h2) (hb _ h3) o3,fun z=>no z,fun _ _=>c_cmp o1 o2 (ha _ h2) (hb _ h3) o3⟩
theorem q_sl (hX:XI G E k X lc sc N) (ha:HE G P W k E X ca a) (hb:HE G P W k E X cb b) (h:kSl p ca cb e=true):SE G P W k E X (.pr p (.cons a (.cons b .nil))) e:=by
 obtain ⟨x,i,pos,rfl,h⟩:=onSub_of h
 obtain ⟨l,u,p2,rfl,h⟩:=onSli_of h
 obtain ⟨l,rfl,h⟩:=onS_of h
 obtain ⟨rfl,h⟩:=onN_of h
 obtain ⟨b1,b2,rfl,h⟩:=onSl_of h
 obtain ⟨h,h2⟩:=and2 h
 obtain ⟨h,h1⟩:=and2 h
 obtain ⟨rfl,rfl⟩:=tf_of h
 obtain ⟨r1,r2⟩:=s_slL (p2:=p2) (pos:=pos) hX.K (ha _ h1) (hb _ h2)
 exact .of hX r1 (fun _=>r2) rfl
theorem q_su (hX:XI G E k X lc sc N) (ha:HE G P W k E X ca a) (hb:HE G P W k E X cb b) (h:kSu p ca cb e=true):SE G P W k E X (.pr p (.cons a (.cons b .nil))) e:=by
 obtain ⟨x,i,pos,rfl,h⟩:=onSub_of h
 obtain ⟨l,u,p2,rfl,h⟩:=onSli_of h
 obtain ⟨rfl,h⟩:=onN_of h
 obtain ⟨u,rfl,h⟩:=onS_of h
 obtain ⟨b1,b2,rfl,h⟩:=onSl_of h
 obtain ⟨h,h2⟩:=and2 h
 obtain ⟨h,h1⟩:=and2 h
 obtain ⟨rfl,rfl⟩:=ft_of h
 obtain ⟨r1,r2⟩:=s_slU (p2:=p2) (pos:=pos) hX.K (ha _ h1) (hb _ h2)
 exact .of hX r1 (fun _=>r2) rfl
theorem q_ix (hX:XI G E k X lc sc N) (ha:HE G P W k E X ca a) (hb:HE G P W k E X cb b) (h:kIx p ca cb e=true):SE G P W k E X (.pr p (.cons a (.cons b .nil))) e:=by
 obtain ⟨x,i,pos,rfl,h⟩:=onSub_of h
 obtain ⟨rfl,h⟩:=onIx_of h
 obtain ⟨h,h3⟩:=and2 h
 obtain ⟨h1,h2⟩:=and2 h
 exact .of1 hX (s_ix (ix_all hX.K hX.units1) v_ix (ha _ h2) (hb _ h3) (plainIx_of h1)) rfl rfl
theorem q_b2 (T0:TB G P W k cx) (hX:XI G E k X lc sc N) (ha:HE G P W k E X ca a) (hb:HE G P W k E X cb b) (h:kB2 sc p ca cb e=true):SE G P W k E X (.pr p (.cons a (.cons b .nil))) e:=by
 obtain ⟨x,np,args,pos,rfl,h⟩:=onNC_of h
 obtain ⟨y,z,rfl,h⟩:=on2_of h
 obtain ⟨h,h7⟩:=and2 h
 obtain ⟨h,h6⟩:=and2 h
 obtain ⟨h,h5⟩:=and2 h
 obtain ⟨h,h4⟩:=and2 h
 obtain ⟨h,h3⟩:=and2 h
 obtain ⟨h1,h2⟩:=and2 h
 have s2:=star_of (es:=[]) (env:=X.env) h5
 have s1:=star_of (es:=[z]) (env:=X.env) h4
 obtain ⟨r1,r2⟩:=s_cal (np:=np) (pos:=pos) T0 hX (of_decide_eq_true h1) h2 h3 (s_cons (ha _ h6) (s_cons (hb _ h7) s_nil s2) s1) s1 (nostars fun e he=>by cases he with | head=>exact h5 | tail _ he=>cases he)
 exact .of hX r1 r2 rfl
theorem q_sb (hX:XI G E k X lc sc N) (ha:HE G P W k E X ca a) (hb:HE G P W k E X cb b) (hc:HE G P W k E X cc c) (h:kSb p (isAsI b) ca cb cc e=true):SE G P W k E X (.pr p (.cons a (.cons b (.cons c .nil)))) e:=by
 obtain ⟨x,i,pos,rfl,h⟩:=onSub_of h
 obtain ⟨l,u,p2,rfl,h⟩:=onSli_of h
 obtain ⟨l,rfl,h⟩:=onS_of h
 obtain ⟨u,rfl,h⟩:=onS_of h
 obtain ⟨b1,b2,rfl,h⟩:=onSl_of h
 obtain ⟨h,h4⟩:=and2 h
 obtain ⟨h,h3⟩:=and2 h
 obtain ⟨h,h2⟩:=and2 h
 obtain ⟨h,h1⟩:=and2 h
 obtain ⟨rfl,rfl⟩:=and2 h
 obtain ⟨b',rfl⟩:=isAsI_of h1
 obtain ⟨r1,r2⟩:=s_slB (p2:=p2) (pos:=pos) hX.K (ha _ h2) (hb _ h3) (hc _ h4)
 exact .of hX r1 (fun _=>r2) rfl
theorem q_es (ha:HE G P W k E X ca a) (hA:HA G P W k E X cA as) {es:List Expr} (h:kEs ca cA es=true):PA X es (Ts G E P (I.call P W k) (.cons a as))∧(∀ e∈es,noStar e=true)∧esLen (.cons a as)=es.length:=by
 obtain ⟨e,es,rfl,h⟩:=onCons_of h
 obtain ⟨h,h3⟩:=and2 h
 obtain ⟨h1,h2⟩:=and2 h
 obtain ⟨i1,i2,i3⟩:=hA es h3
 refine ⟨s_cons (ha _ h2) i1 (star_of h1),fun z hz => ?_,congrArg (· + 1) i3⟩
 cases hz with
 | head=>exact h1
 | tail _ hz=>exact i2 z hz
theorem w_and {a b:I.C} (ha:∀ x,ca x=true→SQ G P W k E X a x) (hb:∀ x,cb x=true→SQ G P W k E X b x) (h:kAnd ca cb e=true):SQ G P W k E X (.and a b) e:=by
 obtain ⟨op,x,y,r,pos,rfl,h⟩:=onBool_of h
 obtain ⟨rfl,h⟩:=onAnd_of h
 obtain ⟨h1,h2⟩:=and2 h
 have F:=c_and (pos:=pos) (ha x h1).1 (SQ.and (hb _ h2))
 exact ⟨F.pt,fun _ _ _ _=>F⟩
theorem w_or {a b:I.C} (ha:∀ x,ca x=true→SQ G P W k E X a x) (hb:∀ x,cb x=true→SQ G P W k E X b x) (h:kOr ca cb e=true):SQ G P W k E X (.or a b) e:=by
 obtain ⟨op,x,y,r,pos,rfl,h⟩:=onBool_of h
 obtain ⟨rfl,h⟩:=onOr_of h
 obtain ⟨h1,h2⟩:=and2 h
 have F:=c_or (pos:=pos) (ha x h1).1 (SQ.or (hb _ h2))
 exact ⟨F.pt,fun _ _ _ _=>F⟩
theorem w_not {a:I.C} (ha:∀ x,ca x=true→SQ G P W k E X a x) (h:kNot ca e=true):SQ G P W k E X (.not a) e:=by
 obtain ⟨op,x,pos,rfl,h⟩:=onUn_of h
 obtain ⟨rfl,h⟩:=onNot_of h
 exact ⟨c_not (ha x h).1,fun op xs pos z=>nomatch z⟩
theorem w_e (ha:∀ x,ca x=true→SE G P W k E X a x) (h:(okT e && !wrap a&&ca e)=true):SQ G P W k E X (.e a) e:=by
 obtain ⟨h,h3⟩:=and2 h
 obtain ⟨h1,h2⟩:=and2 h
 exact ⟨(ha e h3).2.2 h1 (by cases hw:wrap a <;> first | rfl | (rw [hw] at h2; exact no h2)),fun op xs pos z=>by subst z; exact no h1⟩
theorem one_of {c:I.C} {es:List Expr} {q:Expr→Bool} (hq:∀ x,q x=true→SQ G P W k E X c x) (h:on1 es q=true):PTs X es (TCo G E P (I.call P W k) c):=by
 obtain ⟨e,rfl,h⟩:=on1_of h
 exact ts_one (hq e h).1
theorem q_rn {tg:Expr} (T0:TB G P W k cx) (hX:XI G E k X lc sc N) (hA:HA G P W k E X cA as) (h:kRn sc (esLen as) cA e=true):PI X tg e (TIr G E P (I.call P W k) (.rng as)):=by
 obtain ⟨x,np,args,pos,rfl,h⟩:=onNC_of h
 obtain ⟨h,h3⟩:=and2 h
 obtain ⟨h,h5⟩:=and2 h
 obtain ⟨h,h4⟩:=and2 h
 obtain ⟨h1,h2⟩:=and2 h
 obtain rfl:=of_decide_eq_true h1
 obtain ⟨a1,a2,a3⟩:=hA _ h3
 exact rng_of (hX.sc.glo _ h2) (hX.nb T0 (x := "range") (by decide)) a1 a2 a3 (of_decide_eq_true h4) (of_decide_eq_true h5)
end
mutual
theorem sE (T0:TB G P W k cx):∀ (a:I.E) {E:XK} {X:Cx} {lc:LC} {sc:Scope} {N:List Str} (e:Expr),XI G E k X lc sc N→chkE cx lc sc N a e=true→SE G P W k E X a e
 | .v i,E,X,lc,sc,N,e,hX,h=>q_v hX h
 | .c d,E,X,lc,sc,N,e,hX,h=>q_c hX h
 | .g i,E,X,lc,sc,N,e,hX,h=>q_g T0 hX h
 | .pr p es,E,X,lc,sc,N,e,hX,h=>sP T0 p es e hX h
 | .bm p o es,E,X,lc,sc,N,e,hX,h=>q_bm hX (fun x z=>(sE T0 o x hX z).1) (fun xs z=>sEs T0 es xs hX z) h
 | .call f es,E,X,lc,sc,N,e,hX,h=>q_cl T0 hX (fun xs z=>sEs T0 es xs hX z) h rfl (fun z=>PE.weak z (t_call rfl))
 | .callP f es,E,X,lc,sc,N,e,hX,h=>q_cl T0 hX (fun xs z=>sEs T0 es xs hX z) h rfl (fun z=>PE.weak z (t_callP rfl))
 | .and a b,E,X,lc,sc,N,e,hX,h=>q_and hX (fun x z=>(sE T0 a x hX z).1) (fun x z=>(sE T0 b x hX z).1) h
 | .or a b,E,X,lc,sc,N,e,hX,h=>q_or hX (fun x z=>(sE T0 a x hX z).1) (fun x z=>(sE T0 b x hX z).1) h
 | .not a,E,X,lc,sc,N,e,hX,h=>q_not hX (fun x z=>(sE T0 a x hX z).1) h
 | .ite c a b,E,X,lc,sc,N,e,hX,h=>q_if hX (fun x z=>(sC T0 c x hX z).1) (fun x z=>(sE T0 a x hX z).1) (fun x z=>(sE T0 b x hX z).1) h
 | .tup es,E,X,lc,sc,N,e,hX,h=>no h
 | .lst es,E,X,lc,sc,N,e,hX,h=>q_lst hX (fun xs z=>sEs T0 es xs hX z) h
 | .cell a,E,X,lc,sc,N,e,hX,h=>⟨s_cell ((sE T0 a e hX (and2 h).2).2.1 (and2 h).1),fun z=>no z,fun _ z=>nomatch z⟩
 | .dict t,E,X,lc,sc,N,e,hX,h=>no h
 | .fz a,E,X,lc,sc,N,e,hX,h=>⟨s_fz (sE T0 a e hX h).1,fun z=>no z,fun _ z=>nomatch z⟩
 | .asI a,E,X,lc,sc,N,e,hX,h=>⟨s_asI (sE T0 a e hX h).1,fun z=>no z,fun _ z=>nomatch z⟩
 | .comp nl fr t it cd el,E,X,lc,sc,N,e,hX,h=>q_cm hX (fun tg x z=>sI T0 it tg x hX z) (fun hX' es z=>sCo T0 cd es hX' z) (fun hX' x z=>(sE T0 el x hX' z).1) h
 | .compX nl fr t it cd el,E,X,lc,sc,N,e,hX,h=>q_cmX hX (and2 h).1 (fun tg x z=>sI T0 it tg x hX z) (fun hX' es z=>sCo T0 cd es hX' z) (fun hX' x z=>(sE T0 el x hX' z).1) (and2 h).2
 | .orS a b,E,X,lc,sc,N,e,hX,h=>q_orS hX (fun x z=>(sE T0 a x hX z).1) (fun x z=>(sE T0 b x hX z).1) h
 | .meth m o es,E,X,lc,sc,N,e,hX,h=>no h
 | .methP m o es,E,X,lc,sc,N,e,hX,h=>no h
 | .mk c es,E,X,lc,sc,N,e,hX,h=>no h
 | .fld o f,E,X,lc,sc,N,e,hX,h=>no h
 | .chain o1 o2 a b c,E,X,lc,sc,N,e,hX,h=>q_c2 hX (fun x z=>(sE T0 a x hX z).1) (fun x z=>(sE T0 b x hX z).1) (fun x z=>(sE T0 c x hX z).1) h
 | .chain3 o1 o2 o3 a b c d,E,X,lc,sc,N,e,hX,h=>q_c3 hX (fun x z=>(sE T0 a x hX z).1) (fun x z=>(sE T0 b x hX z).1) (fun x z=>(sE T0 c x hX z).1) (fun x z=>(sE T0 d x hX z).1) h
 | .sortK _ _,E,X,lc,sc,N,e,hX,h=>no h
theorem sP (T0:TB G P W k cx) (p:I.Pr):∀ (as:I.Es) {E:XK} {X:Cx} {lc:LC} {sc:Scope} {N:List Str} (e:Expr),XI G E k X lc sc N→chkP cx lc sc N p as e=true→SE G P W k E X (.pr p as) e
 | .nil,E,X,lc,sc,N,e,hX,h=>no h
 | .cons a .nil,E,X,lc,sc,N,e,hX,h =>
  have ha:HE G P W k E X (chkE cx lc sc N a) a:=fun x z=>(sE T0 a x hX z).1
  (or2 h).elim (q_ng hX ha) fun h=>(or2 h).elim (q_s0 hX ha) fun h=>(or2 h).elim (q_b1 T0 hX ha) (q_in T0 hX ha)
 | .cons a (.cons b .nil),E,X,lc,sc,N,e,hX,h =>
  have ha:HE G P W k E X (chkE cx lc sc N a) a:=fun x z=>(sE T0 a x hX z).1
  have hb:HE G P W k E X (chkE cx lc sc N b) b:=fun x z=>(sE T0 b x hX z).1
  (or2 h).elim (q_bi hX ha hb) fun h=>(or2 h).elim (q_c1 hX ha hb) fun h=>(or2 h).elim (q_sl hX ha hb) fun h=>(or2 h).elim (q_su hX ha hb) fun h=>(or2 h).elim (q_ix hX ha hb) (q_b2 T0 hX ha hb)
 | .cons a (.cons b (.cons c .nil)),E,X,lc,sc,N,e,hX,h=>q_sb hX (fun x z=>(sE T0 a x hX z).1) (fun x z=>(sE T0 b x hX z).1) (fun x z=>(sE T0 c x hX z).1) h
 | .cons a (.cons b (.cons c (.cons d r))),E,X,lc,sc,N,e,hX,h=>no h
theorem sEs (T0:TB G P W k cx):∀ (as:I.Es) {E:XK} {X:Cx} {lc:LC} {sc:Scope} {N:List Str} (es:List Expr),XI G E k X lc sc N→chkEs cx lc sc N as es=true →
  PA X es (Ts G E P (I.call P W k) as)∧(∀ e∈es,noStar e=true)∧esLen as=es.length
 | .nil,E,X,lc,sc,N,es,hX,h=>by
  obtain ⟨rfl,_⟩:=on0_of h
  exact ⟨s_nil,fun _ z=>(by cases z),rfl⟩
 | .cons a as,E,X,lc,sc,N,es,hX,h=>q_es (fun x z=>(sE T0 a x hX z).1) (fun xs z=>sEs T0 as xs hX z) h
theorem sC (T0:TB G P W k cx):∀ (c:I.C) {E:XK} {X:Cx} {lc:LC} {sc:Scope} {N:List Str} (e:Expr),XI G E k X lc sc N→chkC cx lc sc N c e=true→SQ G P W k E X c e
 | .tt,E,X,lc,sc,N,e,hX,h=>no h
 | .e a,E,X,lc,sc,N,e,hX,h=>w_e (fun x z=>sE T0 a x hX z) h
 | .and a b,E,X,lc,sc,N,e,hX,h=>w_and (fun x z=>sC T0 a x hX z) (fun x z=>sC T0 b x hX z) h
 | .or a b,E,X,lc,sc,N,e,hX,h=>w_or (fun x z=>sC T0 a x hX z) (fun x z=>sC T0 b x hX z) h
 | .not a,E,X,lc,sc,N,e,hX,h=>w_not (fun x z=>sC T0 a x hX z) h
theorem sCo (T0:TB G P W k cx):∀ (c:I.C) {E:XK} {X:Cx} {sc:Scope} {N:List Str} (es:List Expr),XI G E k X lc0 sc N→chkCo cx sc N c es=true→PTs X es (TCo G E P (I.call P W k) c)
 | .tt,E,X,sc,N,es,hX,h=>by
  obtain ⟨rfl,_⟩:=on0_of h
  exact ts_nil
 | .e a,E,X,sc,N,es,hX,h=>one_of (fun y z=>w_e (fun x z=>sE T0 a x hX z) z) h
 | .and a b,E,X,sc,N,es,hX,h=>one_of (fun y z=>w_and (fun x z=>sC T0 a x hX z) (fun x z=>sC T0 b x hX z) z) h
 | .or a b,E,X,sc,N,es,hX,h=>one_of (fun y z=>w_or (fun x z=>sC T0 a x hX z) (fun x z=>sC T0 b x hX z) z) h
 | .not a,E,X,sc,N,es,hX,h=>one_of (fun y z=>w_not (fun x z=>sC T0 a x hX z) z) h
theorem sI (T0:TB G P W k cx):∀ (it:I.It) {E:XK} {X:Cx} {lc:LC} {sc:Scope} {N:List Str} (tg e:Expr),XI G E k X lc sc N→chkI cx lc sc N tg it e=true →
  PI X tg e (TIr G E P (I.call P W k) it)
 | .seq a,E,X,lc,sc,N,tg,e,hX,h=>i_seq hX.K (sE T0 a e hX h).1
 | .rng es,E,X,lc,sc,N,tg,e,hX,h=>q_rn T0 hX (fun xs z=>sEs T0 es xs hX z) h
 | .enum s a,E,X,lc,sc,N,tg,e,hX,h=>no h
 | .zip _ _,E,X,lc,sc,N,tg,e,hX,h=>no h
 | .zrev a b,E,X,lc,sc,N,tg,e,hX,h=>no h
 | .chars a,E,X,lc,sc,N,tg,e,hX,h=>i_chars (sE T0 a e hX h).1
 | .rev a,E,X,lc,sc,N,tg,e,hX,h=>no h
end
end
end IS
namespace IS
open PySem PySem.Spec L2
open PyProof.Rows hiding St
open I (D Cell OS Fr R SZ Kt Ko)
theorem onTry_of {s:Stmt} {p:Stmt→Str→Str→List Stmt→Bool} (h:onTry s p=true):∃ b x np n b0 su hp pos,s=.Try [b] [.ExceptHandler (some (.Name x np)) (some n) (b0::su) hp] [] [] pos∧p b x n (b0::su)=true:=by
 unfold onTry at h
 split at h
 ·exact ⟨_,_,_,_,_,_,_,_,rfl,h⟩
 ·exact no h
theorem onBo_of {e:Expr} {p:BoolOp→List Expr→Pos→Bool} (h:onBo e p=true):∃ op es pos,e=.BoolOp op es pos∧p op es pos=true:=by
 cases e <;> first | exact no h | exact ⟨_,_,_,rfl,h⟩
theorem tnm_of:∀ {ts:List Expr} {l:List (Str × Pos)},tnm ts=some l→ts=l.map fun t=>.Name t.1 t.2
 | [],_,h=>by cases h; rfl
 | e::r,l,h=>by
  cases e with
  | Name x p =>
   obtain ⟨l',h1,rfl⟩:=Option.map_eq_some_iff.mp (show (tnm r).map ((x,p) :: ·)=some l from h)
   rw [tnm_of h1]; rfl
  | _=>cases h
section
variable {G:GI} {E:XK} {P:I.Pg} {W k:Nat} {X Y:Cx} {lc:LC} {sc:Scope} {N:List Str} {cx:CI}
theorem XI.tryB (hX:XI G E k X lc sc N) (xe:Value→Shared→Prop) (pn:List (Addr × Obj)):XI G E0 k (X.tryB xe pn) lc sc N :=
 ⟨hX.prog,hX.w,hX.K,hX.mg,hX.base,hX.nms,hX.nd,⟨hX.sc.vis,hX.sc.glo,hX.sc.asg,hX.sc.cel⟩,hX.calm,hX.room,pass0E,hX.tab,fun _=>passH0⟩
structure HF (Y:Cx) (ea C:Addr) (oe:Obj) (sc:Scope) (N:List Str) (i:Nat) (n:Str) (kt:Str→Option Bool):Prop where
 nms:Y.N=N
 nd:N.Nodup
 sc:SC Y true sc
 pin:(ea,oe)∈Y.pn
 cls:oe.cls=.ref C
 exc:PySem.W.ExC Y.K C
 kv:PySem.W.kitOne Y.K (.ref C) (.type "ValueError")=some true
 nv:Y.mg "ValueError" = none
 ni:Y.mg "isinstance" = none
 kt:∀ x b,kt x=some b→∃ A,Y.mg x=some (.ref A)∧PySem.W.kitOne Y.K (.ref C) (.ref A)=some b
 hi:N[i]?=some n
 vn:Vis Y.env.scope n
 ok:okN n=true
variable {ea C:Addr} {oe:Obj} {i:Nat} {n:Str} {kt:Str→Option Bool} {σ:St} {κ:List (Nat × Bool)}
theorem he_ok (F:HF Y ea C oe sc N i n kt) (hσ:σ[i]?=some (some (.ref ea))) (hκ:∀ j b,κ.lookup j=some b→σ[j]?=some (some (.bl b))):∀ (h:I.HE) (e:Expr),chkHE kt sc N n κ h e=true→HT Y σ e h.val
 | .inst b,e,h=>by
  obtain ⟨f,as,kws,pos,rfl,h⟩:=onCall_of h
  obtain ⟨g,gp,rfl,h⟩:=onName_of h
  obtain ⟨rfl,h⟩:=on0_of h
  obtain ⟨h,h3⟩:=and2 h
  obtain ⟨h1,h2⟩:=and2 h
  have e1:=of_decide_eq_true h1
  subst e1
  obtain ⟨a,t,rfl,g3⟩:=on2_of h3
  obtain ⟨m,mp,rfl,g4⟩:=onName_of g3
  obtain ⟨h4,h5⟩:=and2 g4
  have e2:=of_decide_eq_true h4
  subst e2
  have hN:Y.N[i]?=some m:=by rw [F.nms]; exact F.hi
  unfold kIs at h5
  rcases or2 h5 with h5 | h5
  ·obtain ⟨x,xp,rfl,h5⟩:=onName_of h5
   rcases or2 h5 with h5 | h5
   ·obtain ⟨h5,h8⟩:=and2 h5
    obtain ⟨h6,h7⟩:=and2 h5
    have e3:=of_decide_eq_true h6
    subst e3
    cases b with
    | false=>cases h7
    | true=>exact HT.inst (w:=.ty "ValueError") F.pin F.cls F.exc (pe_bltn (F.sc.glo _ h8) F.nv PyProof.Rows.Boot.ValueError rfl) rfl F.kv hN F.vn hσ (okN_d F.ok).1 (okN_d F.ok).2 (F.sc.glo _ h2) F.ni
   ·obtain ⟨h5,h8⟩:=and2 h5
    obtain ⟨h6,h7⟩:=and2 h5
    obtain ⟨A,m1,m2⟩:=F.kt x b (of_decide_eq_true h6)
    exact HT.inst (w:=.ref A) F.pin F.cls F.exc (pe_glob (F.sc.glo _ h7) m1 rfl (okN_d h8).1) rfl m2 hN F.vn hσ (okN_d F.ok).1 (okN_d F.ok).2 (F.sc.glo _ h2) F.ni
  ·obtain ⟨ts,j,tp,rfl,h5⟩:=onTup_of h5
   obtain ⟨l,hl,h5⟩:=onS_of h5
   obtain ⟨h5,h8⟩:=and2 h5
   obtain ⟨h6,h7⟩:=and2 h5
   rw [tnm_of hl]
   have hb:=of_decide_eq_true h8
   have ha:=List.all_eq_true.mp h7
   have:=HT.instT (Y:=Y) (σ:=σ) (ts:=l) (bs:=l.map fun t=>(kt t.1).getD false) (x1:=j) (np:=mp) (cpos:=pos) (ip:=gp) (tp:=tp) F.pin F.cls F.exc F.kt (by
    rw [List.map_map]
    refine List.map_congr_left fun t ht => ?_
    have:=(and2 (and2 (ha t ht)).1).1
    show kt t.1=some ((kt t.1).getD false)
    cases e:kt t.1 with
    | none=>rw [e] at this; cases this
    | some b=>rfl) (fun t ht=>⟨F.sc.glo _ (and2 (and2 (ha t ht)).1).2,(okN_d (and2 (ha t ht)).2).1⟩) (by have:=of_decide_eq_true h6; rw [sizeLine_eq]; omega) hN F.vn hσ (okN_d F.ok).1 (okN_d F.ok).2 (F.sc.glo _ h2) F.ni
   rw [List.any_map] at this
   rw [← hb]
   exact this
 | .v j b,e,h=>by
  obtain ⟨x,xp,rfl,h⟩:=onName_of h
  obtain ⟨h,h4⟩:=and2 h
  obtain ⟨h,h3⟩:=and2 h
  obtain ⟨h1,h2⟩:=and2 h
  exact HT.var (by rw [F.nms]; exact of_decide_eq_true h1) (F.sc.vis x h2) (hκ j b (of_decide_eq_true h4)) (okN_d h3).1 (okN_d h3).2
 | .k b,e,h=>by
  obtain ⟨c,j,pos,rfl,h⟩:=onK_of h
  rw [of_decide_eq_true h]
  exact HT.k
 | .not a,e,h=>by
  obtain ⟨op,x,pos,rfl,h⟩:=onUn_of h
  obtain ⟨rfl,h⟩:=onNot_of h
  exact HT.not (he_ok F hσ hκ a x h)
 | .one a,e,h=>by
  obtain ⟨op,es,pos,rfl,h⟩:=onBo_of h
  obtain ⟨x,rfl,h⟩:=on1_of h
  exact HT.one (he_ok F hσ hκ a x h)
 | .and a b,e,h=>by
  obtain ⟨op,es,pos,rfl,h⟩:=onBo_of h
  obtain ⟨h0,h⟩:=and2 h
  obtain ⟨x,r,rfl,g⟩:=onCons_of h
  obtain ⟨y,z,rfl,g⟩:=onCons_of g
  obtain ⟨h1,h2⟩:=and2 g
  cases op with
  | And=>exact HT.and (he_ok F hσ hκ a x h1) (he_ok F hσ hκ b _ h2)
  | Or=>cases h0
 | .or a b,e,h=>by
  obtain ⟨op,es,pos,rfl,h⟩:=onBo_of h
  obtain ⟨h0,h⟩:=and2 h
  obtain ⟨x,r,rfl,g⟩:=onCons_of h
  obtain ⟨y,z,rfl,g⟩:=onCons_of g
  obtain ⟨h1,h2⟩:=and2 g
  cases op with
  | Or=>exact HT.or (he_ok F hσ hκ a x h1) (he_ok F hσ hκ b _ h2)
  | And=>cases h0
theorem hn_ok (F:HF Y ea C oe sc N i n kt) (hσ:σ[i]?=some (some (.ref ea))) (hκ:∀ j b,κ.lookup j=some b→σ[j]?=some (some (.bl b))) (h:I.HE) (e:Expr) (hh:chkHN kt sc N n κ h e=true):HTt Y σ e h.val:=by
 have pl:∀ {a:I.HE} {x:Expr},(plainT x&&chkHE kt sc N n κ a x)=true→HTt Y σ x a.val:=fun {a x} z=>(he_ok F hσ hκ a x (and2 z).2).t (plainT_of (and2 z).1)
 cases h with
 | not a =>
  obtain ⟨op,x,pos,rfl,hh⟩:=onUn_of hh
  obtain ⟨rfl,hh⟩:=onNot_of hh
  exact (pl hh).not
 | _=>exact pl hh
theorem hw_ok (F:HF Y ea C oe sc N i n kt) (hσ:σ[i]?=some (some (.ref ea))) (hκ:∀ j b,κ.lookup j=some b→σ[j]?=some (some (.bl b))):∀ (h:I.HE) (e:Expr),chkHW kt sc N n κ h e=true→HTw Y σ e h.val
 | .one a,e,h=>by
  obtain ⟨op,es,pos,rfl,h⟩:=onBo_of h
  obtain ⟨h0,h⟩:=and2 h
  obtain ⟨x,rfl,h⟩:=on1_of h
  cases op with
  | Or=>exact (hn_ok F hσ hκ a x h).one
  | And=>cases h0
 | .or a b,e,h=>by
  obtain ⟨op,es,pos,rfl,h⟩:=onBo_of h
  obtain ⟨h0,h⟩:=and2 h
  obtain ⟨x,r,rfl,g⟩:=onCons_of h
  obtain ⟨y,z,rfl,g⟩:=onCons_of g
  obtain ⟨h1,h2⟩:=and2 g
  cases op with
  | Or=>exact (hn_ok F hσ hκ a x h1).or (hw_ok F hσ hκ b _ h2)
  | And=>cases h0
 | .inst _,_,h=>no h
 | .v _ _,_,h=>no h
 | .k _,_,h=>no h
 | .not _,_,h=>no h
 | .and _ _,_,h=>no h
theorem hs_ok (F:HF Y ea C oe sc N i n kt):∀ (h:List I.HS) (ss:List Stmt) (κ:List (Nat × Bool)) (σ:St),chkHS kt sc N n i κ h ss=true→σ[i]?=some (some (.ref ea))→(∀ j b,κ.lookup j=some b→σ[j]?=some (some (.bl b)))→σ.length=N.length→HQ Y σ ss (I.runH h).1 (I.runH h).2
 | [],ss,κ,σ,h,_,_,_=>by
  obtain ⟨rfl,_⟩:=on0_of h
  exact HQ.nil
 | .set j e::hr,ss,κ,σ,h,hσ,hκ,hl=>by
  obtain ⟨s,r,rfl,h⟩:=onCons_of h
  obtain ⟨h,hr'⟩:=and2 h
  obtain ⟨t,x,pos,rfl,h⟩:=onAs_of h
  obtain ⟨y,yp,rfl,h⟩:=onName_of h
  obtain ⟨h,h5⟩:=and2 h
  obtain ⟨h,h4⟩:=and2 h
  obtain ⟨h,h3⟩:=and2 h
  obtain ⟨h1,h2⟩:=and2 h
  have hj:=of_decide_eq_true h1
  have ne:=of_decide_eq_true h4
  have hlt:j<σ.length:=by rw [hl]; exact (List.getElem?_eq_some_iff.mp hj).1
  obtain ⟨a1,a2⟩:=F.sc.asg y h2
  refine HQ.set (by rw [F.nms]; exact F.nd) (by rw [F.nms]; exact hj) a1 a2 (swap_of h3) (he_ok F hσ hκ e x h5) (hs_ok F hr r _ _ hr' ?_ (fun j' b' hb => ?_) (by rw [List.length_set]; exact hl))
  ·rw [List.getElem?_set_ne ne]; exact hσ
  ·by_cases z:j'=j
   ·subst z
    rw [List.lookup_cons,beq_self_eq_true] at hb
    cases hb
    rw [List.getElem?_set_self hlt]
   ·rw [List.lookup_cons,beq_eq_false_iff_ne.mpr z] at hb
    rw [List.getElem?_set_ne (Ne.symm z)]
    exact hκ j' b' hb
 | .skip t::hr,ss,κ,σ,h,hσ,hκ,hl=>by
  obtain ⟨s,r,rfl,h⟩:=onCons_of h
  obtain ⟨h,hr'⟩:=and2 h
  obtain ⟨e,b,els,pos,rfl,h⟩:=onIfS_of h
  obtain ⟨rfl,h⟩:=on0_of h
  obtain ⟨h1,h3⟩:=and2 h
  have ht:HTt Y σ e t.val:=(or2 h3).elim (hn_ok F hσ hκ t e) fun z=>(hw_ok F hσ hκ t e z).t
  have tv:t.val=false:=by simpa using h1
  rw [tv] at ht
  exact HQ.skipT ht (hs_ok F hr r κ σ hr' hσ hκ hl)
 | .ret e::hr,ss,κ,σ,h,hσ,hκ,hl=>by
  obtain ⟨s,r,rfl,h⟩:=onCons_of h
  obtain ⟨x,pos,rfl,h⟩:=onRet_of h
  obtain ⟨x,rfl,h⟩:=onS_of h
  exact HQ.ret (he_ok F hσ hκ e x h)
end
section
variable {G:GI} {ι:List Addr} {Hf H H':Hp} {os:OS} {σ:St} {ρ:Fr}
theorem Rel.up (r:Rel G ι Hf H os) (h:Same H H'):Rel G ι Hf H' os :=
 ⟨r.len,r.sub.trans h,fun n c hc=>let ⟨a,h1,h2,h3⟩:=r.cell n c hc; ⟨a,h1,h2,h3.ext .refl fun o q=>h a o q⟩,r.inj⟩
theorem Rf.un (o:Option V):∀ {σ:St} {ρ:Fr} (i:Nat),Rf G ι Hf σ ρ→Rf G ι Hf (σ.set i o) (ρ.set i none)
 | _,_,_,.nil=>.nil
 | _,_,0,.no r=>.no r
 | _,_,0,.so _ r=>.no r
 | _,_,i+1,.no r=>.no (Rf.un o i r)
 | _,_,i+1,.so h r=>.so h (Rf.un o i r)
theorem st_set:∀ (ρ:Fr) (j:Nat) (d:D),I.st ρ j d=ρ.set j (some d)
 | [],_,_=>rfl
 | _::_,0,_=>rfl
 | _::r,j+1,d=>congrArg (List.cons _) (st_set r j d)
theorem Rf.sets (i:Nat):∀ (ws:List (Nat × Bool)) {σ:St} {ρ:Fr},Rf G ι Hf (σ.set i none) (ρ.set i none)→Rf G ι Hf ((setsV ws σ).set i none) ((I.setsR ws ρ).set i none)
 | [],_,_,h=>h
 | (j,b)::ws,σ,ρ,h=>by
  refine Rf.sets i ws (σ:=σ.set j (some (.bl b))) (ρ:=I.st ρ j (.bl b)) ?_
  by_cases e:j=i
  ·subst e
   rw [List.set_set,st_set,List.set_set]
   exact h
  ·have:=Rf.st (.bl b) j h
   rw [st_set] at this ⊢
   rw [List.set_comm _ _ e,List.set_comm _ _ e]
   exact this
end
theorem lk_mem {α:Type} {c:Nat} {v:α}:∀ {l:List (Nat × α)},l.lookup c=some v→(c,v)∈l
 | [],h=>by cases h
 | (d,w)::r,h=>by
  rw [List.lookup_cons] at h
  by_cases e:c=d
  ·subst e
   rw [beq_self_eq_true] at h
   cases h
   exact .head _
  ·rw [beq_eq_false_iff_ne.mpr e] at h
   exact .tail _ (lk_mem h)
section
variable {G:GI} {E:XK} {P:I.Pg} {W k:Nat} {X:Cx} {lc:LC} {sc:Scope} {N:List Str} {cx:CI} {as:I.Es} {cA:CA} {s:Stmt}
theorem try_coreA {j:Nat} (T0:TB G P W k cx) (hX:XI G E k X lc sc N) (hlc:lc.c=true) (hs:X.stack=X.env::X.outer) (hf:X.env.frame=some X.env.locals) (hsc:X.env.scope=sc) {i:Nat} {hs':List (Nat × List I.HS)} {x n:Str} {b0 b1:Stmt} {su:List Stmt} {np hp pos:Pos} {pins:List (Addr × Obj)} {s:Shared} {σ:St} {H Hf:Hp} {D:Ends} {ι:List Addr} {ρ:Fr} {r:R I.D}
  (hNi:N[i]?=some n) (hln:sc.names.lookup n=some .local) (k7:gloB sc x=true) (k8:okN x=true) (k11:okN n=true) (k14:(!hs'.isEmpty)=true) (ha:∀ h∈hs',(cx.xm h.1 x&&chkHS (cx.kt h.1) sc N n i [] h.2 (b0::su))=true)
  (J0:Inv X pins σ H s) (rf:Rf G ι Hf σ ρ) (w:WR G E ι Hf (I.tryKA j i hs' ρ r) (WS G D))
  (body:∀ (xe:Value→Shared→Prop),(∀ H1 s1 e s',Inv (X.tryB xe (X.pn++pins)) [] σ H1 s1→CXE X.prog X.w X.stack H1 s1 (fun v _ H'=>∃ c p os2,r=.exc c p os2∧v=.ref (G.CA c)∧∃ ι2 Hf2,Ext ι Hf ι2 Hf2∧Rel G ι2 Hf2 H' os2) e s'→xe e s')→Inv (X.tryB xe (X.pn++pins)) [] σ H s →
   wpAny (model X.prog X.w) X.A (exec b1 X.env) (SP (X.tryB xe (X.pn++pins)) [] D) xe s) :
  wpAny (model X.prog X.w) X.A (exec (.Try [b1] [.ExceptHandler (some (.Name x np)) (some n) (b0::su) hp] [] [] pos) X.env) (SP X pins D) X.xe s:=by
 obtain ⟨c0,h0,hs0,rfl⟩:∃ c0 h0 r0,hs'=(c0,h0)::r0:=by
  cases hs' with
  | nil=>cases k14
  | cons p r0=>exact ⟨p.1,p.2,r0,rfl⟩
 obtain ⟨⟨vx,m0,_⟩,_,_⟩:=T0.hn.ex c0 x (and2 (ha _ (.head _))).1
 refine try_at (Ex:=fun v _ H'=>∃ c p os2,r=.exc c p os2∧v=.ref (G.CA c)∧∃ ι2 Hf2,Ext ι Hf ι2 Hf2∧Rel G ι2 Hf2 H' os2) (c:=vx) J0 hs hf (by rw [hX.nms]; exact hX.nd) (by rw [hX.nms]; exact hNi) (by rw [hsc]; exact hln) (by rw [hX.mg]; exact m0) body (fun cls H' hE => ?_) (hX.sc.glo _ k7) (okN_d k8).1
 ·obtain ⟨c,p,os2,rfl,rfl,ι2,Hf2,x2,r2⟩:=hE
  have w:WR G E ι Hf (I.hdl i ρ os2 (((c0,h0)::hs0).lookup c)) (WS G D):=w
  cases hlk:((c0,h0)::hs0).lookup c with
  | none=>rw [hlk] at w; exact w.elim
  | some hh =>
  rw [hlk] at w
  have hmem:(c,hh)∈(c0,h0)::hs0:=lk_mem hlk
  obtain ⟨q1,q2⟩:=and2 (ha _ hmem)
  obtain ⟨⟨vx',m1,m2⟩,m3,m4⟩:=T0.hn.ex c x q1
  rw [m0] at m1
  cases m1
  refine ⟨by rw [hX.K]; exact m2,fun a oe pn s7 na hpn hoe J => ?_⟩
  have F:HF (X.tryH a pn) a (G.CA c) oe sc N i n (cx.kt c) :=
   ⟨hX.nms,hX.nd,⟨hX.sc.vis,hX.sc.glo,fun x h=>hX.sc.asg x (by rw [hlc]; exact h),hX.sc.cel⟩,hpn,hoe,by show PySem.W.ExC X.K _; rw [hX.K]; exact m3,by show PySem.W.kitOne X.K _ _=_; rw [hX.K]; exact m4,hX.nb T0 (by decide),hX.nb T0 (by decide),fun y b hy=>by
    obtain ⟨A,n1,n2⟩:=T0.hn.kt c y b hy
    exact ⟨A,by show X.mg y=_; rw [hX.mg]; exact n1,by show PySem.W.kitOne X.K _ _=_; rw [hX.K]; exact n2⟩,hNi,hX.sc.vis n (by unfold visB; rw [hln]),k11⟩
  have hlen:σ.length=N.length:=by rw [J0.len,hX.nms]
  have hi':i<σ.length:=by rw [hlen]; exact (List.getElem?_eq_some_iff.mp hNi).1
  refine hs_ok F hh (b0::su) [] (σ.set i (some (.ref a))) q2 (by rw [List.getElem?_set_self hi']) (fun _ _ z=>by cases z) (by rw [List.length_set]; exact hlen) [] s7 H' (endH i D) J fun H'' sm => ?_
  have r3:=r2.up sm
  have w:WR G E ι Hf (match I.runH hh with | (ws,none)=>.ok (.nx,(I.setsR ws ρ).set i none) os2 | (_,some b)=>.ok (.rt (.bl b),ρ) os2) (WS G D):=w
  generalize I.runH hh=out at w
  obtain ⟨ws,rt⟩:=out
  cases rt with
  | none =>
   have w2:=(w.ext x2).now r3
   refine w2 _ (Rf.sets i ws ?_)
   rw [List.set_set]
   exact (rf.ext x2).un none i
  | some b=>exact (w.ext x2).now r3 _ (.bl b)
theorem r_tryA (T0:TB G P W k cx) (hX:XI G E k X lc sc N) (hlc:lc.c=true) (hs:X.stack=X.env::X.outer) (hf:X.env.frame=some X.env.locals) (hsc:X.env.scope=sc)
  (hA:∀ (xe:Value→Shared→Prop) (pn:List (Addr × Obj)),HA G P W k E0 (X.tryB xe pn) cA as) {j f i:Nat} {hs':List (Nat × List I.HS)} (h:kTryA cx sc N j f (esLen as) i hs' cA s=true):PS X s (TSt G E P (I.call P W k) W (.tryA j f as i hs')):=by
 obtain ⟨b,x,np,n,b0,su,hp,pos,rfl,h⟩:=onTry_of h
 obtain ⟨tg,e,ep,rfl,h⟩:=onAs_of h
 obtain ⟨y,yp,rfl,h⟩:=onName_of h
 obtain ⟨gx,gp,gas,cp,rfl,h⟩:=onNC_of h
 obtain ⟨h,k14⟩:=and2 h
 obtain ⟨h,k13⟩:=and2 h
 obtain ⟨h,k12⟩:=and2 h
 obtain ⟨h,k11⟩:=and2 h
 obtain ⟨h,k10⟩:=and2 h
 obtain ⟨h,k9⟩:=and2 h
 obtain ⟨h,k8⟩:=and2 h
 obtain ⟨h,k7⟩:=and2 h
 obtain ⟨h,k6⟩:=and2 h
 obtain ⟨h,k5⟩:=and2 h
 obtain ⟨h,k4⟩:=and2 h
 obtain ⟨h,k3⟩:=and2 h
 obtain ⟨k1,k2⟩:=and2 h
 obtain ⟨k1,kj⟩:=and2 k1
 obtain ⟨kj,kji⟩:=and2 kj
 obtain ⟨kj,kja⟩:=and2 kj
 have hj:=of_decide_eq_true kj
 obtain ⟨l1,l2⟩:=hX.sc.asg y (by rw [hlc]; exact kja)
 cases gas with
 | nil=>cases k4
 | cons e0 es0 =>
 have hNi:=of_decide_eq_true k9
 have hln:=of_decide_eq_true k10
 have ha:=List.all_eq_true.mp k13
 intro pins s σ H D J0 ⟨ι,Hf,ρ,os,rel,rf,w⟩
 have w:WR G E ι Hf (I.onlyOk (k:=⟨fun ds os1=>I.tryKA j i hs' ρ (I.call P W k f ds os1)⟩) (I.evs P (I.call P W k) as ρ os)) (WS G D):=w
 cases hev:I.evs P (I.call P W k) as ρ os with
 | stk=>rw [hev] at w; exact w.elim
 | exc c p os1=>rw [hev] at w; exact w.elim
 | ok ds os1 =>
 rw [hev] at w
 have w:WR G E ι Hf (I.tryKA j i hs' ρ (I.call P W k f ds os1)) (WS G D):=w
 generalize hr:I.call P W k f ds os1=r at w
 obtain ⟨ps,CC⟩:=T0.fns f gx _ (of_decide_eq_true k1)
 refine try_coreA T0 hX hlc hs hf hsc hNi hln k7 k8 k11 k14 ha J0 rf w fun xe hx I0 => ?_
 obtain ⟨pa,st,el⟩:=hA xe (X.pn++pins) _ k6
 have C':CalE (X.tryB xe (X.pn++pins)).prog (X.tryB xe (X.pn++pins)).w (X.tryB xe (X.pn++pins)).K (X.tryB xe (X.pn++pins)).mg (X.tryB xe (X.pn++pins)).base gx (2 * k) ps (spF G P W k f (esLen as)):=by
  show CalE X.prog X.w X.K X.mg X.base gx (2 * k) ps _
  rw [hX.prog,hX.w,hX.K,hX.mg,hX.base]; exact CC
 refine wpAny_Assign_Name (thn (call_at (X:=X.tryB xe (X.pn++pins)) (Q:=fun v H2=>D.nx (σ.set j (some v)) H2) C' (hX.room.mono (by omega)) pa I0 ?_ hx (hX.sc.glo _ k2) (star_of (st e0 (.head _))) (nostars fun z hz=>st z (.tail _ hz)) (okN_d k3).1) fun v s1 ⟨u,H1,I1,r1,q1⟩ => ?_) rfl
 case refine_2=>exact store_ok (X:=X.tryB xe (X.pn++pins)) I1 (show X.N.Nodup by rw [hX.nms]; exact hX.nd) (show X.N[j]?=some y by rw [hX.nms]; exact hj) l1 r1 (fun s2 I2=>⟨_,H1,I2,q1⟩) l2
 refine ⟨ι,Hf,ρ,os,rel,rf,?_⟩
 rw [hev]
 intro ι1 Hf1 H1 x1 r1 vs hvs
 rw [List.append_nil]
 refine ⟨by rw [hvs.len]; exact evs_len hev,ι1,Hf1,os1,ds,r1,hvs,?_⟩
 rw [hr]
 cases r with
 | stk=>exact w.elim
 | exc c p os2=>exact fun ι2 Hf2 H2 x2 r2=>⟨c,p,os2,rfl,rfl,ι2,Hf2,x1.trans x2,r2⟩
 | ok d os2=>exact fun ι2 Hf2 H2 x2 r2 v hv=>(WR.ext (show WR G E ι Hf (.ok (.nx,I.st ρ j d) os2) (WS G D) from w) (x1.trans x2)).now r2 _ ((rf.ext (x1.trans x2)).st hv j)
end
end IS
namespace IS
open PySem PySem.Spec L2
open PyProof.Rows hiding St
open I (D Cell OS Fr R SZ Kt Ko)
section
variable {G:GI} {P:I.Pg} {W:Nat} {cx:CI} {k:Nat} {E:XK} {X:Cx} {sc:Scope} {N:List Str} {tb:Option Nat}
structure XS (X:Cx) (sc:Scope) (E:XK):Prop where
 thr:Thr X E
 scE:X.env.scope=sc
 bk:X.env.blockKind=.function
 own:PassesOwn (model X.prog X.w) X.A X.env X.xe
 stk:X.stack=X.env::X.outer
 frm:X.env.frame=some X.env.locals
theorem swap_name (S:XS X sc E) {x:Str} {xp vp:Pos} {n:Nat} {elt:Expr} {gens:List Comprehension} {scope:Scope}:swapsWith (.ListComp elt gens scope vp) (some (.Name x xp)) n X.env=pure (swapB sc x xp.line scope vp.line):=by
 show (pure (X.env.blockKind == .function&&X.env.kindOf x == some .local&&xp.line == vp.line && !(scope.names.any fun (n,k)=>n == x&&(k == .local||k == .cell))):Sem Bool)=_
 rw [S.bk,show X.env.kindOf x=sc.names.lookup x by rw [← S.scE]; rfl]
 congr 1
 unfold swapB
 have e1:((some NameKind.local:Option NameKind) == some .local)=true:=rfl
 congr 1
 congr 1
 ·rw [show (ScopeKind.function == ScopeKind.function)=true from rfl,Bool.true_and]
  cases h:sc.names.lookup x with
  | none=>rfl
  | some kd=>cases kd <;> rfl
theorem sComp (T0:TB G P W k cx) (hX:XI G E k X ⟨true,tb⟩ sc N) {nl:Nat} {fr:List Nat} {t:I.Tg} {it:I.It} {cd:I.C} {el:I.E} {elt:Expr} {gens:List Comprehension} {scope:Scope} {pos:Pos} (h:chkE cx ⟨true,tb⟩ sc N (.comp nl fr t it cd el) (.ListComp elt gens scope pos)=true) :
  ∃ tg iter ifs N',gens=[⟨tg,iter,ifs,0⟩]∧CompSc X.env.scope X.N scope N' nl fr∧PI X tg iter (TIr G E P (I.call P W k) it)∧(∀ fp s2 H2 C,PG (X.comp scope N' fp s2 H2 C) tg (TTg G t)) ∧
   (∀ fp s2 H2 C,PTs (X.comp scope N' fp s2 H2 C) ifs (TCo G E0 P (I.call P W k) cd))∧(∀ fp s2 H2 C,PE (X.comp scope N' fp s2 H2 C) elt (T G E0 P (I.call P W k) el))∧(∀ x,foldedSetIterable iter X.env x=pure x)∧tgLow nl t=true:=by
 obtain ⟨g,rfl,h⟩:=on1_of h
 obtain ⟨tg,iter,ifs,n⟩:=g
 obtain ⟨h,h7⟩:=and2 h
 obtain ⟨h,h6⟩:=and2 h
 obtain ⟨h,h5⟩:=and2 h
 obtain ⟨h,h4⟩:=and2 h
 obtain ⟨h,h3⟩:=and2 h
 obtain ⟨h,h2⟩:=and2 h
 obtain ⟨h0,h1⟩:=and2 h
 obtain rfl:=of_decide_eq_true h0
 obtain ⟨cs,nd⟩:=comp_k h1 hX
 exact ⟨tg,iter,ifs,_,rfl,cs,sI T0 it tg iter hX h4,fun fp s2 H2 C=>cT (hX.comp nd) t tg h5,fun fp s2 H2 C=>sCo T0 cd ifs (hX.comp nd) h6,fun fp s2 H2 C=>(sE T0 el elt (hX.comp nd) h7).1,set_of h3,h2⟩
theorem notC_of {e:Expr} (h:¬ notComp e=true):(∃ elt gens scope vp,e=.ListComp elt gens scope vp)∨(∀ sc x xl a,setOk sc x xl a e=false):=by
 cases e <;> first | exact absurd rfl h | exact .inl ⟨_,_,_,_,rfl⟩ | exact .inr fun _ _ _ _=>rfl
theorem compish_of {a:I.E} (h:compish a=true):∃ nl fr t it cd el,a=.comp nl fr t it cd el∨a=.cell (.comp nl fr t it cd el):=by
 unfold compish at h
 split at h
 ·exact ⟨_,_,_,_,_,_,.inl rfl⟩
 ·exact ⟨_,_,_,_,_,_,.inr rfl⟩
 ·exact no h
theorem sSet (T0:TB G P W k cx) (hX:XI G E k X ⟨true,tb⟩ sc N) (S:XS X sc E) {i:Nat} {a:I.E} {x:Str} {xp pos:Pos} {e:Expr} (h1:N[i]?=some x) (h2:asgB true sc x=true) (h3:setOk sc x xp.line a e=true) (h4:chkE cx ⟨true,tb⟩ sc N a e=true) :
  PS X (.Assign [.Name x xp] e pos) (TSt G E P (I.call P W k) W (.set i a)):=by
 obtain ⟨l1,l2⟩:=hX.sc.asg x h2
 have hN:X.N.Nodup:=by rw [hX.nms]; exact hX.nd
 have hi:X.N[i]?=some x:=by rw [hX.nms]; exact h1
 by_cases hc:notComp e=true
 ·exact s_set hN hi l1 (sE T0 a e hX h4).1 (swap_of hc) l2
 ·rcases notC_of hc with ⟨elt,gens,scope,vp,rfl⟩ | z
  ·by_cases hsw:swapB sc x xp.line scope vp.line=true
   ·have hco:compish a=true:=by
     have h3':(compish a || !swapB sc x xp.line scope vp.line)=true:=h3
     rw [hsw,Bool.not_true,Bool.or_false] at h3'
     exact h3'
    obtain ⟨nl,fr,t,it,cd,el,rfl | rfl⟩:=compish_of hco
    ·obtain ⟨tg,iter,ifs,N',rfl,c1,c2,c3,c4,c5,c6,c7⟩:=sComp T0 hX h4
     exact s_setC hN hi l1 c1 hX.calm c2 c3 c4 c5 c6 c7 (by rw [swap_name S,hsw]) l2 (t_froze comp_is)
    ·obtain ⟨tg,iter,ifs,N',rfl,c1,c2,c3,c4,c5,c6,c7⟩:=sComp T0 hX (and2 h4).2
     exact s_setC hN hi l1 c1 hX.calm c2 c3 c4 c5 c6 c7 (by rw [swap_name S,hsw]) l2 t_cell
   ·exact s_set hN hi l1 (sE T0 a _ hX h4).1 (by rw [swap_name S,Bool.eq_false_iff.mpr hsw]) l2
  ·rw [z] at h3
   exact no h3
theorem swappedIx {x y e:Expr} {p:Pos} {env:Env}:swappedStores [.Subscript x y p] e env=pure none:=by cases e <;> rfl
section
variable {s:Stmt} {a o b:I.E} {ca co ci:CE} {cA:CA} {as:I.Es} {p:I.Pr}
theorem r_set (T0:TB G P W k cx) (hX:XI G E k X ⟨true,tb⟩ sc N) (S:XS X sc E) {i:Nat} (h:kSet sc N i a (chkE cx ⟨true,tb⟩ sc N a) s=true):PS X s (TSt G E P (I.call P W k) W (.set i a)):=by
 obtain ⟨t,e,pos,rfl,h⟩:=onAs_of h
 obtain ⟨x,xp,rfl,h⟩:=onNameP_of h
 obtain ⟨h,h4⟩:=and2 h
 obtain ⟨h,h3⟩:=and2 h
 obtain ⟨h1,h2⟩:=and2 h
 exact sSet T0 hX S (of_decide_eq_true h1) h2 h3 h4
theorem r_six (hX:XI G E k X ⟨true,tb⟩ sc N) (ho:HE G P W k E X co o) (hi:HE G P W k E X ci b) (ha:HE G P W k E X ca a) (h:kSix co ci ca s=true):PS X s (TSt G E P (I.call P W k) W (.setix o b a)):=by
 obtain ⟨t,e,pos,rfl,h⟩:=onAs_of h
 obtain ⟨x,y,xp,rfl,h⟩:=onSub_of h
 obtain ⟨h,h5⟩:=and2 h
 obtain ⟨h,h4⟩:=and2 h
 obtain ⟨h,h3⟩:=and2 h
 obtain ⟨h1,h2⟩:=and2 h
 exact s_setix hX.units1 (ha _ h5) (ho _ h3) (hi _ h4) (fun v=>by clear h h4 h5 h2; cases y <;> first | rfl | exact no h1) (by unfold swapsWithSole; exact swap_of h2) swappedIx rfl
theorem r_ex (ha:HE G P W k E X ca a) (h:(onEx s fun e=>notComp e&&ca e)=true):PS X s (TSt G E P (I.call P W k) W (.ex a)):=by
 obtain ⟨e,pos,rfl,h⟩:=onEx_of h
 obtain ⟨h1,h2⟩:=and2 h
 exact s_ex (ha _ h2) (swap_of h1)
theorem r_ret (ha:HE G P W k E X ca a) (h:(onRet s fun e=>onS e fun e=>ca e)=true):PS X s (TSt G E P (I.call P W k) W (.ret a)):=by
 obtain ⟨e,pos,rfl,h⟩:=onRet_of h
 obtain ⟨e,rfl,h⟩:=onS_of h
 exact s_ret (ha _ h)
theorem r_if {c:I.C} {x y:I.Ss} {cx' cy:List Stmt→Bool} (hc:∀ t,ca t=true→PT X t (TCo G E P (I.call P W k) c)) (hx:∀ l,cx' l=true→PSs X l (TSts G E P (I.call P W k) W x)) (hy:∀ l,cy l=true→PSs X l (TSts G E P (I.call P W k) W y)) (h:(onIfS s fun t u v=>ca t&&cx' u&&cy v)=true):PS X s (TSt G E P (I.call P W k) W (.ite c x y)):=by
 obtain ⟨t,u,v,pos,rfl,h⟩:=onIfS_of h
 obtain ⟨h,h3⟩:=and2 h
 obtain ⟨h1,h2⟩:=and2 h
 exact s_if (hc _ h1) (hx _ h2) (hy _ h3)
theorem r_fr {t:I.Tg} {it:I.It} {x:I.Ss} {cx':List Stmt→Bool} {ci:Expr→CE} (hX:XI G E k X ⟨true,tb⟩ sc N) (S:XS X sc E) (hi:∀ tg y,ci tg y=true→PI X tg y (TIr G E P (I.call P W k) it)) (hx:∀ l,cx' l=true→PSs X l (TSts G E P (I.call P W k) W x)) (h:kFr sc N t ci cx' s=true):PS X s (TSt G E P (I.call P W k) W (.fr t it x)):=by
 obtain ⟨tg,iter,body,els,pos,rfl,h⟩:=onFor_of h
 obtain ⟨rfl,h⟩:=on0_of h
 obtain ⟨h,h4⟩:=and2 h
 obtain ⟨h,h3⟩:=and2 h
 obtain ⟨h1,h2⟩:=and2 h
 exact s_for S.own hX.calm (hi _ _ h3) (cT hX t tg h2) (hx _ h4) (set_of h1)
theorem r_ra (T0:TB G P W k cx) (hX:XI G E k X ⟨true,tb⟩ sc N) (S:XS X sc E) (hA:HA G P W k E X cA as) {c:Nat} (h:kRa cx sc c (esLen as) cA s=true):PS X s (TSt G E P (I.call P W k) W (.raise c as)):=by
 obtain ⟨e,pos,rfl,h⟩:=onRaise_of h
 obtain ⟨x,np,args,cpos,rfl,h⟩:=onNC_of h
 obtain ⟨h,h6⟩:=and2 h
 obtain ⟨h,h5⟩:=and2 h
 obtain ⟨h,h4⟩:=and2 h
 obtain ⟨h,h3⟩:=and2 h
 obtain ⟨h1,h2⟩:=and2 h
 obtain ⟨m1,m2⟩:=T0.exs c x (of_decide_eq_true h1)
 obtain ⟨a1,a2,a3⟩:=hA _ h6
 cases args with
 | nil=>exact no h4
 | cons e0 er=>exact s_raise S.thr hX.calm hX.K PySem.F.excBase_ValueError m2 (by rw [hX.mg]; exact m1) a1 (hX.sc.glo x h2) (star_of (a2 e0 (.head _))) (nostars fun z hz=>a2 z (.tail _ hz)) (okN_d h3).1 (of_decide_eq_true h5)
theorem r_cons {x:I.S} {r:I.Ss} {c1:Stmt→Bool} {c2:List Stmt→Bool} (h1:∀ s,c1 s=true→PS X s (TSt G E P (I.call P W k) W x)) (h2:∀ l,c2 l=true→PSs X l (TSts G E P (I.call P W k) W r)) {ss:List Stmt} (h:(onCons ss fun s rest=>c1 s&&c2 rest)=true):PSs X ss (TSts G E P (I.call P W k) W (.cons x r)):=by
 obtain ⟨s,rest,rfl,h⟩:=onCons_of h
 obtain ⟨g1,g2⟩:=and2 h
 exact ss_cons (h1 _ g1) (h2 _ g2)
end
mutual
theorem sS (T0:TB G P W k cx) (hX:XI G E k X ⟨true,tb⟩ sc N) (S:XS X sc E):∀ (a:I.S) (s:Stmt),chkS cx tb sc N a s=true→PS X s (TSt G E P (I.call P W k) W a)
 | .set i a,s,h=>r_set T0 hX S h
 | .tset is a,s,h=>no h
 | .setix o i a,s,h=>r_six hX (fun x z=>(sE T0 o x hX z).1) (fun x z=>(sE T0 i x hX z).1) (fun x z=>(sE T0 a x hX z).1) h
 | .aug i p a,s,h=>no h
 | .ex a,s,h=>r_ex (fun x z=>(sE T0 a x hX z).1) h
 | .ret a,s,h=>r_ret (fun x z=>(sE T0 a x hX z).1) h
 | .retN,s,h=>no h
 | .ite c a b,s,h=>r_if (fun t z=>(sC T0 c t hX z).1) (fun l z=>sSs T0 hX S a l z) (fun l z=>sSs T0 hX S b l z) h
 | .wh c b,s,h=>no h
 | .fr t it b,s,h=>r_fr hX S (fun tg x z=>sI T0 it tg x hX z) (fun l z=>sSs T0 hX S b l z) h
 | .brk,s,h=>no h
 | .cont,s,h=>no h
 | .pass,s,h=>no h
 | .stop,s,h=>no h
 | .setfld o f a,s,h=>no h
 | .augfld o f p a,s,h=>no h
 | .augix _ _ _ _,s,h=>no h
 | .tryC f es i hs,s,h=>no h
 | .tryA j f es i hs,s,h=>r_tryA T0 hX rfl S.stk S.frm S.scE (fun xe pn xs z=>sEs T0 es xs (hX.tryB xe pn) z) h
 | .tryV f es i hs,s,h=>no h
 | .tryM f es i hs,s,h=>no h
 | .raise c es,s,h=>r_ra T0 hX S (fun xs z=>sEs T0 es xs hX z) h
theorem sSs (T0:TB G P W k cx) (hX:XI G E k X ⟨true,tb⟩ sc N) (S:XS X sc E):∀ (a:I.Ss) (ss:List Stmt),chkSs cx tb sc N a ss=true→PSs X ss (TSts G E P (I.call P W k) W a)
 | .nil,ss,h=>by
  obtain ⟨rfl,_⟩:=on0_of h
  exact ss_nil
 | .cons a r,ss,h=>r_cons (fun s z=>sS T0 hX S a s z) (fun l z=>sSs T0 hX S r l z) h
end
end
end IS
namespace IS
open PySem PySem.Spec L2
open PyProof.Rows hiding St
open I (D Cell OS Fr R SZ Kt Ko)
noncomputable def chkF (cx:CI) (d:I.FD) (N ps:List Str) (st:Stmt):Bool :=
 decide ((defScope st).kind=.function)&&decide ((defScope st).isCoroutine=false)&&decide ((defScope st).isGenerator=false)&&decide N.Nodup&&decide (N.take ps.length=ps) &&
 ps.all (fun x=>decide ((defScope st).names.lookup x=some .local)||decide ((defScope st).names.lookup x=some .cell))&&(defScope st).names.all (fun y=>decide (y.2≠.free)) &&
 decide (d.n=N.length)&&chkSs cx d.tb (defScope st) N d.body (defBody st)
noncomputable def TbOk (G:GI) (fd:FuncData) (qual:Str) (d:I.FD):Prop:=∀ t,d.tb=some t→∃ c,fd.code=.ref c∧PySem.W.CodeHd G.base c (G.tA t)∧qual ++ ".<locals>." ++ "<lambda>" = G.tq t∧BMd G.mg G.base
theorem Fun.okT {P:Program} {w:World} {K:PySem.W.Frag} {mg:Str→Option Value} {base:Heap} {x qual:Str} {st:Stmt} {f:Addr} {fd:FuncData} {N ps:List Str} {k:Nat} {sp:Sp} (F:Fun K x qual st f fd) (S:FnScope N ps (defScope st)) (len:∀ vs H Q E,sp vs H Q E→vs.length=ps.length)
  (hbody:∀ (cdv:Value) (A:Around) (outer:List Env) (s:Shared) (H:Hp) (vs:List V) (Q:VK) (E:XK),fd.code=cdv→Room k (A.deeper (envOfC qual (defScope st) s.heap.objs.size f cdv))→sp vs H Q E →
   Passes (CXE P w) (cxOf (CXE P w) P w K mg base N qual (defScope st) f cdv A outer s H E) E→Thr (cxOf (CXE P w) P w K mg base N qual (defScope st) f cdv A outer s H E) E →
   ∃ t,PSs (cxOf (CXE P w) P w K mg base N qual (defScope st) f cdv A outer s H E) (defBody st) t∧t { nx:=fun _ H'=>Q .non H',rt:=Q } (start N vs) H):FnOk P w K mg base (CXE P w) (k+1) f fd ps sp:=by
 obtain ⟨oc,od,kV,doc,pm,an,cdv,ct,osl,rfl,lk,hcd⟩:=F.ex
 exact fn_of lk hcd S len fun A outer s H vs Q E hr hsp=>hbody cdv A outer s H vs Q E rfl hr hsp passE thrE
structure FR (G:GI) (P:I.Pg) (cx:CI) (f:Nat) (x:Str) (n:Nat):Prop where
 ex:∃ (fa:Addr) (fd:FuncData) (qual:Str) (ps N:List Str) (st:Stmt) (d:I.FD),G.mg x=some (.ref fa)∧Binds G.K fd ps []∧Fun G.K x qual st fa fd∧ps.length=n∧P.fn f=some d∧chkF cx d N ps st=true∧TbOk G fd qual d
structure CR0 (G:GI) (P:I.Pg) (cx:CI) (c:Nat) (x:Str) (n:Nat):Prop where
 ex:∃ (fa:Addr) (fd:FuncData) (nm qual:Str) (ps N:List Str) (st:Stmt) (fi:Nat) (d:I.FD),P.ini c=some fi∧G.mg x=some (.ref (G.CA c))∧Mk G.K (G.CA c) fa∧Binds G.K fd ps []∧Fun G.K nm qual st fa fd∧ps.length=n∧P.fn fi=some d∧chkF cx d N ps st=true∧TbOk G fd qual d
structure MR0 (G:GI) (P:I.Pg) (cx:CI) (c f:Nat) (x:Str) (n:Nat):Prop where
 ex:∃ (fa:Addr) (fd:FuncData) (qual:Str) (ps N:List Str) (st:Stmt) (d:I.FD),Meth G.K (G.CA c) x fa∧Binds G.K fd ps []∧Fun G.K x qual st fa fd∧ps.length=n∧P.fn f=some d∧chkF cx d N ps st=true∧TbOk G fd qual d
structure TF0 (G:GI) (P:I.Pg) (cx:CI):Prop where
 fns:∀ f x n,cx.fn f=some (x,n)→FR G P cx f x n
 gls:∀ i x,cx.gl i=some x→∃ u v,G.mg x=some u∧RelV v u∧∀ ι Hf,Rp G ι Hf v (P.g i)
 nbs:∀ x,x∈bnames→G.mg x=none
 exs:∀ c x,cx.ec c=some x→G.mg x=some (.ref (G.CA c))∧PySem.W.excIn G.K (G.CA c) [.type "ValueError",.type "Exception",.type "BaseException",.type "object"] "ValueError.__new__" = true
 cls:∀ c x n,cx.cl c=some (x,n)→G.ok c∧CR0 G P cx c x n
 mts:∀ c m f,P.meth c m=some f→∀ x n,cx.mt m=some (x,n)→MR0 G P cx c f x n
 fx:FX G cx
 hn:HND G cx
section
variable {G:GI} {P:I.Pg} {W:Nat} {cx:CI} {k:Nat}
theorem SC.def {N:List Str} {qual:Str} {scope:Scope} {f:Addr} {cd:Value} {A:Around} {outer:List Env} {s₀:Shared} {H₀:Hp} {E:XK}:SC (cxOf (CXE G.prog G.w) G.prog G.w G.K G.mg G.base N qual scope f cd A outer s₀ H₀ E) true scope:=by
 refine ⟨fun x h=>vis_k h,fun x h=>glo_k h,fun x h=>⟨?_,.inl rfl⟩,fun x h=>h⟩
 rcases asg_k h with h | ⟨_,h⟩
 ·exact .inl h
 ·exact .inr h
theorem Rf.start {ι:List Addr} {Hf:Hp}:∀ {vs:List V} {ds:List D} (n:Nat),Rps G ι Hf vs ds→Rf G ι Hf (vs.map some++List.replicate n none) (ds.map some++List.replicate n none)
 | _,_,n,.nil=>by
  induction n with
  | zero=>exact .nil
  | succ n ih=>exact .no ih
 | _,_,n,.cons h r=>.so h (Rf.start n r)
theorem WR.ended {E:XK} {ι:List Addr} {Hf:Hp} {r:I.Rs} {Q:VK} (w:WR G E ι Hf (I.ended r) (fun ι' Hf' H' _ d=>∀ v,Rp G ι' Hf' v d→Q v H')):WR G E ι Hf r (WS G { nx:=fun _ H'=>Q .non H',rt:=Q }):=by
 cases r with
 | stk=>exact w
 | exc c p os=>exact w
 | ok a os =>
  obtain ⟨fl,ρ⟩:=a
  cases fl with
  | nx=>exact fun ι' Hf' H' x r σ _=>w ι' Hf' H' x r .non .non
  | rt d=>exact fun ι' Hf' H' x r v hv=>w ι' Hf' H' x r v hv
  | bk=>exact False.elim w
  | ct=>exact False.elim w
theorem fn_step (T0:TB G P W k cx) {f:Nat} {x qual:Str} {n:Nat} {fa:Addr} {fd:FuncData} {ps N:List Str} {st:Stmt} {d:I.FD} (F:Fun G.K x qual st fa fd) (hl:ps.length=n) (hd:P.fn f=some d) (hc:chkF cx d N ps st=true) (hT:TbOk G fd qual d) :
  FnOk G.prog G.w G.K G.mg G.base (CXE G.prog G.w) (2 * (k+1)) fa fd ps (spF G P W (k+1) f n):=by
 obtain ⟨hc,c9⟩:=and2 hc
 obtain ⟨hc,c8⟩:=and2 hc
 obtain ⟨hc,c7⟩:=and2 hc
 obtain ⟨hc,c6⟩:=and2 hc
 obtain ⟨hc,c5⟩:=and2 hc
 obtain ⟨hc,c4⟩:=and2 hc
 obtain ⟨hc,c3⟩:=and2 hc
 obtain ⟨c1,c2⟩:=and2 hc
 have S:FnScope N ps (defScope st):=⟨of_decide_eq_true c1,of_decide_eq_true c2,of_decide_eq_true c3,of_decide_eq_true c4,of_decide_eq_true c5,fun x hx=>by
  have:=List.all_eq_true.mp c6 x hx
  rw [Bool.or_eq_true] at this
  rcases this with z | z
  ·exact .inl (of_decide_eq_true z)
  ·exact .inr (of_decide_eq_true z),fun y hy=>of_decide_eq_true (List.all_eq_true.mp c7 y hy)⟩
 refine Fun.okT F S (fun vs H Q E h=>h.1.trans hl.symm) fun cdv A outer s H vs Q E hcode hr hsp hp ht => ?_
 obtain ⟨hlen,ι,Hf,os,ds,rel,hvs,w⟩:=hsp
 have hr:Room (2 * k+1) _:=hr
 have hX:XI G E k (cxOf (CXE G.prog G.w) G.prog G.w G.K G.mg G.base N qual (defScope st) fa cdv A outer s H E) ⟨true,d.tb⟩ (defScope st) N :=
  ⟨rfl,rfl,rfl,rfl,rfl,rfl,S.nd,SC.def,rfl,hr,hp,fun t e=>by
   obtain ⟨c,h1,h2,h3,h4⟩:=hT t e
   exact ⟨c,hcode.symm.trans h1,h2,h3,h4⟩,fun _=>passH⟩
 have hS:XS (cxOf (CXE G.prog G.w) G.prog G.w G.K G.mg G.base N qual (defScope st) fa cdv A outer s H E) (defScope st) E :=
  ⟨ht,rfl,by show (if (defScope st).kind.isAnnotationScope then ScopeKind.function else (defScope st).kind)=.function; rw [S.kind]; rfl,PassesOwn.leaving,rfl,rfl⟩
 refine ⟨_,sSs T0 hX hS d.body (defBody st) c9,ι,Hf,ds.map some++List.replicate (N.length - vs.length) none,os,rel,Rf.start _ hvs,WR.ended ?_⟩
 have e:I.call P W (k+1) f ds os=I.ended (I.execs P (I.call P W k) W d.body (ds.map some++List.replicate (N.length - vs.length) none) os):=by
  rw [I.call_succ,hd]
  show I.ended (I.execs P (I.call P W k) W d.body (ds.map some++List.replicate (d.n - ds.length) none) os)=_
  rw [of_decide_eq_true c8,hvs.len]
 rw [← e]
 exact w
theorem fn_zero {f:Nat} {n:Nat} {fa:Addr} {fd:FuncData} {ps:List Str} (hl:ps.length=n):FnOk G.prog G.w G.K G.mg G.base (CXE G.prog G.w) (2 * 0) fa fd ps (spF G P W 0 f n) :=
 ⟨fun vs H Q E z=>z.1.trans hl.symm,fun A outer s H args us vs Q E _ _ _ _ hs=>by obtain ⟨_,_,_,_,_,_,_,w⟩:=hs; exact False.elim w⟩
theorem tb_all (T:TF0 G P cx):∀ k,TB G P W k cx
 | 0=>by
  refine ⟨fun f x n h => ?_,T.gls,T.nbs,T.exs,fun c x n h => ?_,fun c m f h x n hx => ?_,T.fx,T.hn⟩
  ·obtain ⟨fa,fd,qual,ps,N,st,d,m,b,F,hl,hd,hc,hT⟩:=(T.fns f x n h).ex
   exact ⟨ps,fa,fd,m,F.kp,b,fn_zero hl⟩
  ·obtain ⟨hok,fa,fd,nm,qual,ps,N,st,fi,d,hi,m,M,b,F,hl,hd,hc,hT⟩:=T.cls c x n h
   exact ⟨hok,fi,ps,hi,fa,fd,M,m,b,fn_zero hl⟩
  ·obtain ⟨fa,fd,qual,ps,N,st,d,M,b,F,hl,hd,hc,hT⟩:=(T.mts c m f h x n hx).ex
   exact ⟨ps,fa,fd,M,b,fn_zero hl⟩
 | k+1=>by
  have T0:=tb_all T k
  refine ⟨fun f x n h => ?_,T.gls,T.nbs,T.exs,fun c x n h => ?_,fun c m f h x n hx => ?_,T.fx,T.hn⟩
  ·obtain ⟨fa,fd,qual,ps,N,st,d,m,b,F,hl,hd,hc,hT⟩:=(T.fns f x n h).ex
   exact ⟨ps,fa,fd,m,F.kp,b,fn_step T0 F hl hd hc hT⟩
  ·obtain ⟨hok,fa,fd,nm,qual,ps,N,st,fi,d,hi,m,M,b,F,hl,hd,hc,hT⟩:=T.cls c x n h
   exact ⟨hok,fi,ps,hi,fa,fd,M,m,b,fn_step T0 F hl hd hc hT⟩
  ·obtain ⟨fa,fd,qual,ps,N,st,d,M,b,F,hl,hd,hc,hT⟩:=(T.mts c m f h x n hx).ex
   exact ⟨ps,fa,fd,M,b,fn_step T0 F hl hd hc hT⟩
noncomputable def spLaw (n:Nat) (K:PySem.W.Frag):Sp:=fun vs H Q _=>∃ (a:Addr) (ns:List Int),vs=[.ref a]∧SqL K H a (ns.map V.int)∧ns.length≤n∧∀ H',Q (.bl true) H'
theorem law_ok {f:Nat} {x qual:Str} {fa:Addr} {fd:FuncData} {ps N:List Str} {st:Stmt} {d:I.FD} {m:Nat} (T:TF0 G P cx) (hm:m≤sizeLine) (F:Fun G.K x qual st fa fd) (hl:ps.length=1) (hd:P.fn f=some d) (hc:chkF cx d N ps st=true) (hT:TbOk G fd qual d)
  (math:∀ ns:List Int,ns.length≤m→∃ os,I.call P W (k+1) f [.scr (ns.map .int)] []=.ok (.bl true) os):FnOk G.prog G.w G.K G.mg G.base (CXE G.prog G.w) (2 * (k+1)) fa fd ps (spLaw m G.K):=by
 refine FnOk.imp (fn_step (W:=W) (tb_all T k) F hl hd hc hT) fun vs H Q E ⟨a,ns,e,hs,hn,q⟩ => ?_
 subst e
 obtain ⟨os,e⟩:=math ns hn
 refine ⟨rfl,[],H,[],[.scr (ns.map .int)],⟨rfl,Same.refl _,(fun n c z=>by cases n <;> cases z),(fun n _ c _ _ z=>by cases n <;> cases z)⟩,.cons (.scr hs (by rw [List.length_map]; omega) (rps_ints ns)) .nil,?_⟩
 rw [e]
 intro ι' Hf' H' _ _ v hv
 cases hv
 exact q H'
end
end IS
namespace IS
open PySem PySem.Spec L2
noncomputable def farS (n:Nat):Str:=⟨(List.replicate (n+200) 0).toArray⟩
noncomputable def flOf (tbl:List Str) (n:Nat):Str:=(tbl[n]?).getD (farS n)
theorem far_size (n:Nat):(farS n).cps.size=n+200:=by simp [farS]
theorem flOf_some {tbl:List Str} {f:Nat} {x:Str} (h:tbl[f]?=some x):flOf tbl f=x:=by unfold flOf; rw [h]; rfl
theorem flOf_none {tbl:List Str} {f:Nat} (h:tbl[f]?=none):flOf tbl f=farS f:=by unfold flOf; rw [h]; rfl
theorem flOf_inj {tbl:List Str} (h:tbl.Nodup) (hs:∀ s∈tbl,s.cps.size<200) (f g:Nat) (e:flOf tbl f=flOf tbl g):f=g:=by
 cases hf:tbl[f]? with
 | none =>
  cases hg:tbl[g]? with
  | none =>
   rw [flOf_none hf,flOf_none hg] at e
   have:=congrArg (fun s:Str=>s.cps.size) e
   simp only [far_size] at this
   omega
  | some y =>
   rw [flOf_none hf,flOf_some hg] at e
   have:=congrArg (fun s:Str=>s.cps.size) e
   simp only [far_size] at this
   have:=hs y (List.mem_of_getElem? hg)
   omega
 | some x =>
  cases hg:tbl[g]? with
  | none =>
   rw [flOf_some hf,flOf_none hg] at e
   have:=congrArg (fun s:Str=>s.cps.size) e
   simp only [far_size] at this
   have:=hs x (List.mem_of_getElem? hf)
   omega
  | some y =>
   rw [flOf_some hf,flOf_some hg] at e
   subst e
   obtain ⟨h1,e1⟩:=List.getElem?_eq_some_iff.mp hf
   obtain ⟨h2,e2⟩:=List.getElem?_eq_some_iff.mp hg
   exact (List.getElem_inj h).mp (e1.trans e2.symm)
end IS
namespace IS
open PySem PySem.Spec L2
open PyProof.Rows hiding St
open I (D Cell OS Fr R SZ Kt Ko)
section
variable {G:GI} {P:I.Pg} {W:Nat} {cx:CI} {k:Nat}
noncomputable def spLawT (n:Nat) (K:PySem.W.Frag) (tA:Nat→Addr) (nT:Nat):Sp:=fun vs H Q _=>∃ (a:Addr) (ns:List Int),vs=[.ref a]∧SqL K H a (ns.map V.int)∧ns.length≤n∧(∀ t,t<nT→H (tA t)=some (.tbl #[]))∧∀ H',Q (.bl true) H'
end
end IS
namespace IS
open PySem PySem.Spec L2
open PyProof.Rows hiding St
theorem tabs_mk {ts:List Addr} {h:Heap} {K:PySem.W.Frag} (KX:K.In h) (hP:∀ P∈ts,h.get? P=some (PySem.W.tabObj #[])) (hC:∀ P∈ts,∃ c,PySem.W.codeHdIn K c P=true):∃ tabs:List (Addr × Addr),tabs.map (·.2)=ts∧PySem.W.TabsAt tabs h:=by
 induction ts with
 | nil=>exact ⟨[],rfl,fun q hq=>nomatch hq⟩
 | cons P r ih =>
  obtain ⟨tabs,e,hT⟩:=ih (fun Q hQ=>hP Q (.tail _ hQ)) fun Q hQ=>hC Q (.tail _ hQ)
  obtain ⟨c,hc⟩:=hC P (.head _)
  refine ⟨(c,P)::tabs,by rw [List.map_cons,e],fun q hq => ?_⟩
  rcases List.mem_cons.mp hq with rfl | hq
  ·exact ⟨PySem.W.codeHd_of_K KX hc,hP P (.head _)⟩
  ·exact hT q hq
theorem walkT {l:PySem.W.OpenLaw} {n k:Nat} {q:Program} {loose:List Str} {XP:(Str→Option Value)→Heap→Prop} {YP:World→Heap→Prop} {d:DefRec} {K:Params→PySem.W.Frag} {x:Str} {ts:List Addr}
  (hn:l.most=some n) (hn2:n≤sizeLine) (hdf:d.params.defaults=[]) (hr:Room k callerA)
  (hY:∀ (w:World) (h:Heap),YP w h→(K w.params).In h∧∀ P∈ts,h.get? P=some (PySem.W.tabObj #[])) (hnt:∀ w:World,PySem.W.noTabs (K w.params)=true)
  (F:∀ (w:World) (mg:Str→Option Value) (fa:Addr) (h:Heap),(K w.params).In h→h.Ns mainGlobals mg→mg d.name=some (.ref fa) →
   (∀ P∈ts,∃ c,PySem.W.codeHdIn (K w.params) c P=true)∧∃ fd:FuncData,(∀ (s:Shared) (u:Value),BindsTo s fd ⟨[u],[]⟩ [(x,u)]) ∧
    ∀ base:Heap,(K w.params).In base→base.Ns mainGlobals mg→BMd mg base→FnOk l.prog w (K w.params) mg base (CXE l.prog w) k fa fd [x] (spLawT n (K w.params) (fun t=>ts.getD t 0) ts.length)) :
  PySem.W.WalkO q loose XP YP l.row.toRowW d [] (fun f vs=>PySem.call f vs):=by
 refine Att.attach_call hn hdf fun w s₀ s₁ mg mb fa o pm cd doc a vs ns G Y ho hd hcd hmg hobj hints hlen hg => ?_
 obtain ⟨KX,hP⟩:=hY w _ Y
 obtain ⟨hC,fd,hb,hF⟩:=F w mg fa _ KX G.T.g hmg
 obtain ⟨tabs,e,hT⟩:=tabs_mk KX hP hC
 refine law_callT (CX:=CXE l.prog w) (sp:=spLawT n (K w.params) (fun t=>ts.getD t 0) ts.length) KX G.T.g G.T.b G.T.builtins G.T.nolimit hg G.T.bmain hT (hnt w) hobj hints (Nat.le_trans hlen hn2) hr hF hb (fun H hO hTt hS=>⟨a,ns,rfl,hS,hlen,fun t ht => ?_,fun _=>rfl⟩) fun H e s' ⟨_,_,_,_,_,_,_,z⟩=>z
 have hm:ts.getD t 0∈ts:=by
  rw [List.getD_eq_getElem?_getD,List.getElem?_eq_getElem ht]
  exact List.getElem_mem ht
 rw [← e] at hm
 obtain ⟨p,hp,e2⟩:=List.mem_map.mp hm
 have:=hTt p hp
 rw [e2,e] at this
 exact this
end IS
namespace K57
open I
noncomputable def d_is_whole:FD:=⟨1,(.cons (.ret (.and (.pr (.isInst .int) (.cons (.v 0) .nil)) (.not (.pr (.isInst .bool) (.cons (.v 0) .nil))))) .nil),none⟩
noncomputable def d_is_mark:FD:=⟨1,(.cons (.ret (.and (.callP 178 (.cons (.v 0) .nil)) (.chain .le .le (.c (.int 0)) (.v 0) (.c (.int 255))))) .nil),none⟩
noncomputable def d_is_figures:FD:=⟨1,(.cons (.ret (.and (.pr (.cmp .gt) (.cons (.pr .len (.cons (.v 0) .nil)) (.cons (.c (.int 0)) .nil))) (.pr .all (.cons (.comp 1 [] (.v 0) (.chars (.v 0)) .tt (.chain .leS .leS (.c (.str [48])) (.v 0) (.c (.str [57])))) .nil)))) .nil),none⟩
noncomputable def d_is_number:FD:=⟨2,(.cons (.ite (.or (.not (.e (.callP 148 (.cons (.v 0) .nil)))) (.e (.pr (.cmp .gt) (.cons (.pr .len (.cons (.v 0) .nil)) (.cons (.v 1) .nil))))) (.cons (.ret (.c (.bl false))) .nil) .nil) (.cons (.ret (.or (.pr (.cmp .eq) (.cons (.v 0) (.cons (.c (.str [48])) .nil))) (.not (.bm .startS (.v 0) (.cons (.c (.str [48])) .nil))))) .nil)),none⟩
noncomputable def d_read_mark:FD:=⟨1,(.cons (.ite (.or (.not (.e (.callP 149 (.cons (.v 0) (.cons (.g 32) .nil))))) (.not (.e (.callP 179 (.cons (.pr .toI (.cons (.v 0) .nil)) .nil))))) (.cons (.raise 16 (.cons (.c (.str [97,32,119,111,114,100,32,105,115,32,110,111,32,110,117,109,98,101,114,32,102,114,111,109,32,48,32,116,111,32,50,53,53])) .nil)) .nil) .nil) (.cons (.ret (.pr .toI (.cons (.v 0) .nil))) .nil)),none⟩
noncomputable def d_show_marks:FD:=⟨1,(.cons (.ret (.ite (.e (.v 0)) (.bm .joinS (.c (.str [32])) (.cons (.comp 1 [] (.v 0) (.seq (.v 0)) .tt (.pr .toS (.cons (.v 0) .nil))) .nil)) (.g 31))) .nil),none⟩
noncomputable def d_read_marks:FD:=⟨1,(.cons (.ite (.not (.e (.pr (.isInst .str) (.cons (.v 0) .nil)))) (.cons (.raise 16 (.cons (.c (.str [116,104,105,115,32,105,115,32,110,111,32,116,101,120,116])) .nil)) .nil) .nil) (.cons (.ite (.e (.pr (.cmp .eq) (.cons (.v 0) (.cons (.g 31) .nil)))) (.cons (.ret (.lst .nil)) .nil) .nil) (.cons (.ret (.compX 1 [] (.v 0) (.seq (.bm .splitS (.v 0) (.cons (.c (.str [32])) .nil))) .tt (.callP 150 (.cons (.v 0) .nil)))) .nil))),none⟩
noncomputable def d_q_take:FD:=⟨3,(.cons (.set 2 (.pr .mod (.cons (.pr .ix (.cons (.v 0) (.cons (.c (.int 0)) .nil))) (.cons (.v 1) .nil)))) (.cons (.setix (.v 0) (.c (.int 0)) (.pr .fdiv (.cons (.pr .ix (.cons (.v 0) (.cons (.c (.int 0)) .nil))) (.cons (.v 1) .nil)))) (.cons (.ret (.v 2)) .nil))),none⟩
noncomputable def d_q_purse:FD:=⟨7,(.cons (.set 2 (.c (.int 0))) (.cons (.ite (.e (.pr (.cmp .lt) (.cons (.v 1) (.cons (.pr .len (.cons (.v 0) .nil)) .nil)))) (.cons (.set 2 (.pr .ix (.cons (.v 0) (.cons (.v 1) .nil)))) .nil) .nil) (.cons (.set 3 (.pr .mod (.cons (.v 2) (.cons (.pr .mul (.cons (.pr .mul (.cons (.pr .pow (.cons (.c (.int 10)) (.cons (.c (.int 60)) .nil))) (.cons (.pr .pow (.cons (.c (.int 10)) (.cons (.c (.int 60)) .nil))) .nil))) (.cons (.pr .pow (.cons (.c (.int 10)) (.cons (.c (.int 30)) .nil))) .nil))) .nil)))) (.cons (.ite (.e (.pr (.cmp .ge) (.cons (.v 3) (.cons (.pr .pow (.cons (.c (.int 10)) (.cons (.c (.int 18)) .nil))) .nil)))) (.cons (.ret (.cell (.lst (.cons (.v 3) .nil)))) .nil) .nil) (.cons (.set 4 (.pr .mod (.cons (.pr .add (.cons (.v 2) (.cons (.pr .len (.cons (.v 0) .nil)) .nil))) (.cons (.c (.int 2147483647)) .nil)))) (.cons (.set 5 (.c (.int 0))) (.cons (.fr (.v 6) (.rng (.cons (.c (.int 16)) .nil)) (.cons (.set 4 (.pr .mod (.cons (.pr .add (.cons (.pr .add (.cons (.pr .add (.cons (.pr .mul (.cons (.v 4) (.cons (.c (.int 48271)) .nil))) (.cons (.pr .mul (.cons (.v 6) (.cons (.v 6) .nil))) .nil))) (.cons (.pr .mul (.cons (.c (.int 7)) (.cons (.v 1) .nil))) .nil))) (.cons (.c (.int 1)) .nil))) (.cons (.c (.int 2147483647)) .nil)))) (.cons (.set 5 (.pr .add (.cons (.pr .mul (.cons (.v 5) (.cons (.c (.int 2147483647)) .nil))) (.cons (.v 4) .nil)))) .nil))) (.cons (.ret (.cell (.lst (.cons (.v 5) .nil)))) .nil)))))))),none⟩
noncomputable def d_q_said:FD:=⟨3,(.cons (.set 1 (.c .non)) (.cons (.tryA 1 152 (.cons (.v 0) .nil) 2 [(16,[.skip (.or (.not (.inst true)) (.one (.not (.inst true)))),.skip (.inst false),.skip (.inst false)])]) (.cons (.ret (.v 1)) .nil))),none⟩
noncomputable def d_q_due:FD:=⟨4,(.cons (.ite (.e (.pr (.cmp .eq) (.cons (.v 0) (.cons (.c (.str [110,111,110,101])) .nil)))) (.cons (.ret (.lst .nil)) .nil) .nil) (.cons (.set 1 (.cell (.lst .nil))) (.cons (.fr (.v 2) (.seq (.bm .splitS (.v 0) (.cons (.c (.str [32])) .nil))) (.cons (.set 3 (.comp 1 [] (.v 0) (.chars (.v 2)) (.e (.pr (.cmp .inS) (.cons (.v 0) (.cons (.c (.str [48,49,50,51,52,53,54,55,56,57])) .nil)))) (.v 0))) (.cons (.ite (.or (.not (.e (.chain3 .lt .eq .lt (.c (.int 0)) (.pr .len (.cons (.v 3) .nil)) (.pr .len (.cons (.v 2) .nil)) (.c (.int 4))))) (.or (.e (.pr (.cmp .ne) (.cons (.v 2) (.cons (.pr .toS (.cons (.pr .toI (.cons (.v 2) .nil)) .nil)) .nil)))) (.e (.pr (.cmp .gt) (.cons (.pr .toI (.cons (.v 2) .nil)) (.cons (.c (.int 255)) .nil)))))) (.cons (.ret (.c .non)) .nil) .nil) (.cons (.ex (.bm .append (.v 1) (.cons (.pr .toI (.cons (.v 2) .nil)) .nil))) .nil)))) (.cons (.ret (.fz (.v 1))) .nil)))),none⟩
noncomputable def d_q_other:FD:=⟨6,(.cons (.set 2 (.c (.str [32,33,34,35,36,38,39,40,41,42,43,44,45,46,47,48,49,50,51,52,53,54,55,56,57,58,59,60,61,62,63,64,65,66,67,68,69,70,71,72,73,74,75,76,77,78,79,80,81,82,83,84,85,86,87,88,89,90,91,92,93,94,95,96,97,98,99,100,101,102,103,104,105,106,107,108,109,110,111,112,113,114,115,116,117,118,119,120,121,122,123,124,125,126,10,9]))) (.cons (.set 3 (.call 500 (.cons (.v 0) (.cons (.pr .add (.cons (.pr .len (.cons (.v 1) .nil)) (.cons (.c (.int 1)) .nil))) .nil)))) (.cons (.set 4 (.pr .ix (.cons (.v 2) (.cons (.call 500 (.cons (.v 0) (.cons (.pr .len (.cons (.v 2) .nil)) .nil))) .nil)))) (.cons (.set 5 (.call 500 (.cons (.v 0) (.cons (.c (.int 4)) .nil)))) (.cons (.ite (.e (.pr (.cmp .eq) (.cons (.v 5) (.cons (.c (.int 0)) .nil)))) (.cons (.ret (.pr .add (.cons (.pr .add (.cons (.pr (.sl false true) (.cons (.v 1) (.cons (.v 3) .nil))) (.cons (.v 4) .nil))) (.cons (.pr (.sl true false) (.cons (.v 1) (.cons (.v 3) .nil))) .nil)))) .nil) .nil) (.cons (.ite (.e (.pr (.cmp .eq) (.cons (.v 5) (.cons (.c (.int 1)) .nil)))) (.cons (.ret (.pr .add (.cons (.pr (.sl false true) (.cons (.v 1) (.cons (.v 3) .nil))) (.cons (.pr (.sl true false) (.cons (.v 1) (.cons (.pr .add (.cons (.v 3) (.cons (.c (.int 1)) .nil))) .nil))) .nil)))) .nil) .nil) (.cons (.ite (.e (.pr (.cmp .eq) (.cons (.v 5) (.cons (.c (.int 2)) .nil)))) (.cons (.ret (.pr .add (.cons (.pr .add (.cons (.pr (.sl false true) (.cons (.v 1) (.cons (.v 3) .nil))) (.cons (.v 4) .nil))) (.cons (.pr (.sl true false) (.cons (.v 1) (.cons (.pr .add (.cons (.v 3) (.cons (.c (.int 1)) .nil))) .nil))) .nil)))) .nil) .nil) (.cons (.ret (.pr .add (.cons (.pr .add (.cons (.pr (.sl false true) (.cons (.v 1) (.cons (.v 3) .nil))) (.cons (.pr (.sl true true) (.cons (.v 1) (.cons (.asI (.pr .max2 (.cons (.c (.int 0)) (.cons (.pr .sub (.cons (.v 3) (.cons (.c (.int 3)) .nil))) .nil)))) (.cons (.v 3) .nil)))) .nil))) (.cons (.pr (.sl true false) (.cons (.v 1) (.cons (.v 3) .nil))) .nil)))) .nil)))))))),none⟩
noncomputable def d_q_no_text:FD:=⟨2,(.cons (.set 1 (.lst (.cons (.c (.str [])) (.cons (.c (.str [32])) (.cons (.c (.str [110,111,110,101,32])) (.cons (.c (.str [32,110,111,110,101])) (.cons (.c (.str [78,111,110,101])) (.cons (.c (.str [110,111,110,101,32,110,111,110,101])) (.cons (.c (.str [110,111,110,101,32,49])) (.cons (.c (.str [49,32,110,111,110,101])) (.cons (.c (.str [50,53,54])) (.cons (.c (.str [49,48,48,48])) (.cons (.c (.str [45,49])) (.cons (.c (.str [45,48])) .nil)))))))))))))) (.cons (.set 1 (.pr .add (.cons (.v 1) (.cons (.lst (.cons (.c (.str [43,49])) (.cons (.c (.str [48,48])) (.cons (.c (.str [48,49])) (.cons (.c (.str [49,32,32,50])) (.cons (.c (.str [32,49])) (.cons (.c (.str [49,32])) (.cons (.c (.str [49,44,50])) (.cons (.c (.str [49,46,48])) (.cons (.c (.str [49,101,50])) (.cons (.c (.str [48,120,49])) (.cons (.c (.str [49,9,50])) (.cons (.c (.str [49,10,50])) (.cons (.c (.str [49,10])) .nil)))))))))))))) .nil)))) (.cons (.set 1 (.pr .add (.cons (.v 1) (.cons (.lst (.cons (.c (.str [57,57,57])) (.cons (.c (.str [49,50,32,50,53,54])) (.cons (.c (.str [50,53,54,32,49])) (.cons (.c (.str [97])) (.cons (.c (.str [49,32,97,32,50])) .nil)))))) .nil)))) (.cons (.set 1 (.pr .add (.cons (.v 1) (.cons (.lst (.cons (.c (.str [50,32,48,51])) (.cons (.c (.str [49,95,48])) (.cons (.c (.str [50,53,53,32,50,53,53,53])) (.cons (.c (.str [49,59,50])) (.cons (.c (.str [49,47,50])) (.cons (.c (.str [45,45,49])) (.cons (.c (.str [48,32,48,48])) (.cons (.c (.str [110,111])) (.cons (.c (.str [49,32,45,50])) (.cons (.pr .mul (.cons (.c (.str [49])) (.cons (.c (.int 60)) .nil))) .nil))))))))))) .nil)))) (.cons (.ret (.pr .ix (.cons (.v 1) (.cons (.call 500 (.cons (.v 0) (.cons (.pr .len (.cons (.v 1) .nil)) .nil))) .nil)))) .nil))))),none⟩
noncomputable def d_law:FD:=⟨7,(.cons (.set 1 (.call 501 (.cons (.v 0) (.cons (.c (.int 0)) .nil)))) (.cons (.set 2 (.orS (.bm .joinS (.c (.str [32])) (.cons (.comp 1 [1] (.v 0) (.rng (.cons (.call 500 (.cons (.v 1) (.cons (.c (.int 13)) .nil))) .nil)) .tt (.pr .toS (.cons (.call 500 (.cons (.v 1) (.cons (.c (.int 256)) .nil))) .nil))) .nil)) (.c (.str [110,111,110,101])))) (.cons (.fr (.v 3) (.rng (.cons (.c (.int 8)) .nil)) (.cons (.set 1 (.call 501 (.cons (.v 0) (.cons (.pr .add (.cons (.c (.int 1)) (.cons (.v 3) .nil))) .nil)))) (.cons (.ite (.e (.pr (.cmp .notN) (.cons (.callP 502 (.cons (.call 505 (.cons (.v 1) .nil)) .nil)) (.cons (.c .non) .nil)))) (.cons (.ret (.c (.bl false))) .nil) .nil) (.cons (.set 4 (.call 504 (.cons (.v 1) (.cons (.v 2) .nil)))) (.cons (.set 5 (.callP 503 (.cons (.v 4) .nil))) (.cons (.set 6 (.callP 502 (.cons (.v 4) .nil))) (.cons (.ite (.or (.e (.pr (.cmp .ne) (.cons (.v 6) (.cons (.v 5) .nil)))) (.and (.e (.pr (.cmp .notN) (.cons (.v 5) (.cons (.c .non) .nil)))) (.e (.pr (.cmp .ne) (.cons (.callP 151 (.cons (.v 6) .nil)) (.cons (.v 4) .nil)))))) (.cons (.ret (.c (.bl false))) .nil) .nil) .nil))))))) (.cons (.ret (.pr (.cmp .eq) (.cons (.callP 502 (.cons (.v 2) .nil)) (.cons (.callP 503 (.cons (.v 2) .nil)) .nil)))) .nil)))),none⟩
noncomputable def fns:List (Nat × FD):=[(178,d_is_whole),(179,d_is_mark),(148,d_is_figures),(149,d_is_number),(150,d_read_mark),(151,d_show_marks),(152,d_read_marks),(500,d_q_take),(501,d_q_purse),(502,d_q_said),(503,d_q_due),(504,d_q_other),(505,d_q_no_text),(506,d_law)]
noncomputable def gls:List (Nat × D):=[(32,(.int 3)),(31,(.str [110,111,110,101]))]
noncomputable def mths:List ((Nat × Nat) × Nat):=[]
noncomputable def inis:List (Nat × Nat):=[]
noncomputable def P:Pg where
 fn:=fun f=>fns.lookup f
 g:=fun i=>(gls.lookup i).getD .non
 meth:=fun c m=>mths.lookup (c,m)
 ini:=fun c=>inis.lookup c
theorem p_178:P.fn 178=some d_is_whole:=rfl
theorem p_179:P.fn 179=some d_is_mark:=rfl
theorem p_148:P.fn 148=some d_is_figures:=rfl
theorem p_149:P.fn 149=some d_is_number:=rfl
theorem p_150:P.fn 150=some d_read_mark:=rfl
theorem p_151:P.fn 151=some d_show_marks:=rfl
theorem p_152:P.fn 152=some d_read_marks:=rfl
theorem p_500:P.fn 500=some d_q_take:=rfl
theorem p_501:P.fn 501=some d_q_purse:=rfl
theorem p_502:P.fn 502=some d_q_said:=rfl
theorem p_503:P.fn 503=some d_q_due:=rfl
theorem p_504:P.fn 504=some d_q_other:=rfl
theorem p_505:P.fn 505=some d_q_no_text:=rfl
theorem p_506:P.fn 506=some d_law:=rfl
theorem g_32:P.g 32=(.int 3):=rfl
theorem g_31:P.g 31=(.str [110,111,110,101]):=rfl
end K57
namespace K57
open I
local macro_rules | `(tactic| walk_at "ok") => `(tactic| simp (config := {dsimp := false}) only [walkL, walkM, Bool.not_true, Bool.not_false, true_and, and_true, List.length_cons, List.length_nil, List.length_map, true_implies, false_implies, Bool.true_eq_false, Bool.false_eq_true, reduceCtorEq, Nat.reduceEqDiff, ↓reduceIte, decide_true, decide_false, *])
theorem take_ok {W k n:Nat} {os:OS} {z m:Int} (hn:getC os n=some (.lst [.int z])) (h0:0<m) (h1:m<2 ^ 200):call P W (k+1) 500 [.cel n,.int m] os=.ok (.int (z % m)) (os.set n (some (.lst [.int (z / m)]))):=by
 have i0:ixOf (0+1) 0=some 0:=rfl
 have e0:([D.int z]:List D)[0]?=some (.int z):=rfl
 have s0:∀ d:D,([D.int z]:List D).set 0 d=[d]:=fun _=>rfl
 have:Ok (call P W (k+1) 500 [.cel n,.int m] os) (fun d os'=>d=.int (z % m)∧os'=os.set n (some (.lst [.int (z / m)]))):=by
  refine ok_callB [some (.cel n),some (.int m),none] p_500 rfl ?_
  rw [o_cons]; walk_at "ok"
  rw [o_cons]; walk_at "ok"
  rw [o_one]; walk_at "ok"
 obtain ⟨a,os',e,rfl,rfl⟩:=this.get
 exact e
set_option exponentiation.threshold 3000 in
theorem purse_ok {W k:Nat} {os:OS} {ns:List Int} {j:Int} (h0:0≤j):∃ z,call P W (k+1) 501 [.scr (intz ns),.int j] os=.ok (.cel os.length) (os++[some (.lst [.int z])]):=by
 have:Ok (call P W (k+1) 501 [.scr (intz ns),.int j] os) (fun d os'=>d=.cel os.length∧∃ z,os'=os++[some (.lst [.int z])]):=by
  refine ok_callB [some (.scr (intz ns)),some (.int j),none,none,none,none,none] p_501 rfl ?_
  rw [o_cons]; walk_at "ok"
  refine o_cut (fun ρ' os'=>∃ c:Int,ρ'=[some (.scr (intz ns)),some (.int j),some (.int c),none,none,none,none]∧os=os') ?_ ?_
  ·walk_at "ok"
   refine ⟨fun h => ?_,fun h => ?_⟩
   ·have hj:=of_decide_eq_true h
    have e1:=ix_pos h0 hj
    have e2:=get_ints (a:=ns) (i:=j.toNat) (by omega)
    rw [o_one]; walk_at "ok"
    exact ⟨_,rfl⟩
   ·exact ⟨_,rfl⟩
  ·rintro ρ' os' ⟨c,rfl,rfl⟩
   rw [o_cons]; walk_at "ok"
   refine ⟨by decide,by decide,mulOk_big (by decide) (by decide),by decide,mulOk_big (by decide) (by decide),by decide,?_⟩
   generalize c % _=dg
   rw [o_cons]; walk_at "ok"
   refine ⟨by decide,fun _ => ?_,fun _ => ?_⟩
   ·rw [o_one]; walk_at "ok"
    exact ⟨_,rfl⟩
   ·rw [o_cons]; walk_at "ok"
    refine ⟨by decide,?_⟩
    have m0:0≤(c+(ns.length:Int)) % 2147483647:=Int.emod_nonneg _ (by decide)
    have m1:(c+(ns.length:Int)) % 2147483647<2147483647:=Int.emod_lt_of_pos _ (by decide)
    generalize (c+(ns.length:Int)) % 2147483647=mx at m0 m1
    rw [o_cons]; walk_at "ok"
    refine o_cut (fun ρ' os'=>∃ a b d:Int,ρ'=[some (.scr (intz ns)),some (.int j),some (.int c),some (.int dg),some (.int a),some (.int b),some (.int d)]∧os=os') ?_ ?_
    ·walk_at "ok"
     refine ⟨by decide,o_forL (fun i ρ' os'=>∃ a b:Int,∃ d:Option D,(i≠0→∃ d',d=some (.int d'))∧ρ'=[some (.scr (intz ns)),some (.int j),some (.int c),some (.int dg),some (.int a),some (.int b),d]∧os=os') _ ⟨mx,0,none,fun h=>absurd rfl h,rfl,rfl⟩ ?_ ?_⟩
     ·rintro i x ρ' os' hx ⟨a,b,d,_,rfl,rfl⟩
      obtain ⟨hi,rfl⟩:=rng_get hx
      refine ⟨True.intro,_,rfl,?_⟩
      rw [o_cons]; walk_at "ok"
      refine ⟨mulOk_sm' (by decide),mulOk_sm (by have:i<16:=hi; simp only [Int.natAbs_natCast]; omega),mulOk_sm (by decide),by decide,?_⟩
      rw [o_one]; walk_at "ok"
      exact ⟨mulOk_sm' (by decide),.inl ⟨_,_,_,fun _=>⟨_,rfl⟩,rfl⟩⟩
     ·rintro ρ' os' ⟨a,b,d,hd,rfl,rfl⟩
      obtain ⟨d',rfl⟩:=hd (by simp)
      exact ⟨True.intro,rfl,a,b,d',rfl,rfl⟩
    ·rintro ρ' os' ⟨a,b,d,rfl,rfl⟩
     rw [o_one]; walk_at "ok"
     exact ⟨_,rfl⟩
 obtain ⟨a,os',e,rfl,z,rfl⟩:=this.get
 exact ⟨z,e⟩
noncomputable def Dr (os:OS) (n:Nat):Prop:=∃ z:Int,getC os n=some (.lst [.int z])
theorem take_use {W k n:Nat} {os:OS} {m:Int} {Ψ:D→OS→Prop} (h:Dr os n) (h0:0<m) (h1:m<2 ^ 200) (hq:∀ v os',0≤v→v<m→Dr os' n→(∀ q,q≠n→getC os' q=getC os q)→os'.length=os.length→Ψ (.int v) os'):Ok (call P W (k+1) 500 [.cel n,.int m] os) Ψ:=by
 obtain ⟨z,h⟩:=h
 rw [take_ok h h0 h1,ok_ok]
 exact hq _ _ (Int.emod_nonneg _ (by omega)) (Int.emod_lt_of_pos _ h0) ⟨_,get_same (get_lt h)⟩ (fun q hq=>get_other fun e=>hq e.symm) (by rw [List.length_set])
noncomputable def wh:D→Bool
 | .int _=>true
 | _=>false
noncomputable def mk:D→Bool
 | .int i=>decide (0≤i)&&decide (i≤255)
 | _=>false
noncomputable def tx:D→Bool
 | .lst xs=>xs.all mk
 | _=>false
mutual
theorem pl_low:∀ (d:D) {n m:Nat},D.pl n d=true→d.low m=true
 | .non,_,_,_=>rfl
 | .bl _,_,_,_=>rfl
 | .int _,_,_,_=>rfl
 | .str _,_,_,_=>rfl
 | .lst xs,n,m,p=>by
  cases n with
  | zero=>cases p
  | succ k=>exact pls_low xs (List.all_eq_true.mp p)
 | .tup xs,n,m,p=>by
  cases n with
  | zero=>cases p
  | succ k=>exact pls_low xs (List.all_eq_true.mp p)
 | .scr _,n,_,p=>by cases n <;> cases p
 | .ktu _,n,_,p=>by cases n <;> cases p
 | .cel _,n,_,p=>by cases n <;> cases p
 | .exn _ _,n,_,p=>by cases n <;> cases p
theorem pls_low:∀ (xs:List D) {n m:Nat},(∀ x∈xs,D.pl n x=true)→D.lows m xs=true
 | [],_,_,_=>rfl
 | x::r,_,_,h=>by
  show (x.low _&&D.lows _ r)=true
  rw [pl_low x (h x (.head _)),pls_low r fun y hy=>h y (.tail _ hy)]; rfl
end
theorem isT_ok {os:OS} {n:Nat} {d:D} (h:D.pl n d=true):pr (.isInst .int) [d] os=.ok (.bl (match d with | .int _=>true | .bl _=>true | _=>false)) os∧pr (.isInst .bool) [d] os=.ok (.bl (match d with | .bl _=>true | _=>false)) os∧pr (.isInst .list) [d] os=.ok (.bl (match d with | .lst _=>true | _=>false)) os:=by
 cases d <;> first | exact ⟨rfl,rfl,rfl⟩ | (cases n <;> cases h)
theorem whole178 {W k n:Nat} {os:OS} {d:D} (h:D.pl n d=true):pure1 os (call P W (k+1) 178 [d] os)=.ok (.bl (wh d)) os:=by
 have:call P W (k+1) 178 [d] os=.ok (.bl (wh d)) os:=by
  refine Ok.eq ?_
  refine ok_callB [some d] p_178 rfl ?_
  obtain ⟨h1,h2,h3⟩:=isT_ok (os:=os) h
  rw [o_one]
  cases d with
  | int i=>walk_at "ok"; rfl
  | bl b=>walk_at "ok"; rfl
  | non=>walk_at "ok"; exact ⟨rfl,rfl⟩
  | str s=>walk_at "ok"; exact ⟨rfl,rfl⟩
  | lst xs=>walk_at "ok"; rfl
  | tup xs=>walk_at "ok"; rfl
  | _=>cases n <;> cases h
 rw [this]; exact pu_bl
theorem mark179 {W k n:Nat} {os:OS} {d:D} (h:D.pl n d=true):pure1 os (call P W (k+2) 179 [d] os)=.ok (.bl (mk d)) os:=by
 have:call P W (k+2) 179 [d] os=.ok (.bl (mk d)) os:=by
  refine Ok.eq ?_
  refine ok_callB [some d] p_179 rfl ?_
  have w0:=whole178 (W:=W) (k:=k) (os:=os) h
  rw [o_one]
  cases d with
  | int i =>
   have w1:wh (.int i)=true:=rfl
   rw [w1] at w0
   walk_at "ok"
   refine ⟨fun h => ?_,fun h => ?_⟩
   ·show D.bl (decide (i≤255))=D.bl (decide (0≤i)&&decide (i≤255)); rw [h]; rfl
   ·show D.bl false=D.bl (decide (0≤i)&&decide (i≤255)); rw [h]; rfl
  | bl b=>have w1:wh (.bl b)=false:=rfl; rw [w1] at w0; walk_at "ok"; rfl
  | non=>have w1:wh .non=false:=rfl; rw [w1] at w0; walk_at "ok"; rfl
  | str s=>have w1:wh (.str s)=false:=rfl; rw [w1] at w0; walk_at "ok"; rfl
  | lst xs=>have w1:wh (.lst xs)=false:=rfl; rw [w1] at w0; walk_at "ok"; rfl
  | tup xs=>have w1:wh (.tup xs)=false:=rfl; rw [w1] at w0; walk_at "ok"; rfl
  | _=>cases n <;> cases h
 rw [this]; exact pu_bl
section
variable {P:Pg} {K:Orc} {W:Nat} {ρ ρ':Fr} {os os':OS}
theorem ex_nx {s:S} {r:Ss} (h:exec P K W s ρ os=.ok (.nx,ρ') os'):execs P K W (.cons s r) ρ os=execs P K W r ρ' os':=by
 show (exec P K W s ρ os).bind (k:=⟨seqK (k:=⟨fun ρ1 os1=>execs P K W r ρ1 os1⟩)⟩)=_
 rw [h]; rfl
theorem ex_exc {s:S} {r:Ss} {c:Nat} {p:Option Int} (h:exec P K W s ρ os=.exc c p os'):execs P K W (.cons s r) ρ os=.exc c p os':=by
 show (exec P K W s ρ os).bind (k:=⟨seqK (k:=⟨fun ρ1 os1=>execs P K W r ρ1 os1⟩)⟩)=_
 rw [h]; rfl
theorem ex_ite {c:C} {a b:Ss} {t:Bool} (h:evC P K c ρ os=.ok t os'):exec P K W (.ite c a b) ρ os=if t=true then execs P K W a ρ os' else execs P K W b ρ os':=by
 show (evC P K c ρ os).bind (k:=⟨iteK (a:=⟨fun os1=>execs P K W a ρ os1⟩) (b:=⟨fun os1=>execs P K W b ρ os1⟩)⟩)=_
 rw [h]
 cases t <;> rfl
end
theorem low_ints {n:Nat}:∀ (xs:List Int),D.lows n (intz xs)=true
 | []=>rfl
 | _::r=>by
  show (_&&_)=true
  rw [low_ints r]; rfl
theorem low_lst {n:Nat} (xs:List Int):(D.lst (intz xs)).low n=true:=low_ints xs
noncomputable def Asc (s:List Nat):Prop:=∀ c∈s,c<128
noncomputable def fg (w:List Nat):Bool:=!w.isEmpty&&w.all isFig
noncomputable def nb (w:List Nat):Bool:=fg w&&decide (w.length≤3)&&(decide (w=[48]) || !([48].isPrefixOf w))
noncomputable def isW (w:List Nat):Bool:=nb w&&decide (dval w≤255)
theorem fg3:∀ a b c:Fin 10,((decide ([48+a.val]=[48]) || !(([48]:List Nat).isPrefixOf [48+a.val]))=decide (digs (dval [48+a.val])=[48+a.val]))∧((decide ([48+a.val,48+b.val]=[48]) || !(([48]:List Nat).isPrefixOf [48+a.val,48+b.val]))=decide (digs (dval [48+a.val,48+b.val])=[48+a.val,48+b.val])) ∧
  ((decide ([48+a.val,48+b.val,48+c.val]=[48]) || !(([48]:List Nat).isPrefixOf [48+a.val,48+b.val,48+c.val]))=decide (digs (dval [48+a.val,48+b.val,48+c.val])=[48+a.val,48+b.val,48+c.val])):=by decide +kernel
theorem fig_of {c:Nat} (h:isFig c=true):∃ a:Fin 10,c=48+a.val:=by
 unfold isFig at h
 rw [Bool.and_eq_true] at h
 have h1:=of_decide_eq_true h.1
 have h2:=of_decide_eq_true h.2
 exact ⟨⟨c - 48,by omega⟩,by show c=48+(c - 48); omega⟩
theorem nb_eq {w:List Nat} (h1:fg w=true) (h2:w.length≤3):(decide (w=[48]) || !([48].isPrefixOf w))=decide (digs (dval w)=w):=by
 unfold fg at h1
 rw [Bool.and_eq_true] at h1
 have hf:=List.all_eq_true.mp h1.2
 match w,h1.1,h2,hf with
 | [],h,_,_=>cases h
 | [a],_,_,hf =>
  obtain ⟨a',rfl⟩:=fig_of (hf a (by simp))
  exact (fg3 a' 0 0).1
 | [a,b],_,_,hf =>
  obtain ⟨a',rfl⟩:=fig_of (hf a (by simp))
  obtain ⟨b',rfl⟩:=fig_of (hf b (by simp))
  exact (fg3 a' b' 0).2.1
 | [a,b,c],_,_,hf =>
  obtain ⟨a',rfl⟩:=fig_of (hf a (by simp))
  obtain ⟨b',rfl⟩:=fig_of (hf b (by simp))
  obtain ⟨c',rfl⟩:=fig_of (hf c (by simp))
  exact (fg3 a' b' c').2.2
 | _::_::_::_::_,_,h2,_=>simp at h2
theorem digs_fig:∀ n:Fin 256,((digs n.val).all isFig&&decide ((digs n.val).length≤3) && !(digs n.val).isEmpty&&decide (dval (digs n.val)=n.val))=true:=by decide +kernel
theorem asBs {α:Type} (f:α→Bool):∀ xs:List α,asBools (xs.map fun x=>.bl (f x))=some (xs.map f)
 | []=>rfl
 | x::r=>by
  show (asBools (r.map fun x=>.bl (f x))).map (f x :: ·)=_
  rw [asBs f r]; rfl
theorem comp_map {α:Type} {os:OS} {f:Kt D (Option D)} {live:OS→Prop} [DecidablePred live] {Φ:List D→OS→Prop} (hl:live os) (c g:α→D):∀ (xs:List α),(∀ a∈xs,Ok (f.go (c a) os) (fun y os'=>y=some (g a)∧os'=os))→Φ (xs.map g) os→Ok (compL (f:=f) live (xs.map c) os) Φ:=by
 intro xs h hq
 refine ok_compI (fun i done os3=>i≤xs.length∧done=(xs.take i).map g∧os3=os) _ [] [] ⟨Nat.zero_le _,rfl,rfl⟩ ?_ ?_ ?_
 ·rintro i x done os3 hx ⟨h1,rfl,rfl⟩
  rw [List.nil_append,List.getElem?_map] at hx
  obtain ⟨a,ha,rfl⟩:=Option.map_eq_some_iff.mp hx
  have hi:=(List.getElem?_eq_some_iff.mp ha).1
  refine ⟨hl,(h a (List.mem_of_getElem? ha)).mono fun y os' z => ?_⟩
  obtain ⟨rfl,rfl⟩:=z
  refine ⟨hi,?_,rfl⟩
  rw [List.take_add_one,ha,List.map_append]; rfl
 ·rintro done os3 ⟨_,rfl,rfl⟩
  exact hl
 ·rintro zs os3 ⟨_,e,rfl⟩
  rw [List.nil_append,List.nil_append,List.length_map,List.take_length] at e
  subst e
  exact hq
theorem eq_str {a b:List Nat} (ha:Asc a) (hb:Asc b):D.eq (.str a) (.str b)=some (decide (a=b)):=by
 have:(D.pl 60 (.str a)&&D.pl 60 (.str b)&&D.nm (.str a) (.str b))=true:=by
  rw [Bool.and_eq_true,Bool.and_eq_true]
  refine ⟨⟨List.all_eq_true.mpr fun c hc=>decide_eq_true (by have:=ha c hc; omega),List.all_eq_true.mpr fun c hc=>decide_eq_true (by have:=hb c hc; omega)⟩,rfl⟩
 unfold D.eq
 rw [if_pos this]; rfl
theorem figures_ok {W k:Nat} {os:OS} {w:List Nat} (ha:Asc w) (hl:w.length≤1000):pure1 os (call P W (k+1) 148 [.str w] os)=.ok (.bl (fg w)) os:=by
 have:call P W (k+1) 148 [.str w] os=.ok (.bl (fg w)) os:=by
  refine Ok.eq ?_
  refine ok_callB [some (.str w)] p_148 rfl ?_
  have hz:w.length≤SZ:=by unfold SZ; omega
  have h4:(w.all fun c=>decide (c<128))=true:=List.all_eq_true.mpr fun c hc=>decide_eq_true (ha c hc)
  by_cases h0:w=[]
  ·subst h0
   have c1:decide (0<(([]:List Nat).length:Int))=false:=rfl
   clear ha h4
   rw [o_one]; walk_at "ok"
   exact ⟨Nat.zero_le _,fun z=>absurd z (by decide),fun _=>rfl⟩
  ·have h1:0<w.length:=List.length_pos_iff.mpr h0
   have c1:decide (0<(w.length:Int))=true:=decide_eq_true (by omega)
   have hf:fg w=w.all isFig:=by
    unfold fg
    cases w with
    | nil=>exact absurd rfl h0
    | cons a r=>rfl
   rw [hf]
   rw [o_one]; walk_at "ok"
   refine comp_map trivial (fun c=>D.str [c]) (fun c=>.bl (isFig c)) w (fun c hc => ?_) ?_
   ·obtain ⟨b1,e1⟩:∃ b,decide (48≤c)=b:=⟨_,rfl⟩
    obtain ⟨b2,e2⟩:∃ b,decide (c≤57)=b:=⟨_,rfl⟩
    have e3:isFig c=(b1&&b2):=by unfold isFig; rw [e1,e2]
    rw [e3]
    refine o_turn ⟨[some (.str [c])],rfl,?_⟩
    clear h4 hc ha hf e3
    cases b1
    ·walk_at "ok"
     rfl
    ·walk_at "ok"
     rfl
   ·have a1:pr .all [.lst (w.map fun c=>.bl (isFig c))] os=.ok (.bl (w.all isFig)) os:=by
     show I.R.ofO ((asBools (w.map fun c=>.bl (isFig c))).map fun bs=>D.bl (bs.all id)) os=_
     rw [asBs isFig w]
     have:(w.map isFig).all id=w.all isFig:=by rw [List.all_map]; rfl
     show I.R.ofO (some (D.bl ((w.map isFig).all id))) os=_
     rw [this]; rfl
    clear h4 ha hf
    walk_at "ok"
 rw [this]; exact pure1_ok' rfl
theorem number_ok {W k:Nat} {os:OS} {w:List Nat} (ha:Asc w) (hl:w.length≤1000):pure1 os (call P W (k+2) 149 [.str w,.int 3] os)=.ok (.bl (nb w)) os:=by
 have:call P W (k+2) 149 [.str w,.int 3] os=.ok (.bl (nb w)) os:=by
  refine Ok.eq ?_
  refine ok_callB [some (.str w),some (.int 3)] p_149 rfl ?_
  have fo:=figures_ok (W:=W) (k:=k) (os:=os) ha hl
  have hz:w.length≤SZ:=by unfold SZ; omega
  have eqE:D.eq (.str w) (.str [48])=some (decide (w=[48])):=eq_str ha (by intro c hc; simp at hc; omega)
  unfold nb
  obtain ⟨f,hf⟩:∃ f,fg w=f:=⟨_,rfl⟩
  obtain ⟨b1,h1⟩:∃ b,decide (w=[48])=b:=⟨_,rfl⟩
  obtain ⟨b2,h2⟩:∃ b,([48]:List Nat).isPrefixOf w=b:=⟨_,rfl⟩
  rw [hf] at fo
  rw [h1] at eqE
  rw [hf,h1,h2]
  clear hf ha
  by_cases h3:w.length≤3
  ·rw [decide_eq_true h3]
   have c2:decide (3<(w.length:Int))=false:=decide_eq_false (by omega)
   cases f with
   | false =>
    rw [o_cons]; walk_at "ok"
    rw [o_one]; walk_at "ok"
    rfl
   | true =>
    refine o_cut (fun ρ' os'=>os'=os∧ρ'=[some (.str w),some (.int 3)]) ?_ ?_
    ·clear eqE h1 h2; walk_at "ok"
    ·rintro ρ' os' ⟨rfl,rfl⟩
     clear fo c2 h1
     rw [o_one]
     cases b1
     ·walk_at "ok"
      cases b2 <;> rfl
     ·walk_at "ok"
      cases b2 <;> rfl
  ·rw [decide_eq_false h3]
   have c2:decide (3<(w.length:Int))=true:=decide_eq_true (by omega)
   cases f with
   | false =>
    rw [o_cons]; walk_at "ok"
    rw [o_one]; walk_at "ok"
    rfl
   | true =>
    rw [o_cons]; walk_at "ok"
    rw [o_one]; walk_at "ok"
    rfl
 rw [this]; exact pure1_ok' rfl
theorem fg_of {w:List Nat} (h:nb w=true):fg w=true∧w.length≤3:=by
 unfold nb at h
 rw [Bool.and_eq_true,Bool.and_eq_true] at h
 exact ⟨h.1.1,of_decide_eq_true h.1.2⟩
theorem markX {W k:Nat} {os:OS} {w:List Nat} (ha:Asc w) (hl:w.length≤1000):pure1 os (call P W (k+3) 150 [.str w] os)=if isW w=true then .ok (.int (dval w:Nat)) os else .exc 16 none os:=by
 have nu:=number_ok (W:=W) (k:=k) (os:=os) ha hl
 have g32:=g_32
 have c:call P W (k+3) 150 [.str w] os=if isW w=true then .ok (.int (dval w:Nat)) os else .exc 16 none os:=by
  have ex:evC P (call P W (k+2)) (.or (.not (.e (.callP 149 (.cons (.v 0) (.cons (.g 32) .nil))))) (.not (.e (.callP 179 (.cons (.pr .toI (.cons (.v 0) .nil)) .nil))))) [some (.str w)] os=.ok (!isW w) os:=by
   refine Ok.eq ?_
   unfold isW
   cases hn:nb w with
   | false =>
    rw [hn] at nu
    clear ha hn
    walk_at "ok"
    rfl
   | true =>
    obtain ⟨h1,h2⟩:=fg_of hn
    rw [hn] at nu
    have h1:(!w.isEmpty&&w.all isFig)=true:=h1
    have l6:w.length≤600:=by omega
    have mk1:=mark179 (W:=W) (k:=k) (n:=0) (os:=os) (d:=.int (dval w:Nat)) rfl
    have e:mk (.int (dval w:Nat))=decide (dval w≤255):=by
     show (decide (0≤((dval w:Nat):Int))&&decide (((dval w:Nat):Int)≤255))=_
     rw [decide_eq_true (by omega),Bool.true_and]
     by_cases h:dval w≤255
     ·rw [decide_eq_true h,decide_eq_true (by omega)]
     ·rw [decide_eq_false h,decide_eq_false (by omega)]
    rw [e] at mk1
    obtain ⟨b,hb⟩:∃ b,decide (dval w≤255)=b:=⟨_,rfl⟩
    rw [hb] at mk1
    rw [hb]
    clear ha hn e hb h2
    walk_at "ok"
    rw [Bool.true_and]
  rw [call_succ,p_150]
  show ended (execs P (call P W (k+2)) W _ [some (.str w)] os)=_
  cases hw:isW w with
  | false =>
   rw [hw] at ex
   exact congrArg ended (ex_exc ((ex_ite ex).trans rfl))
  | true =>
   rw [hw] at ex
   obtain ⟨h1,h2⟩:=fg_of (show nb w=true from by unfold isW at hw; rw [Bool.and_eq_true] at hw; exact hw.1)
   have h1:(!w.isEmpty&&w.all isFig)=true:=h1
   have gd1:(!w.isEmpty&&w.all isFig)=true∧w.length≤600:=⟨h1,by omega⟩
   refine (congrArg ended (ex_nx ((ex_ite ex).trans rfl))).trans ?_
   refine Eq.trans ?_ (if_pos rfl).symm
   have:execs P (call P W (k+2)) W (.cons (.ret (.pr .toI (.cons (.v 0) .nil))) .nil) [some (.str w)] os=.ok (.rt (.int (dval w:Nat)),[some (.str w)]) os:=by
    refine Ok.eq ?_
    rw [o_one]
    clear ex nu
    walk_at "ok"
   rw [this]; rfl
 rw [c]
 split
 ·exact pure1_ok' rfl
 ·exact pure1_exc'
noncomputable def NON:List Nat:=[110,111,110,101]
theorem non_asc:Asc NON:=by unfold Asc NON; decide
noncomputable def dueW:List (List Nat)→Option (List Int)
 | []=>some []
 | w::r=>if isW w=true then (dueW r).map ((dval w:Nat) :: ·) else none
noncomputable def due (s:List Nat):Option (List Int):=if s=NON then some [] else dueW (splitC 32 s)
noncomputable def dD:Option (List Int)→D
 | some t=>.lst (intz t)
 | none=>.non
noncomputable def rX {α:Type} (f:List Int→α) (os:OS):Option (List Int)→R α
 | some t=>.ok (f t) os
 | none=>.exc 16 none os
theorem comp_due {f:Kt D (Option D)} {live:OS→Prop} [DecidablePred live] {os:OS} (hl:live os):∀ (ws:List (List Nat)),(∀ w∈ws,f.go (.str w) os=if isW w=true then .ok (some (.int (dval w:Nat))) os else .exc 16 none os)→compL (f:=f) live (ws.map .str) os=rX intz os (dueW ws)
 | [],_=>by
  show (if live os then R.ok [] os else .stk)=_
  rw [if_pos hl]; rfl
 | w::r,h=>by
  have ih:=comp_due hl r fun w hw=>h w (.tail _ hw)
  show (if live os then (f.go (.str w) os).bind (k:=⟨fun y os1=>(compL live (r.map .str) os1).bind (k:=⟨fun ys os2=>.ok (consO y ys) os2⟩)⟩) else .stk)=_
  rw [if_pos hl,h w (.head _)]
  unfold dueW
  cases hw:isW w with
  | false=>rfl
  | true =>
   show (compL live (r.map .str) os).bind (k:=⟨fun ys os2=>.ok (consO (some (.int (dval w:Nat))) ys) os2⟩)=rX intz os ((dueW r).map ((dval w:Nat) :: ·))
   rw [ih]
   cases dueW r <;> rfl
theorem split_asc {s:List Nat} (h:Asc s):∀ w∈splitC 32 s,Asc w∧w.length≤s.length:=by
 induction s with
 | nil =>
  intro w hw
  rw [show splitC 32 []=[[]] from rfl] at hw
  rw [List.mem_singleton.mp hw]
  exact ⟨(fun _ z=>by cases z),Nat.le_refl _⟩
 | cons a r ih =>
  have ih:=ih fun c hc=>h c (.tail _ hc)
  intro w hw
  have ha:=h a (.head _)
  have hw:w∈(if a=32 then []::splitC 32 r else match splitC 32 r with | []=>[[a]] | w::ws=>(a::w)::ws):=hw
  split at hw
  ·rcases List.mem_cons.mp hw with rfl | hw
   ·exact ⟨(fun _ z=>by cases z),Nat.zero_le _⟩
   ·exact ⟨(ih w hw).1,Nat.le_succ_of_le (ih w hw).2⟩
  ·cases e:splitC 32 r with
   | nil =>
    rw [e] at hw
    rw [List.mem_singleton.mp hw]
    exact ⟨(fun c hc=>by rw [List.mem_singleton.mp hc]; exact ha),by simp⟩
   | cons v ws =>
    rw [e] at hw
    rcases List.mem_cons.mp hw with rfl | hw
    ·have:=ih v (by rw [e]; exact .head _)
     refine ⟨fun c hc => ?_,Nat.succ_le_succ this.2⟩
     rcases List.mem_cons.mp hc with rfl | hc
     ·exact ha
     ·exact this.1 c hc
    ·have:=ih w (by rw [e]; exact .tail _ hw)
     exact ⟨this.1,Nat.le_succ_of_le this.2⟩
theorem split_len {s:List Nat}:(splitC 32 s).length≤s.length+1:=by
 induction s with
 | nil=>exact Nat.le_refl _
 | cons a r ih =>
  show (if a=32 then []::splitC 32 r else match splitC 32 r with | []=>[[a]] | w::ws=>(a::w)::ws).length≤_
  split
  ·rw [List.length_cons,List.length_cons]; omega
  ·cases e:splitC 32 r with
   | nil=>simp
   | cons v ws=>rw [e] at ih; simp only [List.length_cons] at ih ⊢; omega
theorem readX {W k:Nat} {os:OS} {s:List Nat} (ha:Asc s) (hl:s.length≤1000):call P W (k+4) 152 [.str s] os=rX (fun t=>.lst (intz t)) os (due s):=by
 rw [call_succ,p_152]
 show ended (execs P (call P W (k+3)) W _ [some (.str s)] os)=_
 have s1:exec P (call P W (k+3)) W (.ite (.not (.e (.pr (.isInst .str) (.cons (.v 0) .nil)))) (.cons (.raise 16 (.cons (.c (.str [116,104,105,115,32,105,115,32,110,111,32,116,101,120,116])) .nil)) .nil) .nil) [some (.str s)] os=.ok (.nx,[some (.str s)]) os:=rfl
 have eqE:=eq_str ha non_asc
 have e2:evC P (call P W (k+3)) (.e (.pr (.cmp .eq) (.cons (.v 0) (.cons (.g 31) .nil)))) [some (.str s)] os=.ok (decide (s=NON)) os:=by
  refine Ok.eq ?_
  have g:=g_31
  have eqE:D.eq (.str s) (.str [110,111,110,101])=some (decide (s=NON)):=eqE
  generalize decide (s=NON)=b at *
  clear ha
  walk_at "ok"
 refine (congrArg ended (ex_nx s1)).trans ?_
 unfold due
 by_cases h0:s=NON
 ·rw [decide_eq_true h0] at e2
  rw [if_pos h0]
  show ended ((exec P (call P W (k+3)) W (.ite _ _ _) [some (.str s)] os).bind (k:=_))=_
  rw [ex_ite e2]
  rfl
 ·rw [decide_eq_false h0] at e2
  rw [if_neg h0]
  have s2:exec P (call P W (k+3)) W (.ite (.e (.pr (.cmp .eq) (.cons (.v 0) (.cons (.g 31) .nil)))) (.cons (.ret (.lst .nil)) .nil) .nil) [some (.str s)] os=.ok (.nx,[some (.str s)]) os:=by
   rw [ex_ite e2]; rfl
  refine (congrArg ended (ex_nx s2)).trans ?_
  have sp:=split_asc ha
  have sl:=split_len (s:=s)
  have ei:evI P (call P W (k+3)) (.seq (.bm .splitS (.v 0) (.cons (.c (.str [32])) .nil))) [some (.str s)] os=.ok ([.lst ((splitC 32 s).map .str)],(splitC 32 s).map .str) os:=by
   refine Ok.eq ?_
   have l6:s.length≤1000000:=by omega
   clear ha s1 s2 e2 eqE sp hl
   walk_at "ok"
  have ec:ev P (call P W (k+3)) (.compX 1 [] (.v 0) (.seq (.bm .splitS (.v 0) (.cons (.c (.str [32])) .nil))) .tt (.callP 150 (.cons (.v 0) .nil))) [some (.str s)] os=rX (fun t=>.lst (intz t)) os (dueW (splitC 32 s)):=by
   show @R.bind _ _ (evI P (call P W (k+3)) (.seq (.bm .splitS (.v 0) (.cons (.c (.str [32])) .nil))) [some (.str s)] os) ⟨_⟩=_
   rw [ei]
   rw [bind_ok,gd_pos (by show ((splitC 32 s).map D.str).length≤SZ; rw [List.length_map]; unfold SZ; omega)]
   rw [comp_due (by trivial) (splitC 32 s) fun w hw => ?_]
   ·cases dueW (splitC 32 s) <;> rfl
   ·have mx:=markX (W:=W) (k:=k) (os:=os) (sp w hw).1 (by have:=(sp w hw).2; omega)
    show @R.bind _ _ (pure1 os (call P W (k+3) 150 [.str w] os)) ⟨fun y os6=>.ok (some y) os6⟩=_
    rw [mx]
    cases isW w <;> rfl
  show ended (@R.bind _ _ (@R.bind _ _ (ev P (call P W (k+3)) (.compX 1 [] (.v 0) (.seq (.bm .splitS (.v 0) (.cons (.c (.str [32])) .nil))) .tt (.callP 150 (.cons (.v 0) .nil))) [some (.str s)] os) ⟨_⟩) ⟨_⟩)=_
  rw [ec]
  cases dueW (splitC 32 s) <;> rfl
theorem said_ok {W k:Nat} {os:OS} {s:List Nat} (ha:Asc s) (hl:s.length≤1000):pure1 os (call P W (k+5) 502 [.str s] os)=.ok (dD (due s)) os:=by
 have:call P W (k+5) 502 [.str s] os=.ok (dD (due s)) os:=by
  refine Ok.eq ?_
  refine ok_callB [some (.str s),none,none] p_502 rfl ?_
  have rd:=readX (W:=W) (k:=k) (os:=os) ha hl
  rw [o_cons]; walk_at "ok"
  cases hd:due s with
  | none =>
   rw [hd] at rd
   replace rd:call P W (k+4) 152 [.str s] os=.exc 16 none os:=rd
   clear ha hd
   rw [o_cons]; walk_at "ok"
   have hk:∀ hs,tryKA 1 2 ((16,hs)::[]) [some (.str s),some .non,none] (.exc 16 none os)=hdl 2 [some (.str s),some .non,none] os (some hs):=fun _=>rfl
   rw [hk]
   show Ok (R.ok (Flow.nx,[some (D.str s),some D.non,none]) os) _
   walk_at "ok"
   rw [o_one]; walk_at "ok"
   rfl
  | some t =>
   rw [hd] at rd
   replace rd:call P W (k+4) 152 [.str s] os=.ok (.lst (intz t)) os:=rd
   clear ha hd
   rw [o_cons]; walk_at "ok"
   rw [o_one]; walk_at "ok"
   rfl
 rw [this]
 refine pure1_ok' ?_
 cases due s with
 | none=>rfl
 | some t=>exact low_lst t
theorem getC_end {os:OS} {c:Cell}:getC (os++[some c]) os.length=some c:=by rw [get_end]
theorem dueW_none:∀ {ws:List (List Nat)} {w:List Nat},w∈ws→isW w=false→dueW ws=none
 | [],_,h,_=>by cases h
 | v::r,w,h,e=>by
  unfold dueW
  rcases List.mem_cons.mp h with rfl | h
  ·rw [e]; rfl
  ·rw [dueW_none h e]
   split <;> rfl
theorem dueW_all:∀ {ws:List (List Nat)},(∀ w∈ws,isW w=true)→dueW ws=some (ws.map fun w=>((dval w:Nat):Int))
 | [],_=>rfl
 | v::r,h=>by
  unfold dueW
  rw [if_pos (h v (.head _)),dueW_all fun w hw=>h w (.tail _ hw)]; rfl
theorem in_fig (c:Nat):decide (c∈([48,49,50,51,52,53,54,55,56,57]:List Nat))=isFig c:=by
 unfold isFig
 rw [Bool.eq_iff_iff]
 simp
 omega
theorem dv3:∀ a b c:Fin 10,dval [48+a.val]<1000∧dval [48+a.val,48+b.val]<1000∧dval [48+a.val,48+b.val,48+c.val]<1000:=by decide +kernel
theorem dval_lt {w:List Nat} (h1:fg w=true) (h2:w.length≤3):dval w<1000:=by
 unfold fg at h1
 rw [Bool.and_eq_true] at h1
 have hf:=List.all_eq_true.mp h1.2
 match w,h1.1,h2,hf with
 | [],h,_,_=>cases h
 | [a],_,_,hf =>
  obtain ⟨a',rfl⟩:=fig_of (hf a (by simp))
  exact (dv3 a' 0 0).1
 | [a,b],_,_,hf =>
  obtain ⟨a',rfl⟩:=fig_of (hf a (by simp))
  obtain ⟨b',rfl⟩:=fig_of (hf b (by simp))
  exact (dv3 a' b' 0).2.1
 | [a,b,c],_,_,hf =>
  obtain ⟨a',rfl⟩:=fig_of (hf a (by simp))
  obtain ⟨b',rfl⟩:=fig_of (hf b (by simp))
  obtain ⟨c',rfl⟩:=fig_of (hf c (by simp))
  exact (dv3 a' b' c').2.2
 | _::_::_::_::_,_,h2,_=>simp at h2
theorem digs_asc:∀ n:Fin 1000,((digs n.val).all fun c=>decide (c<128))=true:=by decide +kernel
theorem dig_asc {n:Nat} (h:n<1000):Asc (digs n):=fun c hc=>of_decide_eq_true (List.all_eq_true.mp (digs_asc ⟨n,h⟩) c hc)
theorem comp_flt {α:Type} {os:OS} {f:Kt D (Option D)} {live:OS→Prop} [DecidablePred live] {Φ:List D→OS→Prop} (hl:live os) (p:α→Bool) (c:α→D):∀ (xs:List α),(∀ a∈xs,Ok (f.go (c a) os) (fun y os'=>y=(if p a=true then some (c a) else none)∧os'=os))→Φ ((xs.filter p).map c) os→Ok (compL (f:=f) live (xs.map c) os) Φ:=by
 intro xs h hq
 refine ok_compI (fun i done os3=>i≤xs.length∧done=((xs.take i).filter p).map c∧os3=os) _ [] [] ⟨Nat.zero_le _,rfl,rfl⟩ ?_ ?_ ?_
 ·rintro i x done os3 hx ⟨h1,rfl,rfl⟩
  rw [List.nil_append,List.getElem?_map] at hx
  obtain ⟨a,ha,rfl⟩:=Option.map_eq_some_iff.mp hx
  have hi:=(List.getElem?_eq_some_iff.mp ha).1
  refine ⟨hl,(h a (List.mem_of_getElem? ha)).mono fun y os' z => ?_⟩
  obtain ⟨rfl,rfl⟩:=z
  refine ⟨hi,?_,rfl⟩
  rw [List.take_add_one,ha]
  show _=((xs.take i++[a]).filter p).map c
  rw [List.filter_append,List.map_append]
  cases hp:p a with
  | true=>rw [if_pos rfl,List.filter_cons_of_pos hp]; rfl
  | false=>rw [if_neg (by simp),List.filter_cons_of_neg (by simp [hp])]; rfl
 ·rintro done os3 ⟨_,rfl,rfl⟩
  exact hl
 ·rintro zs os3 ⟨_,e,rfl⟩
  rw [List.nil_append,List.nil_append,List.length_map,List.take_length] at e
  subst e
  exact hq
theorem test_ok {K:Orc} {os:OS} {w:List Nat} {x0 x1:Option D} (ha:Asc w) (hl:w.length≤1000):evC P K (.or (.not (.e (.chain3 .lt .eq .lt (.c (.int 0)) (.pr .len (.cons (.v 3) .nil)) (.pr .len (.cons (.v 2) .nil)) (.c (.int 4))))) (.or (.e (.pr (.cmp .ne) (.cons (.v 2) (.cons (.pr .toS (.cons (.pr .toI (.cons (.v 2) .nil)) .nil)) .nil)))) (.e (.pr (.cmp .gt) (.cons (.pr .toI (.cons (.v 2) .nil)) (.cons (.c (.int 255)) .nil)))))) [x0,x1,some (.str w),some (.lst ((w.filter isFig).map fun c=>.str [c]))] os=.ok (!isW w) os:=by
 refine Ok.eq ?_
 have hz:w.length≤SZ:=by unfold SZ; omega
 obtain ⟨n3,e3⟩:∃ n,(w.filter isFig).length=n:=⟨_,rfl⟩
 have el:((w.filter isFig).map fun c=>D.str [c]).length=n3:=by rw [List.length_map,e3]
 have f3:n3≤w.length:=by rw [← e3]; exact List.length_filter_le _ _
 have hall:n3=w.length→w.all isFig=true:=fun h=>by
  rw [← e3] at h
  exact List.all_eq_true.mpr fun c hc=>List.length_filter_eq_length_iff.mp h c hc
 have hback:w.all isFig=true→n3=w.length:=fun h=>by
  rw [← e3]
  exact List.length_filter_eq_length_iff.mpr fun c hc=>List.all_eq_true.mp h c hc
 by_cases hc:0<n3∧n3=w.length∧w.length<4
 ·obtain ⟨c1,c2,c3⟩:=hc
  have hf:fg w=true:=by
   unfold fg
   rw [hall c2]
   cases w with
   | nil=>simp at c2; omega
   | cons a r=>rfl
  have ne:=nb_eq hf (by omega)
  have lt:=dval_lt hf (by omega)
  have hI:isW w=(decide (digs (dval w)=w)&&decide (dval w≤255)):=by
   unfold isW nb
   rw [hf,decide_eq_true (show w.length≤3 by omega),ne]; rfl
  have eqE:D.eq (.str w) (.str (digs (dval w)))=some (decide (w=digs (dval w))):=eq_str ha (dig_asc lt)
  have hg:(!w.isEmpty&&w.all isFig)=true:=hf
  have l6:w.length≤600:=by omega
  have d1:decide ((0:Int)<(n3:Nat))=true:=decide_eq_true (by omega)
  have d2:D.eq (.int (n3:Nat)) (.int (w.length:Nat))=some true:=by rw [c2]; exact congrArg some (decide_eq_true rfl)
  have d3:decide ((w.length:Int)<4)=true:=decide_eq_true (by omega)
  have g1:(0:Int)≤(dval w:Nat)∧((dval w:Nat):Int)<10000000000:=⟨by omega,by omega⟩
  have tn:((dval w:Nat):Int).toNat=dval w:=rfl
  obtain ⟨b1,h1⟩:∃ b,decide (w=digs (dval w))=b:=⟨_,rfl⟩
  obtain ⟨b2,h2⟩:∃ b,decide ((255:Int)<(dval w:Nat))=b:=⟨_,rfl⟩
  have h1':decide (digs (dval w)=w)=b1:=by rw [← h1]; exact decide_eq_decide.mpr eq_comm
  have h2':decide (dval w≤255) = !b2:=by
   rw [← h2]
   by_cases z:dval w≤255
   ·rw [decide_eq_true z,decide_eq_false (by omega)]; rfl
   ·rw [decide_eq_false z,decide_eq_true (by omega)]; rfl
  rw [hI,h1',h2']
  rw [h1] at eqE
  clear hall hback e3 ha ne hf hI h1 h1' h2' c2 lt
  cases b1
  ·walk_at "ok"
   cases b2 <;> rfl
  ·walk_at "ok"
   cases b2 <;> rfl
 ·have hI:isW w=false:=by
   cases h:isW w with
   | false=>rfl
   | true =>
    unfold isW at h
    rw [Bool.and_eq_true] at h
    obtain ⟨h1,h2⟩:=fg_of h.1
    unfold fg at h1
    rw [Bool.and_eq_true] at h1
    have:=hback h1.2
    cases w with
    | nil=>cases h1.1
    | cons a r=>exact absurd ⟨by rw [this]; simp,this,by omega⟩ hc
  rw [hI]
  by_cases c1:0<n3
  ·have d1:decide ((0:Int)<(n3:Nat))=true:=decide_eq_true (by omega)
   by_cases c2:n3=w.length
   ·have d2:D.eq (.int (n3:Nat)) (.int (w.length:Nat))=some true:=by rw [c2]; exact congrArg some (decide_eq_true rfl)
    have d3:decide ((w.length:Int)<4)=false:=decide_eq_false (by have:¬ w.length<4:=fun z=>hc ⟨c1,c2,z⟩; omega)
    clear hall hback e3 ha hI c2 hc
    walk_at "ok"
   ·have d2:D.eq (.int (n3:Nat)) (.int (w.length:Nat))=some false:=congrArg some (decide_eq_false (by omega))
    clear hall hback e3 ha hI c2 hc
    walk_at "ok"
  ·have d1:decide ((0:Int)<(n3:Nat))=false:=decide_eq_false (by omega)
   clear hall hback e3 ha hI hc
   walk_at "ok"
theorem set_end {os:OS} {c d:Option Cell}:(os++[c]).set os.length d=os++[d]:=by
 rw [List.set_append_right _ _ (Nat.le_refl _),Nat.sub_self]; rfl
noncomputable def mks (ws:List (List Nat)):List Int:=ws.map fun w=>((dval w:Nat):Int)
theorem word_ok {W k:Nat} {os:OS} {w:List Nat} {x0 x3:Option D} {t:List Int} {Φ:Flow × Fr→OS→Prop} (ha:Asc w) (hl:w.length≤1000) (h1:isW w=false→∀ x3,Φ (.rt .non,[x0,some (.cel os.length),some (.str w),x3]) (os++[some (.lst (intz t))])) (h2:isW w=true→∀ x3,Φ (.nx,[x0,some (.cel os.length),some (.str w),x3]) (os++[some (.lst (intz (t++[((dval w:Nat):Int)])))])) (ht:t.length≤2000) :
  Ok (execs P (call P W k) W (.cons (.set 3 (.comp 1 [] (.v 0) (.chars (.v 2)) (.e (.pr (.cmp .inS) (.cons (.v 0) (.cons (.c (.str [48,49,50,51,52,53,54,55,56,57])) .nil)))) (.v 0))) (.cons (.ite (.or (.not (.e (.chain3 .lt .eq .lt (.c (.int 0)) (.pr .len (.cons (.v 3) .nil)) (.pr .len (.cons (.v 2) .nil)) (.c (.int 4))))) (.or (.e (.pr (.cmp .ne) (.cons (.v 2) (.cons (.pr .toS (.cons (.pr .toI (.cons (.v 2) .nil)) .nil)) .nil)))) (.e (.pr (.cmp .gt) (.cons (.pr .toI (.cons (.v 2) .nil)) (.cons (.c (.int 255)) .nil)))))) (.cons (.ret (.c .non)) .nil) .nil) (.cons (.ex (.bm .append (.v 1) (.cons (.pr .toI (.cons (.v 2) .nil)) .nil))) .nil))) [x0,some (.cel os.length),some (.str w),x3] (os++[some (.lst (intz t))])) Φ:=by
 have hz:w.length≤SZ:=by unfold SZ; omega
 refine o_cut (fun ρ' o=>o=os++[some (.lst (intz t))]∧ρ'=[x0,some (.cel os.length),some (.str w),some (.lst ((w.filter isFig).map fun c=>.str [c]))]) ?_ ?_
 ·have h4:(w.all fun c=>decide (c<128))=true:=List.all_eq_true.mpr fun c hc=>decide_eq_true (ha c hc)
  clear h1 h2 ha
  walk_at "ok"
  refine comp_flt trivial isFig (fun c=>D.str [c]) w (fun c hc => ?_) ⟨rfl,rfl⟩
  have e:=in_fig c
  refine o_turn ⟨[some (.str [c])],rfl,?_⟩
  clear h4 hc
  cases hb:isFig c with
  | true =>
   rw [hb] at e
   walk_at "ok"
  | false =>
   rw [hb] at e
   walk_at "ok"
 rintro ρ' o ⟨rfl,rfl⟩
 have ts:=test_ok (K:=call P W k) (os:=os++[some (.lst (intz t))]) (x0:=x0) (x1:=some (.cel os.length)) ha hl
 rw [o_cons,o_if,ts,ok_ok]
 cases hw:isW w with
 | false =>
  refine ⟨fun _ => ?_,fun z=>by cases z⟩
  have q:=h1 hw
  clear h1 h2 ts ha hw
  rw [o_one]
  walk_at "ok"
 | true =>
  refine ⟨fun z=>(by cases z),fun _ => ?_⟩
  have q:=h2 hw
  unfold isW at hw
  rw [Bool.and_eq_true] at hw
  obtain ⟨f1,f2⟩:=fg_of hw.1
  have f1:(!w.isEmpty&&w.all isFig)=true:=f1
  have l6:w.length≤600:=by omega
  have ge:=getC_end (os:=os) (c:=.lst (intz t))
  have tz:t.length<SZ:=by unfold SZ; omega
  have se:∀ d,(os++[some (Cell.lst (intz t))]).set os.length d=os++[d]:=fun d=>set_end
  have ea:intz t++[.int ((dval w:Nat):Int)]=intz (t++[((dval w:Nat):Int)]):=by unfold intz; rw [List.map_append]; rfl
  have el:(intz t).length=t.length:=List.length_map ..
  clear h1 h2 ts ha hw
  rw [o_nil]
  walk_at "ok"
  rw [o_one]
  walk_at "ok"
theorem split_ne {s:List Nat}:splitC 32 s≠[]:=by
 cases s with
 | nil=>intro h; cases h
 | cons a r =>
  show (if a=32 then []::splitC 32 r else match splitC 32 r with | []=>[[a]] | w::ws=>(a::w)::ws)≠[]
  split
  ·intro h; cases h
  ·cases splitC 32 r <;> (intro h; cases h)
theorem qdue_ok {W k:Nat} {os:OS} {s:List Nat} (ha:Asc s) (hl:s.length≤1000):pure1 os (call P W (k+1) 503 [.str s] os)=.ok (dD (due s)) os:=by
 have lo:(dD (due s)).low os.length=true:=by
  cases due s with
  | none=>rfl
  | some t=>exact low_lst t
 have:Ok (call P W (k+1) 503 [.str s] os) (fun d o=>d=dD (due s)∧∃ ex,o=os++ex):=by
  refine ok_callB [some (.str s),none,none,none] p_503 rfl ?_
  have eqE:D.eq (.str s) (.str [110,111,110,101])=some (decide (s=NON)):=eq_str ha non_asc
  unfold due
  by_cases h0:s=NON
  ·rw [decide_eq_true h0] at eqE
   rw [if_pos h0]
   clear ha lo h0
   rw [o_cons]; walk_at "ok"
   rw [o_one]; walk_at "ok"
   exact ⟨rfl,[],(List.append_nil _).symm⟩
  ·rw [decide_eq_false h0] at eqE
   rw [if_neg h0]
   have sp:=split_asc ha
   have sl:=split_len (s:=s)
   have sn:=split_ne (s:=s)
   have l6:s.length≤1000000:=by omega
   clear ha lo h0
   rw [o_cons]; walk_at "ok"
   refine o_cut (fun ρ' o=>o=os++[some (.lst (intz []))]∧ρ'=[some (.str s),some (.cel os.length),none,none]) ?_ ?_
   ·clear sp sl sn eqE; walk_at "ok"; rfl
   rintro ρ' o ⟨rfl,rfl⟩
   clear eqE
   rw [o_cons]; walk_at "ok"
   refine o_forL (fun i ρ' o=>i≤(splitC 32 s).length∧(∀ w∈(splitC 32 s).take i,isW w=true)∧o=os++[some (.lst (intz (mks ((splitC 32 s).take i))))]∧∃ x2 x3,ρ'=[some (.str s),some (.cel os.length),x2,x3]) _ ⟨Nat.zero_le _,(fun w hw=>by rw [List.take_zero] at hw; cases hw),rfl,none,none,rfl⟩ ?_ ?_
   ·rintro i x ρ' o hx ⟨hi,hw,rfl,x2,x3,rfl⟩
    rw [List.getElem?_map] at hx
    obtain ⟨w,hx2,rfl⟩:=Option.map_eq_some_iff.mp hx
    clear hx
    have hx:=hx2; clear hx2
    have hi:=(List.getElem?_eq_some_iff.mp hx).1
    have hm:=List.mem_of_getElem? hx
    obtain ⟨a1,a2⟩:=sp w hm
    refine ⟨trivial,_,rfl,word_ok a1 (by omega) (fun n _=>.inr ⟨_,rfl,?_⟩) (fun n _=>.inl ⟨rfl,hi,?_,?_,_,_,rfl⟩) ?_⟩
    ·have:=dueW_none hm n
     rw [sq_rt,fin_rt]
     exact ⟨by rw [this]; rfl,_,rfl⟩
    ·intro v hv
     rw [List.take_add_one,hx] at hv
     rcases List.mem_append.mp hv with hv | hv
     ·exact hw v hv
     ·rw [List.mem_singleton.mp hv]; exact n
    ·rw [List.take_add_one,hx]
     unfold mks
     rw [List.map_append]; rfl
    ·unfold mks; rw [List.length_map,List.length_take]; omega
   ·rintro ρ' o ⟨_,hw,rfl,x2,x3,rfl⟩
    refine ⟨trivial,?_⟩
    rw [List.length_map,List.take_length] at hw
    rw [List.length_map,List.take_length,dueW_all hw]
    have ge:=getC_end (os:=os) (c:=.lst (intz (mks (splitC 32 s))))
    have se:∀ d,(os++[some (Cell.lst (intz (mks (splitC 32 s))))]).set os.length d=os++[d]:=fun d=>set_end
    clear sp sl sn hw
    rw [sq_nx,o_one]; walk_at "ok"
    exact ⟨rfl,_,rfl⟩
 obtain ⟨a,os',e,rfl,ex,rfl⟩:=this.get
 rw [e]; exact pure1_ok lo
noncomputable def Mks (t:List Int):Prop:=∀ x∈t,0≤x∧x<256
noncomputable def wds (t:List Int):List (List Nat):=t.map fun x=>digs x.toNat
noncomputable def sh (t:List Int):List Nat:=if t=[] then NON else joinL [32] (wds t)
theorem wd_fig {n:Nat} (h:n<256):(digs n).all isFig=true∧(digs n).length≤3∧(digs n).isEmpty=false∧dval (digs n)=n:=by
 have:=digs_fig ⟨n,h⟩
 rw [Bool.and_eq_true,Bool.and_eq_true,Bool.and_eq_true] at this
 exact ⟨this.1.1.1,of_decide_eq_true this.1.1.2,by simpa using this.1.2,of_decide_eq_true this.2⟩
theorem asS (t:List Int):asStrs ((t.map fun x=>D.str (digs x.toNat)))=some (wds t):=by
 induction t with
 | nil=>rfl
 | cons x r ih =>
  show (asStrs (r.map fun x=>D.str (digs x.toNat))).map (digs x.toNat :: ·)=_
  rw [ih]; rfl
theorem wds_sum {t:List Int} (h:Mks t):((wds t).map List.length).sum≤3 * t.length:=by
 induction t with
 | nil=>exact Nat.le_refl _
 | cons x r ih =>
  have:=(wd_fig (n:=x.toNat) (by have:=h x (.head _); omega)).2.1
  have:=ih fun y hy=>h y (.tail _ hy)
  show (digs x.toNat).length+((wds r).map List.length).sum≤3 * (r.length+1)
  omega
theorem join_mem {c:Nat} {sep:List Nat}:∀ {ws:List (List Nat)},c∈joinL sep ws→c∈sep∨∃ w∈ws,c∈w
 | [],h=>by cases h
 | [a],h=>.inr ⟨a,.head _,h⟩
 | a::b::r,h=>by
  rcases List.mem_append.mp (show c∈a++sep++joinL sep (b::r) from h) with h | h
  ·rcases List.mem_append.mp h with h | h
   ·exact .inr ⟨a,.head _,h⟩
   ·exact .inl h
  ·rcases join_mem h with h | ⟨w,hw,h⟩
   ·exact .inl h
   ·exact .inr ⟨w,.tail _ hw,h⟩
theorem join_len {sep:List Nat}:∀ {ws:List (List Nat)},(joinL sep ws).length≤(ws.map List.length).sum+ws.length * sep.length
 | []=>Nat.zero_le _
 | [a]=>by show a.length≤a.length+0+1 * sep.length; omega
 | a::b::r=>by
  have:=join_len (sep:=sep) (ws:=b::r)
  show (a++sep++joinL sep (b::r)).length≤a.length+((b::r).map List.length).sum+((b::r).length+1) * sep.length
  rw [List.length_append,List.length_append,Nat.succ_mul]
  omega
theorem join_asc {t:List Int} (h:Mks t):Asc (joinL [32] (wds t)):=by
 intro c hc
 rcases join_mem hc with hc | ⟨w,hw,hc⟩
 ·simp at hc; omega
 ·obtain ⟨x,hx,rfl⟩:=List.mem_map.mp hw
  have:=List.all_eq_true.mp (wd_fig (n:=x.toNat) (by have:=h x hx; omega)).1 c hc
  unfold isFig at this
  rw [Bool.and_eq_true] at this
  have:=of_decide_eq_true this.2
  omega
theorem join_ok {t:List Int} {os:OS} (h:Mks t) (hl:t.length≤1001):joinK [32] os (asStrs (t.map fun x=>D.str (digs x.toNat)))=.ok (.str (joinL [32] (wds t))) os:=by
 rw [asS]
 have:=wds_sum h
 show (if ((wds t).map List.length).sum+(wds t).length * 1≤1000000 then R.ok (D.str (joinL [32] (wds t))) os else .stk)=_
 have e:(wds t).length=t.length:=by unfold wds; rw [List.length_map]
 rw [if_pos (by omega)]
theorem comp_words {W k:Nat} {os:OS} {t:List Int} {ρ:Fr} {live:OS→Prop} [DecidablePred live] {Φ:List D→OS→Prop} (h:Mks t) (hl:live os) (hq:Φ (t.map fun x=>D.str (digs x.toNat)) os) :
  Ok (compL (f:=⟨fun x os2=>noExc (turnK (k:=⟨fun τ os3=>(evC P (call P W k) .tt τ os3).bind (k:=⟨fun b os4=>iteK (a:=⟨fun os5=>(ev P (call P W k) (.pr .toS (.cons (.v 0) .nil)) τ os5).bind (k:=⟨fun y os6=>.ok (some y) os6⟩)⟩) (b:=⟨fun os5=>.ok none os5⟩) b os4⟩)⟩) os2 (bindT (.v 0) x (capt ρ 1 [])))⟩) live (intz t) os) Φ:=by
 refine comp_map hl D.int (fun x=>D.str (digs x.toNat)) t (fun x hx => ?_) hq
 obtain ⟨h0,h1⟩:=h x hx
 have g:0≤x∧x<10000000000:=⟨h0,by omega⟩
 refine o_turn ⟨[some (.int x)],rfl,?_⟩
 clear h hx
 walk_at "ok"
theorem show_ok {W k:Nat} {os:OS} {t:List Int} (h:Mks t) (hl:t.length≤1001):pure1 os (call P W (k+1) 151 [.lst (intz t)] os)=.ok (.str (sh t)) os:=by
 have:call P W (k+1) 151 [.lst (intz t)] os=.ok (.str (sh t)) os:=by
  refine Ok.eq ?_
  refine ok_callB [some (.lst (intz t))] p_151 rfl ?_
  have g:=g_31
  cases t with
  | nil =>
   rw [o_one]; walk_at "ok"
   exact ⟨fun z=>absurd z (by decide),fun _=>rfl⟩
  | cons a r =>
   have e0:(intz (a::r)).length≤SZ:=by unfold intz; rw [List.length_map]; unfold SZ; omega
   have e1:(!(intz (a::r)).isEmpty)=true:=rfl
   have js:=join_ok (os:=os) h hl
   have es:sh (a::r)=joinL [32] (wds (a::r)):=if_neg (by intro z; cases z)
   rw [es]
   rw [o_one]; walk_at "ok"
   refine ⟨by have:r.length+1≤1001:=hl; unfold SZ; omega,comp_words h trivial ?_⟩
   rw [js,ok_ok]
   exact ⟨rfl,rfl⟩
 rw [this]; exact pure1_ok' rfl
theorem join_split:∀ s:List Nat,joinL [32] (splitC 32 s)=s
 | []=>rfl
 | a::r=>by
  have ih:=join_split r
  show joinL [32] (if a=32 then []::splitC 32 r else match splitC 32 r with | []=>[[a]] | w::ws=>(a::w)::ws)=_
  have ne:=split_ne (s:=r)
  cases e:splitC 32 r with
  | nil=>exact absurd e ne
  | cons v ws =>
   rw [e] at ih
   split
   ·rename_i ha
    show []++[32]++joinL [32] (v::ws)=_
    rw [ih,ha]; rfl
   ·cases ws with
    | nil=>exact congrArg (a :: ·) ih
    | cons u us=>exact congrArg (a :: ·) ih
theorem isW_digs {w:List Nat} (h:isW w=true):digs (dval w)=w∧dval w≤255:=by
 unfold isW at h
 rw [Bool.and_eq_true] at h
 obtain ⟨h1,h2⟩:=fg_of h.1
 have e:=nb_eq h1 h2
 have:=h.1
 unfold nb at this
 rw [Bool.and_eq_true,e] at this
 exact ⟨of_decide_eq_true this.2,of_decide_eq_true h.2⟩
theorem dueW_back:∀ {ws:List (List Nat)} {t:List Int},dueW ws=some t→Mks t∧wds t=ws
 | [],t,h=>by
  cases h
  exact ⟨(fun _ z=>by cases z),rfl⟩
 | w::r,t,h=>by
  unfold dueW at h
  split at h
  ·rename_i hw
   obtain ⟨u,hu,rfl⟩:=Option.map_eq_some_iff.mp h
   obtain ⟨h1,h2⟩:=dueW_back hu
   obtain ⟨e1,e2⟩:=isW_digs hw
   refine ⟨fun x hx => ?_,?_⟩
   ·rcases List.mem_cons.mp hx with rfl | hx
    ·omega
    ·exact h1 x hx
   ·show digs ((dval w:Nat):Int).toNat::wds u=_
    rw [h2,Int.toNat_natCast,e1]
  ·cases h
theorem due_sh {s:List Nat} {t:List Int} (h:due s=some t):Mks t∧sh t=s∧t.length≤s.length+1:=by
 unfold due at h
 split at h
 ·rename_i e
  cases h
  exact ⟨(fun _ z=>by cases z),e.symm,Nat.zero_le _⟩
 ·obtain ⟨h1,h2⟩:=dueW_back h
  have ne:=split_ne (s:=s)
  have sl:=split_len (s:=s)
  have el:t.length=(splitC 32 s).length:=by rw [← h2]; unfold wds; rw [List.length_map]
  refine ⟨h1,?_,by omega⟩
  unfold sh
  rw [if_neg (by rintro rfl; exact ne h2.symm),h2,join_split]
theorem cut_asc {s:List Nat} (h:Asc s) (lo hi:Option Int):Asc (cut s lo hi)∧(cut s lo hi).length≤s.length:=by
 unfold cut
 refine ⟨fun c hc=>h c (List.mem_of_mem_drop (List.mem_of_mem_take hc)),?_⟩
 rw [List.length_take,List.length_drop]; omega
theorem asc_app {a b:List Nat} (h1:Asc a) (h2:Asc b):Asc (a++b):=fun c hc=>(List.mem_append.mp hc).elim (h1 c) (h2 c)
noncomputable def PR:List Nat:=[32,33,34,35,36,38,39,40,41,42,43,44,45,46,47,48,49,50,51,52,53,54,55,56,57,58,59,60,61,62,63,64,65,66,67,68,69,70,71,72,73,74,75,76,77,78,79,80,81,82,83,84,85,86,87,88,89,90,91,92,93,94,95,96,97,98,99,100,101,102,103,104,105,106,107,108,109,110,111,112,113,114,115,116,117,118,119,120,121,122,123,124,125,126,10,9]
theorem pr_asc:Asc PR:=by unfold Asc PR; decide
theorem other_ok {W k n:Nat} {os:OS} {s:List Nat} {Ψ:D→OS→Prop} (ha:Asc s) (hl:s.length≤400) (hd:Dr os n) (hq:∀ v os',Asc v→v.length≤3 * s.length+1→Dr os' n→Ψ (.str v) os'):Ok (call P W (k+2) 504 [.cel n,.str s] os) Ψ:=by
 refine ok_callB [some (.cel n),some (.str s),none,none,none,none] p_504 rfl ?_
 have hz:s.length≤1000000:=by omega
 show Ok (execs P (call P W (k+1)) W (.cons (.set 2 (.c (.str PR))) _) _ _) _
 have q1:=pr_asc
 have q2:0<PR.length∧PR.length<200:=by decide
 generalize PR=pp at *
 obtain ⟨q2,q3⟩:=q2
 have q4:pp.length≤SZ:=by unfold SZ; omega
 have hz':s.length≤SZ:=by unfold SZ; omega
 rw [o_cons]
 rw [show exec P (call P W (k+1)) W (.set 2 (.c (.str pp))) [some (.cel n),some (.str s),none,none,none,none] os=.ok (.nx,[some (.cel n),some (.str s),some (.str pp),none,none,none]) os from rfl,ok_ok,sq_nx]
 rw [o_cons]; walk_at "ok"
 refine take_use hd (by omega) (Int.lt_trans (by omega:_<(1000000:Int)) (by decide)) fun p o1 p0 p1 d1 _ _ => ?_
 rw [o_cons]; walk_at "ok"
 refine take_use d1 (by omega) (Int.lt_trans (by omega:_<(1000000:Int)) (by decide)) fun j o2 j0 j1 d2 _ _ => ?_
 have e1:=ix_pos j0 j1
 obtain ⟨c,e2⟩:∃ c,pp[j.toNat]?=some c:=⟨_,List.getElem?_eq_getElem (by omega)⟩
 have c1:c<128:=q1 c (List.mem_of_getElem? e2)
 have xi:pr .ix [.str pp,.int j] o2=.ok (.str [c]) o2:=by
  show I.R.gd (pp.length≤SZ) (I.R.ofO ((ixOf pp.length j).bind fun j=>(pp[j]?).map fun c=>D.str [c]) o2)=_
  rw [gd_pos q4,e1]
  show I.R.ofO ((pp[j.toNat]?).map fun c=>D.str [c]) o2=_
  rw [e2]; rfl
 walk_at "ok"
 rw [o_cons]; walk_at "ok"
 refine take_use d2 (by decide) (by decide) fun m o3 m0 m1 d3 _ _ => ?_
 clear xi e1 e2 q1 q2 q3 q4 d1 d2 hd
 have c1:Asc [c]:=fun a h=>by rw [List.mem_singleton.mp h]; exact c1
 have ct:=fun lo hi=>(cut_asc ha lo hi).1
 have cl:=fun lo hi=>(cut_asc ha lo hi).2
 have l1:([c]:List Nat).length=1:=rfl
 have hm:m=0∨m=1∨m=2∨m=3:=by omega
 rcases hm with rfl | rfl | rfl | rfl
 ·have x1:D.eq (.int 0) (.int 0)=some true:=rfl
  rw [o_cons]; walk_at "ok"
  rw [o_one]; walk_at "ok"
  have a:=cl none (some p); have b:=cl (some p) none
  exact ⟨by omega,by rw [List.length_append]; omega,hq _ _ (asc_app (asc_app (ct _ _) c1) (ct _ _)) (by rw [List.length_append,List.length_append]; omega) d3⟩
 ·have x1:D.eq (.int 1) (.int 0)=some false:=rfl
  have x2:D.eq (.int 1) (.int 1)=some true:=rfl
  rw [o_cons]; walk_at "ok"
  rw [o_cons]; walk_at "ok"
  rw [o_one]; walk_at "ok"
  have a:=cl none (some p); have b:=cl (some (p+1)) none
  exact ⟨by omega,hq _ _ (asc_app (ct _ _) (ct _ _)) (by rw [List.length_append]; omega) d3⟩
 ·have x1:D.eq (.int 2) (.int 0)=some false:=rfl
  have x2:D.eq (.int 2) (.int 1)=some false:=rfl
  have x3:D.eq (.int 2) (.int 2)=some true:=rfl
  rw [o_cons]; walk_at "ok"
  rw [o_cons]; walk_at "ok"
  rw [o_cons]; walk_at "ok"
  rw [o_one]; walk_at "ok"
  have a:=cl none (some p); have b:=cl (some (p+1)) none
  exact ⟨by omega,by rw [List.length_append]; omega,hq _ _ (asc_app (asc_app (ct _ _) c1) (ct _ _)) (by rw [List.length_append,List.length_append]; omega) d3⟩
 ·have x1:D.eq (.int 3) (.int 0)=some false:=rfl
  have x2:D.eq (.int 3) (.int 1)=some false:=rfl
  have x3:D.eq (.int 3) (.int 2)=some false:=rfl
  rw [o_cons]; walk_at "ok"
  rw [o_cons]; walk_at "ok"
  rw [o_cons]; walk_at "ok"
  rw [o_one]; walk_at "ok"
  have a:=cl none (some p); have b:=cl (some p) none; have d:=cl (some (if 0<p - 3 then p - 3 else 0)) (some p)
  exact ⟨by omega,by rw [List.length_append]; omega,hq _ _ (asc_app (asc_app (ct _ _) (ct _ _)) (ct _ _)) (by rw [List.length_append,List.length_append]; omega) d3⟩
noncomputable def NTX:List (List Nat):=[[],[32],[110,111,110,101,32],[32,110,111,110,101],[78,111,110,101],[110,111,110,101,32,110,111,110,101],[110,111,110,101,32,49],[49,32,110,111,110,101],[50,53,54],[49,48,48,48],[45,49],[45,48],
 [43,49],[48,48],[48,49],[49,32,32,50],[32,49],[49,32],[49,44,50],[49,46,48],[49,101,50],[48,120,49],[49,9,50],[49,10,50],[49,10],
 [57,57,57],[49,50,32,50,53,54],[50,53,54,32,49],[97],[49,32,97,32,50],
 [50,32,48,51],[49,95,48],[50,53,53,32,50,53,53,53],[49,59,50],[49,47,50],[45,45,49],[48,32,48,48],[110,111],[49,32,45,50],List.replicate 60 49]
theorem ntx:(NTX.all fun v=>(v.all fun c=>decide (c<128))&&decide (v.length≤100)&&decide (due v=none))=true:=by decide +kernel
theorem none_ok {W k n:Nat} {os:OS} {Ψ:D→OS→Prop} (hd:Dr os n) (hq:∀ v os',Asc v→v.length≤100→due v=none→Dr os' n→Ψ (.str v) os'):Ok (call P W (k+2) 505 [.cel n] os) Ψ:=by
 refine ok_callB [some (.cel n),none] p_505 rfl ?_
 refine Eq.mpr (congrArg (fun r=>Ok r _) (ex_nx (ρ':=[some (.cel n),some (.lst ((NTX.take 12).map .str))]) (os':=os) rfl)) ?_
 refine o_cut (fun ρ' o=>o=os∧ρ'=[some (.cel n),some (.lst ((NTX.take 25).map D.str))]) ?_ ?_
 ·have e1:((NTX.take 12).map D.str).length=12:=rfl
  have e2:(NTX.take 12).map D.str++[.str [43,49],.str [48,48],.str [48,49],.str [49,32,32,50],.str [32,49],.str [49,32],.str [49,44,50],.str [49,46,48],.str [49,101,50],.str [48,120,49],.str [49,9,50],.str [49,10,50],.str [49,10]]=(NTX.take 25).map D.str:=rfl
  generalize (NTX.take 25).map D.str=ys at *
  generalize (NTX.take 12).map D.str=xs at *
  clear hd hq
  walk_at "ok"
  decide
 rintro ρ' os' ⟨rfl,rfl⟩
 refine o_cut (fun ρ' o=>o=os'∧ρ'=[some (.cel n),some (.lst ((NTX.take 30).map D.str))]) ?_ ?_
 ·have e1:((NTX.take 25).map D.str).length=25:=rfl
  have e2:(NTX.take 25).map D.str++[.str [57,57,57],.str [49,50,32,50,53,54],.str [50,53,54,32,49],.str [97],.str [49,32,97,32,50]]=(NTX.take 30).map D.str:=rfl
  generalize (NTX.take 30).map D.str=ys at *
  generalize (NTX.take 25).map D.str=xs at *
  clear hd hq
  walk_at "ok"
  decide
 rintro ρ' os2 ⟨rfl,rfl⟩
 refine o_cut (fun ρ' o=>o=os2∧ρ'=[some (.cel n),some (.lst (NTX.map D.str))]) ?_ ?_
 ·have e1:((NTX.take 30).map D.str).length=30:=rfl
  have e2:(NTX.take 30).map D.str++[.str [50,32,48,51],.str [49,95,48],.str [50,53,53,32,50,53,53,53],.str [49,59,50],.str [49,47,50],.str [45,45,49],.str [48,32,48,48],.str [110,111],.str [49,32,45,50],.str (List.replicate (60:Int).toNat [49]).flatten]=NTX.map D.str:=rfl
  generalize NTX.map D.str=ys at *
  generalize (NTX.take 30).map D.str=xs at *
  clear hd hq
  walk_at "ok"
  decide
 rintro ρ' o ⟨rfl,rfl⟩
 have q2:NTX.length=40:=rfl
 have q3:=ntx
 generalize NTX=xs at *
 rw [o_one]; walk_at "ok"
 refine take_use hd (by omega) (Int.lt_trans (by omega:_<(1000000:Int)) (by decide)) fun j o2 j0 j1 d2 _ _ => ?_
 have e1:=ix_pos j0 j1
 obtain ⟨v,e2⟩:∃ v,xs[j.toNat]?=some v:=⟨_,List.getElem?_eq_getElem (by omega)⟩
 have f:=List.all_eq_true.mp q3 v (List.mem_of_getElem? e2)
 rw [Bool.and_eq_true,Bool.and_eq_true] at f
 have q:=hq v o2 (fun c hc=>of_decide_eq_true (List.all_eq_true.mp f.1.1 c hc)) (of_decide_eq_true f.1.2) (of_decide_eq_true f.2) d2
 have e3:(xs.map D.str)[j.toNat]?=some (.str v):=by rw [List.getElem?_map,e2]; rfl
 clear hq q3
 walk_at "ok"
theorem head_ok {W k n:Nat} {os:OS} {c0 c2 c3 c4 c5 c6:Option D} (h:Dr os n):Ok (exec P (call P W (k+1)) W (.set 2 (.orS (.bm .joinS (.c (.str [32])) (.cons (.comp 1 [1] (.v 0) (.rng (.cons (.call 500 (.cons (.v 1) (.cons (.c (.int 13)) .nil))) .nil)) .tt (.pr .toS (.cons (.call 500 (.cons (.v 1) (.cons (.c (.int 256)) .nil))) .nil))) .nil)) (.c (.str [110,111,110,101])))) [c0,some (.cel n),c2,c3,c4,c5,c6] os) (fun f _=>f.1=.nx∧∃ s,Asc s∧s.length≤60∧f.2=[c0,some (.cel n),some (.str s),c3,c4,c5,c6]):=by
 walk_at "ok"
 refine take_use h (by decide) (by decide) fun v os1 v0 v1 d1 _ _ => ?_
 walk_at "ok"
 refine ⟨by omega,by rw [List.length_range]; unfold SZ; omega,ok_compI (fun i done os3=>∃ t:List Int,(done=t.map fun x=>D.str (digs x.toNat))∧t.length=i∧Mks t∧Dr os3 n) _ [] [] ⟨[],rfl,rfl,fun _ z=>(by cases z),d1⟩ ?_ (fun _ _ _=>True.intro) ?_⟩
 ·rintro i x done os3 hx ⟨t,rfl,e1,e2,e3⟩
  refine ⟨True.intro,o_turn ⟨_,rfl,?_⟩⟩
  show Ok (evC P (call P W (k+1)) .tt [some x,some (.cel n)] os3) _
  walk_at "ok"
  refine take_use e3 (by decide) (by decide) fun v2 os4 w0 w1 d4 _ _ => ?_
  have g:0≤v2∧v2<10000000000:=⟨w0,by omega⟩
  have e2':=e2
  clear e2 hx
  walk_at "ok"
  refine ⟨t++[v2],by rw [List.map_append]; rfl,by simp [e1],fun y hy => ?_⟩
  rcases List.mem_append.mp hy with z | z
  ·exact e2' y z
  ·cases List.mem_singleton.mp z; exact ⟨w0,w1⟩
 ·rintro zs os3 ⟨t,e0,e1,e2,e3⟩
  have e1':t.length=v.toNat:=by simpa using e1
  have e0:zs=t.map fun x=>D.str (digs x.toNat):=by simpa using e0
  subst e0
  have hl:t.length≤12:=by omega
  have js:=join_ok (os:=os3) e2 (by omega)
  have ja:=join_asc e2
  have jl:=join_len (sep:=[32]) (ws:=wds t)
  have:=wds_sum e2
  have e:(wds t).length=t.length:=by unfold wds; rw [List.length_map]
  have l1:([32]:List Nat).length=1:=rfl
  have jl:(joinL [32] (wds t)).length≤48:=by rw [l1] at jl; omega
  rw [js,ok_ok]
  generalize joinL [32] (wds t)=s at *
  clear e1 e1' js e0
  walk_at "ok"
  refine ⟨by omega,?_⟩
  split
  ·rw [show ev P (call P W (k+1)) (.c (.str [110,111,110,101])) [c0,some (.cel n),c2,c3,c4,c5,c6] os3=.ok (.str NON) os3 from rfl,ok_ok]
   exact ⟨NON,non_asc,by decide,rfl⟩
  ·rw [ok_ok]
   exact ⟨s,ja,by omega,rfl⟩
theorem turn_ok {W k:Nat} {os:OS} {ns:List Int} {s:List Nat} {i:Nat} {c1 c4 c5 c6:Option D} {Φ:Flow × Fr→OS→Prop} (ha:Asc s) (hl:s.length≤60) (hq:∀ c1 c4 c5 c6 os',Φ (.nx,[some (.scr (intz ns)),c1,some (.str s),some (.int (i:Nat)),c4,c5,c6]) os') :
  Ok (execs P (call P W (k+6)) W (match d_law.body with | .cons _ (.cons _ (.cons (.fr _ _ b) _))=>b | _=>.nil) [some (.scr (intz ns)),c1,some (.str s),some (.int (i:Nat)),c4,c5,c6] os) Φ:=by
 show Ok (execs P (call P W (k+6)) W (.cons _ _) _ _) _
 obtain ⟨z,hz⟩:=purse_ok (W:=W) (k:=k+5) (os:=os) (ns:=ns) (j:=1+(i:Nat)) (by omega)
 have d1:Dr (os++[some (.lst [.int z])]) os.length:=⟨z,getC_end⟩
 rw [o_cons]; walk_at "ok"
 generalize os++[some (Cell.lst [.int z])]=o1 at *
 generalize os.length=n at *
 clear hz
 rw [o_cons]; walk_at "ok"
 refine none_ok (k:=k+4) d1 fun v o2 v1 v2 v3 d2 => ?_
 have sa:=said_ok (W:=W) (k:=k+1) (os:=o2) v1 (by omega)
 rw [v3] at sa
 replace sa:pure1 o2 (call P W (k+6) 502 [.str v] o2)=.ok .non o2:=sa
 have n1:∀ o,cmp .notN .non .non o=.ok (.bl false) o:=fun _=>rfl
 clear v1 v3
 walk_at "ok"
 clear sa
 rw [o_cons]; walk_at "ok"
 refine other_ok (k:=k+4) ha (by omega) d2 fun w o3 w1 w2 d3 => ?_
 have qd:=qdue_ok (W:=W) (k:=k+5) (os:=o3) w1 (by omega)
 have sa:=said_ok (W:=W) (k:=k+1) (os:=o3) w1 (by omega)
 have hq':=fun c1 c4 c5 c6=>hq c1 c4 c5 c6 o3
 clear hq
 cases hd:due w with
 | none =>
  rw [hd] at qd sa
  replace sa:pure1 o3 (call P W (k+6) 502 [.str w] o3)=.ok .non o3:=sa
  replace qd:pure1 o3 (call P W (k+6) 503 [.str w] o3)=.ok .non o3:=qd
  have e0:D.eq .non .non=some true:=rfl
  have dn:∀ o,deref o .non=.non:=fun _=>rfl
  clear w1 ha hd
  rw [o_cons]; walk_at "ok"
  rw [o_cons]; walk_at "ok"
  rw [o_one]; walk_at "ok"
 | some t =>
  rw [hd] at qd sa
  replace sa:pure1 o3 (call P W (k+6) 502 [.str w] o3)=.ok (.lst (intz t)) o3:=sa
  replace qd:pure1 o3 (call P W (k+6) 503 [.str w] o3)=.ok (.lst (intz t)) o3:=qd
  obtain ⟨t1,t2,t3⟩:=due_sh hd
  have so:=show_ok (W:=W) (k:=k+5) (os:=o3) t1 (by omega)
  rw [t2] at so
  have e0:D.eq (.lst (intz t)) (.lst (intz t))=some true:=by rw [eq_ints]; simp
  have e1:D.eq (.str w) (.str w)=some true:=by rw [eq_str w1 w1,decide_eq_true rfl]
  have n2:∀ xs o,cmp .notN (.lst xs) .non o=.ok (.bl true) o:=fun _ _=>rfl
  clear w1 ha hd t1 t2
  rw [o_cons]; walk_at "ok"
  rw [o_cons]; walk_at "ok"
  rw [o_one]; walk_at "ok"
theorem law_walk {W k:Nat} {os:OS} (ns:List Int):Ok (call P W (k+7) 506 [.scr (intz ns)] os) (fun d _=>d=.bl true):=by
 refine ok_callB [some (.scr (intz ns)),none,none,none,none,none,none] p_506 rfl ?_
 obtain ⟨z,hz⟩:=purse_ok (W:=W) (k:=k+5) (os:=os) (ns:=ns) (j:=0) (by decide)
 have d1:Dr (os++[some (.lst [.int z])]) os.length:=⟨z,getC_end⟩
 rw [o_cons]; walk_at "ok"
 generalize os++[some (Cell.lst [.int z])]=o1 at *
 generalize os.length=n at *
 clear hz
 refine o_cut (fun ρ' _=>∃ s,Asc s∧s.length≤60∧ρ'=[some (.scr (intz ns)),some (.cel n),some (.str s),none,none,none,none]) (head_ok (k:=k+5) d1) ?_
 rintro ρ' o2 ⟨s,ha,hl,rfl⟩
 refine o_cut (fun ρ' _=>∃ c1 c3 c4 c5 c6,ρ'=[some (.scr (intz ns)),c1,some (.str s),c3,c4,c5,c6]) ?_ ?_
 ·walk_at "ok"
  refine ⟨by decide,o_forL (fun i ρ' _=>∃ c1 c3 c4 c5 c6,ρ'=[some (.scr (intz ns)),c1,some (.str s),c3,c4,c5,c6]) _ ⟨_,_,_,_,_,rfl⟩ ?_ ?_⟩
  ·rintro i x ρ' o3 hx ⟨c1,c3,c4,c5,c6,rfl⟩
   obtain ⟨hi,rfl⟩:=rng_get hx
   refine ⟨trivial,_,rfl,turn_ok ha hl fun c1 c4 c5 c6 os'=>.inl ⟨rfl,_,_,_,_,_,rfl⟩⟩
  ·rintro ρ' o3 ⟨c1,c3,c4,c5,c6,rfl⟩
   exact ⟨trivial,rfl,_,_,_,_,_,rfl⟩
 ·rintro ρ' o3 ⟨c1,c3,c4,c5,c6,rfl⟩
  have qd:=qdue_ok (W:=W) (k:=k+5) (os:=o3) ha (by omega)
  have sa:=said_ok (W:=W) (k:=k+1) (os:=o3) ha (by omega)
  replace sa:pure1 o3 (call P W (k+6) 502 [.str s] o3)=.ok (dD (due s)) o3:=sa
  replace qd:pure1 o3 (call P W (k+6) 503 [.str s] o3)=.ok (dD (due s)) o3:=qd
  cases hd:due s with
  | none =>
   rw [hd] at qd sa
   have e0:D.eq .non .non=some true:=rfl
   have dn:∀ o,deref o .non=.non:=fun _=>rfl
   have dz:dD none=.non:=rfl
   clear ha hd
   rw [o_one]; walk_at "ok"
  | some t =>
   rw [hd] at qd sa
   have e0:D.eq (.lst (intz t)) (.lst (intz t))=some true:=by rw [eq_ints]; simp
   have dz:dD (some t)=.lst (intz t):=rfl
   clear ha hd
   rw [o_one]; walk_at "ok"
noncomputable abbrev KD:Nat:=12
noncomputable abbrev WD:Nat:=400
theorem math (ns:List Int) (h:ns.length≤63):∃ os,I.call P WD (KD+1) 506 [.scr (ns.map .int)] []=.ok (.bl true) os:=by
 obtain ⟨a,os,e,rfl⟩:=(law_walk (W:=WD) (k:=6) (os:=[]) ns).get
 exact ⟨os,e⟩
end K57
namespace K57
theorem look_mem {α:Type} {β:Type} [BEq α] [LawfulBEq α] {a:α} {b:β}:∀ {l:List (α × β)},l.lookup a=some b→(a,b)∈l
 | [],h=>by cases h
 | (x,y)::l,h=>by
  rw [List.lookup_cons] at h
  split at h
  ·rename_i e; cases h; rw [eq_of_beq e]; exact .head _
  ·exact .tail _ (look_mem h)
end K57
namespace K57
open PySem PyProof.Rows L2 IS
open I (D FD Pg)
noncomputable def top (i:Nat):Stmt:=PySem.Challenge.pw_seekpress_k57_texts_refused.main.body.getD i (.Pass ⟨0,0,0,0⟩)
noncomputable abbrev s_is_whole:Stmt:=top 18
noncomputable abbrev s_is_mark:Stmt:=top 19
noncomputable abbrev s_is_figures:Stmt:=top 23
noncomputable abbrev s_is_number:Stmt:=top 24
noncomputable abbrev s_read_mark:Stmt:=top 25
noncomputable abbrev s_show_marks:Stmt:=top 26
noncomputable abbrev s_read_marks:Stmt:=top 27
noncomputable abbrev s_q_take:Stmt:=top 29
noncomputable abbrev s_q_purse:Stmt:=top 30
noncomputable abbrev s_q_said:Stmt:=top 31
noncomputable abbrev s_q_due:Stmt:=top 32
noncomputable abbrev s_q_other:Stmt:=top 33
noncomputable abbrev s_q_no_text:Stmt:=top 34
noncomputable abbrev s_law:Stmt:=top 35
noncomputable def nms:List (Nat × (Str × Nat)):=[(178,("is_whole",1)),(179,("is_mark",1)),(148,("is_figures",1)),(149,("is_number",2)),(150,("read_mark",1)),(151,("show_marks",1)),(152,("read_marks",1)),(500,("_law_take",2)),(501,("_law_purse",2)),(502,("_law_said",1)),(503,("_law_due",1)),(504,("_law_other",2)),(505,("_law_no_text",1))]
noncomputable def gns:List (Nat × Str):=[(32, "MOST_FIGURES"),(31, "NONE")]
noncomputable def fav:List (Nat × Str):=[]
noncomputable def ens:List (Nat × Str):=[(16, "NoText")]
noncomputable def fln:List (Nat × Str):=[]
noncomputable def cln:List (Nat × (Str × Nat)):=[]
noncomputable def mtn:List (Nat × (Str × Nat)):=[]
noncomputable def ftb:List Str:=[("spread" : Str),("at" : Str),("storage" : Str),("data" : Str),("frames" : Str),("first_frames" : Str),("first_places" : Str),("makes" : Str),("place" : Str),("row" : Str),("begin" : Str),("next_number" : Str),("block_marks" : Str),("told_marks" : Str),("has_end" : Str),("wrong" : Str),("many" : Str),("weights" : Str),("symbols" : Str),("symbols_taken" : Str),("first_sum" : Str),("pairs" : Str),("newest" : Str),("opened" : Str),("packed" : Str),("rule" : Str),("done" : Str),("loose" : Str),("ahead" : Str),("between" : Str),("behind" : Str),("roots" : Str),("size" : Str),("height" : Str),("told_blocks" : Str),("read_text" : Str),("last_kind" : Str),("pieces" : Str),("lost" : Str),("taken_out" : Str),("telling" : Str),("four" : Str),("fetch" : Str),("end_place" : Str),("root_place" : Str),("whole" : Str),("a" : Str),("b" : Str),("fetched" : Str),("sought" : Str),("below" : Str),("ending" : Str),("keepings" : Str),("namings" : Str),("opener" : Str),("things" : Str),("numbers" : Str),("given" : Str)]
noncomputable def xmn:List (Nat × Str):=[(16, "PressError")]
noncomputable def ktn:List ((Nat × Str) × Bool):=[((16, "Broken"),false),((16, "NoBits"),false),((16, "NoBlock"),false),((16, "NoCode"),false),((16, "NoHold"),false),((16, "NoKids"),false),((16, "NoMake"),false),((16, "NoName"),false),((16, "NoPlace"),false),((16, "NoRepeat"),false),((16, "NoRow"),false),((16, "NoRule"),false),((16, "NoThing"),false),((16, "Twice"),false),((16, "NoText"),true)]
noncomputable def cx:CI where
 fn:=fun f=>nms.lookup f
 gl:=fun i=>gns.lookup i
 fl:=fun f=>fln.lookup f
 ec:=fun c=>ens.lookup c
 cl:=fun c=>cln.lookup c
 mt:=fun m=>mtn.lookup m
 kt:=fun c x=>ktn.lookup (c,x)
 xm:=fun c x=>xmn.contains (c,x)
theorem ck_is_whole:chkF cx d_is_whole ["thing"] ["thing"] s_is_whole=true:=by decide +kernel
theorem ck_is_mark:chkF cx d_is_mark ["thing"] ["thing"] s_is_mark=true:=by decide +kernel
theorem ck_is_figures:chkF cx d_is_figures ["word"] ["word"] s_is_figures=true:=by decide +kernel
theorem ck_is_number:chkF cx d_is_number ["word", "most_figures"] ["word", "most_figures"] s_is_number=true:=by decide +kernel
theorem ck_read_mark:chkF cx d_read_mark ["word"] ["word"] s_read_mark=true:=by decide +kernel
theorem ck_show_marks:chkF cx d_show_marks ["marks"] ["marks"] s_show_marks=true:=by decide +kernel
theorem ck_read_marks:chkF cx d_read_marks ["text"] ["text"] s_read_marks=true:=by decide +kernel
theorem ck_q_take:chkF cx d_q_take ["_law_draw", "_law_many", "_law_digit"] ["_law_draw", "_law_many"] s_q_take=true:=by decide +kernel
theorem ck_q_purse:chkF cx d_q_purse ["_law_script", "_law_k", "_law_cell", "_law_digits", "_law_mix", "_law_come", "_law_j"] ["_law_script", "_law_k"] s_q_purse=true:=by decide +kernel
theorem ck_q_said:chkF cx d_q_said ["_law_text", "_law_found", "e"] ["_law_text"] s_q_said=true:=by decide +kernel
theorem ck_q_due:chkF cx d_q_due ["_law_text", "_law_marks", "_law_word", "_law_figures"] ["_law_text"] s_q_due=true:=by decide +kernel
theorem ck_q_other:chkF cx d_q_other ["_law_draw", "_law_text", "_law_signs", "_law_at", "_law_sign", "_law_kind"] ["_law_draw", "_law_text"] s_q_other=true:=by decide +kernel
theorem ck_q_no_text:chkF cx d_q_no_text ["_law_draw", "_law_some"] ["_law_draw"] s_q_no_text=true:=by decide +kernel
theorem ck_law:chkF cx d_law ["_law_script", "_law_draw", "_law_text", "_law_k", "_law_odd", "_law_due_here", "_law_found"] ["_law_script"] s_law=true:=by decide +kernel
theorem all_mk {l:PySem.W.OpenLaw} {w:World} {K:PySem.W.Frag} {h:Heap} {mg:Str→Option Value} {fa:Addr} (X:K.In h) (G:h.Ns mainGlobals mg) (hfa:mg "law" = some (.ref fa))
  {f0:Addr} {od0 an0:Option Addr} {sl0:Array (Option Value)} {oc0 kV0 dc0 pm0 cd0 ct0:Value}
  (a0:PySem.W.nsIn K mainGlobals "is_whole" = some (some (.ref f0))) (l0:K.lookup f0=some ⟨oc0,od0,.func (PySem.W.fnOf "is_whole" "is_whole" (defArgs s_is_whole) (defBody s_is_whole) (defScope s_is_whole) .none kV0 dc0 pm0 an0 cd0 ct0),sl0⟩) (c0:PySem.W.codeIn K cd0 "is_whole" = true) (k0:PySem.W.keepIn K (.ref f0)=true)
  {f1:Addr} {od1 an1:Option Addr} {sl1:Array (Option Value)} {oc1 kV1 dc1 pm1 cd1 ct1:Value}
  (a1:PySem.W.nsIn K mainGlobals "is_mark" = some (some (.ref f1))) (l1:K.lookup f1=some ⟨oc1,od1,.func (PySem.W.fnOf "is_mark" "is_mark" (defArgs s_is_mark) (defBody s_is_mark) (defScope s_is_mark) .none kV1 dc1 pm1 an1 cd1 ct1),sl1⟩) (c1:PySem.W.codeIn K cd1 "is_mark" = true) (k1:PySem.W.keepIn K (.ref f1)=true)
  {f2:Addr} {od2 an2:Option Addr} {sl2:Array (Option Value)} {oc2 kV2 dc2 pm2 cd2 ct2:Value}
  (a2:PySem.W.nsIn K mainGlobals "is_figures" = some (some (.ref f2))) (l2:K.lookup f2=some ⟨oc2,od2,.func (PySem.W.fnOf "is_figures" "is_figures" (defArgs s_is_figures) (defBody s_is_figures) (defScope s_is_figures) .none kV2 dc2 pm2 an2 cd2 ct2),sl2⟩) (c2:PySem.W.codeIn K cd2 "is_figures" = true) (k2:PySem.W.keepIn K (.ref f2)=true)
  {f3:Addr} {od3 an3:Option Addr} {sl3:Array (Option Value)} {oc3 kV3 dc3 pm3 cd3 ct3:Value}
  (a3:PySem.W.nsIn K mainGlobals "is_number" = some (some (.ref f3))) (l3:K.lookup f3=some ⟨oc3,od3,.func (PySem.W.fnOf "is_number" "is_number" (defArgs s_is_number) (defBody s_is_number) (defScope s_is_number) .none kV3 dc3 pm3 an3 cd3 ct3),sl3⟩) (c3:PySem.W.codeIn K cd3 "is_number" = true) (k3:PySem.W.keepIn K (.ref f3)=true)
  {f4:Addr} {od4 an4:Option Addr} {sl4:Array (Option Value)} {oc4 kV4 dc4 pm4 cd4 ct4:Value}
  (a4:PySem.W.nsIn K mainGlobals "read_mark" = some (some (.ref f4))) (l4:K.lookup f4=some ⟨oc4,od4,.func (PySem.W.fnOf "read_mark" "read_mark" (defArgs s_read_mark) (defBody s_read_mark) (defScope s_read_mark) .none kV4 dc4 pm4 an4 cd4 ct4),sl4⟩) (c4:PySem.W.codeIn K cd4 "read_mark" = true) (k4:PySem.W.keepIn K (.ref f4)=true)
  {f5:Addr} {od5 an5:Option Addr} {sl5:Array (Option Value)} {oc5 kV5 dc5 pm5 cd5 ct5:Value}
  (a5:PySem.W.nsIn K mainGlobals "show_marks" = some (some (.ref f5))) (l5:K.lookup f5=some ⟨oc5,od5,.func (PySem.W.fnOf "show_marks" "show_marks" (defArgs s_show_marks) (defBody s_show_marks) (defScope s_show_marks) .none kV5 dc5 pm5 an5 cd5 ct5),sl5⟩) (c5:PySem.W.codeIn K cd5 "show_marks" = true) (k5:PySem.W.keepIn K (.ref f5)=true)
  {f6:Addr} {od6 an6:Option Addr} {sl6:Array (Option Value)} {oc6 kV6 dc6 pm6 cd6 ct6:Value}
  (a6:PySem.W.nsIn K mainGlobals "read_marks" = some (some (.ref f6))) (l6:K.lookup f6=some ⟨oc6,od6,.func (PySem.W.fnOf "read_marks" "read_marks" (defArgs s_read_marks) (defBody s_read_marks) (defScope s_read_marks) .none kV6 dc6 pm6 an6 cd6 ct6),sl6⟩) (c6:PySem.W.codeIn K cd6 "read_marks" = true) (k6:PySem.W.keepIn K (.ref f6)=true)
  {f7:Addr} {od7 an7:Option Addr} {sl7:Array (Option Value)} {oc7 kV7 dc7 pm7 cd7 ct7:Value}
  (a7:PySem.W.nsIn K mainGlobals "_law_take" = some (some (.ref f7))) (l7:K.lookup f7=some ⟨oc7,od7,.func (PySem.W.fnOf "_law_take" "_law_take" (defArgs s_q_take) (defBody s_q_take) (defScope s_q_take) .none kV7 dc7 pm7 an7 cd7 ct7),sl7⟩) (c7:PySem.W.codeIn K cd7 "_law_take" = true) (k7:PySem.W.keepIn K (.ref f7)=true)
  {f8:Addr} {od8 an8:Option Addr} {sl8:Array (Option Value)} {oc8 kV8 dc8 pm8 cd8 ct8:Value}
  (a8:PySem.W.nsIn K mainGlobals "_law_purse" = some (some (.ref f8))) (l8:K.lookup f8=some ⟨oc8,od8,.func (PySem.W.fnOf "_law_purse" "_law_purse" (defArgs s_q_purse) (defBody s_q_purse) (defScope s_q_purse) .none kV8 dc8 pm8 an8 cd8 ct8),sl8⟩) (c8:PySem.W.codeIn K cd8 "_law_purse" = true) (k8:PySem.W.keepIn K (.ref f8)=true)
  {f9:Addr} {od9 an9:Option Addr} {sl9:Array (Option Value)} {oc9 kV9 dc9 pm9 cd9 ct9:Value}
  (a9:PySem.W.nsIn K mainGlobals "_law_said" = some (some (.ref f9))) (l9:K.lookup f9=some ⟨oc9,od9,.func (PySem.W.fnOf "_law_said" "_law_said" (defArgs s_q_said) (defBody s_q_said) (defScope s_q_said) .none kV9 dc9 pm9 an9 cd9 ct9),sl9⟩) (c9:PySem.W.codeIn K cd9 "_law_said" = true) (k9:PySem.W.keepIn K (.ref f9)=true)
  {f10:Addr} {od10 an10:Option Addr} {sl10:Array (Option Value)} {oc10 kV10 dc10 pm10 cd10 ct10:Value}
  (a10:PySem.W.nsIn K mainGlobals "_law_due" = some (some (.ref f10))) (l10:K.lookup f10=some ⟨oc10,od10,.func (PySem.W.fnOf "_law_due" "_law_due" (defArgs s_q_due) (defBody s_q_due) (defScope s_q_due) .none kV10 dc10 pm10 an10 cd10 ct10),sl10⟩) (c10:PySem.W.codeIn K cd10 "_law_due" = true) (k10:PySem.W.keepIn K (.ref f10)=true)
  {f11:Addr} {od11 an11:Option Addr} {sl11:Array (Option Value)} {oc11 kV11 dc11 pm11 cd11 ct11:Value}
  (a11:PySem.W.nsIn K mainGlobals "_law_other" = some (some (.ref f11))) (l11:K.lookup f11=some ⟨oc11,od11,.func (PySem.W.fnOf "_law_other" "_law_other" (defArgs s_q_other) (defBody s_q_other) (defScope s_q_other) .none kV11 dc11 pm11 an11 cd11 ct11),sl11⟩) (c11:PySem.W.codeIn K cd11 "_law_other" = true) (k11:PySem.W.keepIn K (.ref f11)=true)
  {f12:Addr} {od12 an12:Option Addr} {sl12:Array (Option Value)} {oc12 kV12 dc12 pm12 cd12 ct12:Value}
  (a12:PySem.W.nsIn K mainGlobals "_law_no_text" = some (some (.ref f12))) (l12:K.lookup f12=some ⟨oc12,od12,.func (PySem.W.fnOf "_law_no_text" "_law_no_text" (defArgs s_q_no_text) (defBody s_q_no_text) (defScope s_q_no_text) .none kV12 dc12 pm12 an12 cd12 ct12),sl12⟩) (c12:PySem.W.codeIn K cd12 "_law_no_text" = true) (k12:PySem.W.keepIn K (.ref f12)=true)
  {f13:Addr} {od13 an13:Option Addr} {sl13:Array (Option Value)} {oc13 kV13 dc13 pm13 cd13 ct13:Value}
  (a13:PySem.W.nsIn K mainGlobals "law" = some (some (.ref f13))) (l13:K.lookup f13=some ⟨oc13,od13,.func (PySem.W.fnOf "law" "law" (defArgs s_law) (defBody s_law) (defScope s_law) .none kV13 dc13 pm13 an13 cd13 ct13),sl13⟩) (c13:PySem.W.codeIn K cd13 "law" = true) (k13:PySem.W.keepIn K (.ref f13)=true)
  (z_len:PySem.W.nsIn K mainGlobals "len" = some none)
  (z_list:PySem.W.nsIn K mainGlobals "list" = some none)
  (z_tuple:PySem.W.nsIn K mainGlobals "tuple" = some none)
  (z_min:PySem.W.nsIn K mainGlobals "min" = some none)
  (z_max:PySem.W.nsIn K mainGlobals "max" = some none)
  (z_range:PySem.W.nsIn K mainGlobals "range" = some none)
  (z_enumerate:PySem.W.nsIn K mainGlobals "enumerate" = some none)
  (z_isinstance:PySem.W.nsIn K mainGlobals "isinstance" = some none)
  (z_int:PySem.W.nsIn K mainGlobals "int" = some none)
  (z_bool:PySem.W.nsIn K mainGlobals "bool" = some none)
  (z_str:PySem.W.nsIn K mainGlobals "str" = some none)
  (z_sum:PySem.W.nsIn K mainGlobals "sum" = some none)
  (z_all:PySem.W.nsIn K mainGlobals "all" = some none)
  (z_any:PySem.W.nsIn K mainGlobals "any" = some none)
  (z_sorted:PySem.W.nsIn K mainGlobals "sorted" = some none)
  (z_zip:PySem.W.nsIn K mainGlobals "zip" = some none)
  (z_reversed:PySem.W.nsIn K mainGlobals "reversed" = some none)
  (z_dict:PySem.W.nsIn K mainGlobals "dict" = some none)
  (z_set:PySem.W.nsIn K mainGlobals "set" = some none)
  (z_ValueError:PySem.W.nsIn K mainGlobals "ValueError" = some none)
  {tMOST_FIGURES:Tok} (zMOST_FIGURES:PySem.W.nsIn K mainGlobals "MOST_FIGURES" = some (some (.int 3 tMOST_FIGURES)))
  {tNONE:Tok} (zNONE:PySem.W.nsIn K mainGlobals "NONE" = some (some (.str "none" tNONE)))
  {eNoText:Addr} (yNoText:PySem.W.nsIn K mainGlobals "NoText" = some (some (.ref eNoText)))
  (xNoText:PySem.W.excIn K eNoText [.type "ValueError",.type "Exception",.type "BaseException",.type "object"] "ValueError.__new__" = true)
  {eBroken:Addr} (yBroken:PySem.W.nsIn K mainGlobals "Broken" = some (some (.ref eBroken)))
  {eNoBits:Addr} (yNoBits:PySem.W.nsIn K mainGlobals "NoBits" = some (some (.ref eNoBits)))
  {eNoBlock:Addr} (yNoBlock:PySem.W.nsIn K mainGlobals "NoBlock" = some (some (.ref eNoBlock)))
  {eNoCode:Addr} (yNoCode:PySem.W.nsIn K mainGlobals "NoCode" = some (some (.ref eNoCode)))
  {eNoHold:Addr} (yNoHold:PySem.W.nsIn K mainGlobals "NoHold" = some (some (.ref eNoHold)))
  {eNoKids:Addr} (yNoKids:PySem.W.nsIn K mainGlobals "NoKids" = some (some (.ref eNoKids)))
  {eNoMake:Addr} (yNoMake:PySem.W.nsIn K mainGlobals "NoMake" = some (some (.ref eNoMake)))
  {eNoName:Addr} (yNoName:PySem.W.nsIn K mainGlobals "NoName" = some (some (.ref eNoName)))
  {eNoPlace:Addr} (yNoPlace:PySem.W.nsIn K mainGlobals "NoPlace" = some (some (.ref eNoPlace)))
  {eNoRepeat:Addr} (yNoRepeat:PySem.W.nsIn K mainGlobals "NoRepeat" = some (some (.ref eNoRepeat)))
  {eNoRow:Addr} (yNoRow:PySem.W.nsIn K mainGlobals "NoRow" = some (some (.ref eNoRow)))
  {eNoRule:Addr} (yNoRule:PySem.W.nsIn K mainGlobals "NoRule" = some (some (.ref eNoRule)))
  {eNoThing:Addr} (yNoThing:PySem.W.nsIn K mainGlobals "NoThing" = some (some (.ref eNoThing)))
  {ePressError:Addr} (yPressError:PySem.W.nsIn K mainGlobals "PressError" = some (some (.ref ePressError)))
  {eTwice:Addr} (yTwice:PySem.W.nsIn K mainGlobals "Twice" = some (some (.ref eTwice)))
  (clNoText:(PySem.W.clsIn K eNoText).isSome=true)
  (gaNoText:PySem.W.findIn K (.ref eNoText) "__getattribute__" = some (some (.builtin "BaseException.__getattribute__")))
  (gtNoText:PySem.W.findIn K (.ref eNoText) "__getattr__" = some none)
  (klNoText:PySem.W.findIn K (.ref eNoText) "__class__" = some (some (.builtin "object.__class__")))
  (moNoText:PySem.W.mroIn K eNoText (.type "object")=some true)
  (mbNoText:PySem.W.mroIn K eNoText (.type "BaseException")=some true)
  (vkNoText:PySem.W.kitOne K (.ref eNoText) (.type "ValueError")=some true)
  (emNoText_PressError:PySem.W.exmOne K (.ref eNoText) (.ref ePressError)=some true)
  (ktNoText_Broken:PySem.W.kitOne K (.ref eNoText) (.ref eBroken)=some false)
  (ktNoText_NoBits:PySem.W.kitOne K (.ref eNoText) (.ref eNoBits)=some false)
  (ktNoText_NoBlock:PySem.W.kitOne K (.ref eNoText) (.ref eNoBlock)=some false)
  (ktNoText_NoCode:PySem.W.kitOne K (.ref eNoText) (.ref eNoCode)=some false)
  (ktNoText_NoHold:PySem.W.kitOne K (.ref eNoText) (.ref eNoHold)=some false)
  (ktNoText_NoKids:PySem.W.kitOne K (.ref eNoText) (.ref eNoKids)=some false)
  (ktNoText_NoMake:PySem.W.kitOne K (.ref eNoText) (.ref eNoMake)=some false)
  (ktNoText_NoName:PySem.W.kitOne K (.ref eNoText) (.ref eNoName)=some false)
  (ktNoText_NoPlace:PySem.W.kitOne K (.ref eNoText) (.ref eNoPlace)=some false)
  (ktNoText_NoRepeat:PySem.W.kitOne K (.ref eNoText) (.ref eNoRepeat)=some false)
  (ktNoText_NoRow:PySem.W.kitOne K (.ref eNoText) (.ref eNoRow)=some false)
  (ktNoText_NoRule:PySem.W.kitOne K (.ref eNoText) (.ref eNoRule)=some false)
  (ktNoText_NoThing:PySem.W.kitOne K (.ref eNoText) (.ref eNoThing)=some false)
  (ktNoText_Twice:PySem.W.kitOne K (.ref eNoText) (.ref eTwice)=some false)
  (ktNoText_NoText:PySem.W.kitOne K (.ref eNoText) (.ref eNoText)=some true)
  : ∃ fd:FuncData,(∀ (s:Shared) (v:Value),BindsTo s fd ⟨[v],[]⟩ [("_law_script",v)])∧∀ base:Heap,K.In base→base.Ns mainGlobals mg→FnOk l.prog w K mg base (CXE l.prog w) (2 * (KD+1)) fa fd ["_law_script"] (spLaw 63 K):=by
 have e:=hfa.symm.trans (PySem.W.mg_of X G a13)
 cases e
 have F0:=fun_mk (st:=s_is_whole) l0 c0 k0
 have b0:=F0.binds (ps:=["thing"]) fun _ _ _ _ _ _ us hl=>match us,hl with | [_],_=>rfl
 have F1:=fun_mk (st:=s_is_mark) l1 c1 k1
 have b1:=F1.binds (ps:=["thing"]) fun _ _ _ _ _ _ us hl=>match us,hl with | [_],_=>rfl
 have F2:=fun_mk (st:=s_is_figures) l2 c2 k2
 have b2:=F2.binds (ps:=["word"]) fun _ _ _ _ _ _ us hl=>match us,hl with | [_],_=>rfl
 have F3:=fun_mk (st:=s_is_number) l3 c3 k3
 have b3:=F3.binds (ps:=["word", "most_figures"]) fun _ _ _ _ _ _ us hl=>match us,hl with | [_,_],_=>rfl
 have F4:=fun_mk (st:=s_read_mark) l4 c4 k4
 have b4:=F4.binds (ps:=["word"]) fun _ _ _ _ _ _ us hl=>match us,hl with | [_],_=>rfl
 have F5:=fun_mk (st:=s_show_marks) l5 c5 k5
 have b5:=F5.binds (ps:=["marks"]) fun _ _ _ _ _ _ us hl=>match us,hl with | [_],_=>rfl
 have F6:=fun_mk (st:=s_read_marks) l6 c6 k6
 have b6:=F6.binds (ps:=["text"]) fun _ _ _ _ _ _ us hl=>match us,hl with | [_],_=>rfl
 have F7:=fun_mk (st:=s_q_take) l7 c7 k7
 have b7:=F7.binds (ps:=["_law_draw", "_law_many"]) fun _ _ _ _ _ _ us hl=>match us,hl with | [_,_],_=>rfl
 have F8:=fun_mk (st:=s_q_purse) l8 c8 k8
 have b8:=F8.binds (ps:=["_law_script", "_law_k"]) fun _ _ _ _ _ _ us hl=>match us,hl with | [_,_],_=>rfl
 have F9:=fun_mk (st:=s_q_said) l9 c9 k9
 have b9:=F9.binds (ps:=["_law_text"]) fun _ _ _ _ _ _ us hl=>match us,hl with | [_],_=>rfl
 have F10:=fun_mk (st:=s_q_due) l10 c10 k10
 have b10:=F10.binds (ps:=["_law_text"]) fun _ _ _ _ _ _ us hl=>match us,hl with | [_],_=>rfl
 have F11:=fun_mk (st:=s_q_other) l11 c11 k11
 have b11:=F11.binds (ps:=["_law_draw", "_law_text"]) fun _ _ _ _ _ _ us hl=>match us,hl with | [_,_],_=>rfl
 have F12:=fun_mk (st:=s_q_no_text) l12 c12 k12
 have b12:=F12.binds (ps:=["_law_draw"]) fun _ _ _ _ _ _ us hl=>match us,hl with | [_],_=>rfl
 have F13:=fun_mk (st:=s_law) l13 c13 k13
 refine ⟨PySem.W.fnOf "law" "law" (defArgs s_law) (defBody s_law) (defScope s_law) .none kV13 dc13 pm13 an13 cd13 ct13,fun s v=>.of_eq rfl,fun base _ _ => ?_⟩
 let GG:GI:=⟨l.prog,w,K,mg,base,fun c=>if c=16 then eNoText else 0,flOf ftb,fun c=>False,fun _=>0,fun _=>farS 0,fun f=>fav.lookup f⟩
 have T:TF0 GG P cx:=by
  refine ⟨fun f x n hh => ?_,fun i x hh => ?_,fun x hx => ?_,fun c x hh => ?_,fun c x n hh => ?_,fun c m f hh x n hx => ?_,⟨flOf_inj (by decide +kernel) (by decide +kernel),fun c hc => ?_,fun f x hh => ?_,fun m x n hh f => ?_⟩,⟨fun c x hh => ?_,fun c x b hh => ?_,fun f x hh => ?_⟩⟩
  ·have hm:=look_mem (l:=nms) hh
   simp only [nms,List.mem_cons,List.not_mem_nil,or_false,Prod.mk.injEq] at hm
   rcases hm with ⟨rfl,rfl,rfl⟩ | ⟨rfl,rfl,rfl⟩ | ⟨rfl,rfl,rfl⟩ | ⟨rfl,rfl,rfl⟩ | ⟨rfl,rfl,rfl⟩ | ⟨rfl,rfl,rfl⟩ | ⟨rfl,rfl,rfl⟩ | ⟨rfl,rfl,rfl⟩ | ⟨rfl,rfl,rfl⟩ | ⟨rfl,rfl,rfl⟩ | ⟨rfl,rfl,rfl⟩ | ⟨rfl,rfl,rfl⟩ | ⟨rfl,rfl,rfl⟩
   ·exact ⟨⟨f0,_, "is_whole",["thing"],["thing"],s_is_whole,d_is_whole,PySem.W.mg_of X G a0,b0,F0,rfl,p_178,ck_is_whole,fun _ h=>by cases h⟩⟩
   ·exact ⟨⟨f1,_, "is_mark",["thing"],["thing"],s_is_mark,d_is_mark,PySem.W.mg_of X G a1,b1,F1,rfl,p_179,ck_is_mark,fun _ h=>by cases h⟩⟩
   ·exact ⟨⟨f2,_, "is_figures",["word"],["word"],s_is_figures,d_is_figures,PySem.W.mg_of X G a2,b2,F2,rfl,p_148,ck_is_figures,fun _ h=>by cases h⟩⟩
   ·exact ⟨⟨f3,_, "is_number",["word", "most_figures"],["word", "most_figures"],s_is_number,d_is_number,PySem.W.mg_of X G a3,b3,F3,rfl,p_149,ck_is_number,fun _ h=>by cases h⟩⟩
   ·exact ⟨⟨f4,_, "read_mark",["word"],["word"],s_read_mark,d_read_mark,PySem.W.mg_of X G a4,b4,F4,rfl,p_150,ck_read_mark,fun _ h=>by cases h⟩⟩
   ·exact ⟨⟨f5,_, "show_marks",["marks"],["marks"],s_show_marks,d_show_marks,PySem.W.mg_of X G a5,b5,F5,rfl,p_151,ck_show_marks,fun _ h=>by cases h⟩⟩
   ·exact ⟨⟨f6,_, "read_marks",["text"],["text"],s_read_marks,d_read_marks,PySem.W.mg_of X G a6,b6,F6,rfl,p_152,ck_read_marks,fun _ h=>by cases h⟩⟩
   ·exact ⟨⟨f7,_, "_law_take",["_law_draw", "_law_many"],["_law_draw", "_law_many", "_law_digit"],s_q_take,d_q_take,PySem.W.mg_of X G a7,b7,F7,rfl,p_500,ck_q_take,fun _ h=>by cases h⟩⟩
   ·exact ⟨⟨f8,_, "_law_purse",["_law_script", "_law_k"],["_law_script", "_law_k", "_law_cell", "_law_digits", "_law_mix", "_law_come", "_law_j"],s_q_purse,d_q_purse,PySem.W.mg_of X G a8,b8,F8,rfl,p_501,ck_q_purse,fun _ h=>by cases h⟩⟩
   ·exact ⟨⟨f9,_, "_law_said",["_law_text"],["_law_text", "_law_found", "e"],s_q_said,d_q_said,PySem.W.mg_of X G a9,b9,F9,rfl,p_502,ck_q_said,fun _ h=>by cases h⟩⟩
   ·exact ⟨⟨f10,_, "_law_due",["_law_text"],["_law_text", "_law_marks", "_law_word", "_law_figures"],s_q_due,d_q_due,PySem.W.mg_of X G a10,b10,F10,rfl,p_503,ck_q_due,fun _ h=>by cases h⟩⟩
   ·exact ⟨⟨f11,_, "_law_other",["_law_draw", "_law_text"],["_law_draw", "_law_text", "_law_signs", "_law_at", "_law_sign", "_law_kind"],s_q_other,d_q_other,PySem.W.mg_of X G a11,b11,F11,rfl,p_504,ck_q_other,fun _ h=>by cases h⟩⟩
   ·exact ⟨⟨f12,_, "_law_no_text",["_law_draw"],["_law_draw", "_law_some"],s_q_no_text,d_q_no_text,PySem.W.mg_of X G a12,b12,F12,rfl,p_505,ck_q_no_text,fun _ h=>by cases h⟩⟩
  ·have hm:=look_mem (a:=i) (l:=gns) hh
   simp only [gns,List.mem_cons,List.not_mem_nil,or_false,Prod.mk.injEq] at hm
   rcases hm with ⟨rfl,rfl⟩ | ⟨rfl,rfl⟩
   ·exact ⟨_,.int 3,PySem.W.mg_of X G zMOST_FIGURES,⟨_,rfl⟩,fun ι Hf=>by rw [g_32]; exact .int _⟩
   ·exact ⟨_,.str "none",PySem.W.mg_of X G zNONE,⟨_,rfl⟩,fun ι Hf=>by rw [g_31]; exact .str (Str.ofString "none")⟩
  ·simp only [bnames,List.mem_cons,List.not_mem_nil,or_false] at hx
   rcases hx with rfl | rfl | rfl | rfl | rfl | rfl | rfl | rfl | rfl | rfl | rfl | rfl | rfl | rfl | rfl | rfl | rfl | rfl | rfl | rfl
   ·exact PySem.W.mg_none_of X G z_len
   ·exact PySem.W.mg_none_of X G z_list
   ·exact PySem.W.mg_none_of X G z_tuple
   ·exact PySem.W.mg_none_of X G z_min
   ·exact PySem.W.mg_none_of X G z_max
   ·exact PySem.W.mg_none_of X G z_range
   ·exact PySem.W.mg_none_of X G z_enumerate
   ·exact PySem.W.mg_none_of X G z_isinstance
   ·exact PySem.W.mg_none_of X G z_int
   ·exact PySem.W.mg_none_of X G z_bool
   ·exact PySem.W.mg_none_of X G z_str
   ·exact PySem.W.mg_none_of X G z_sum
   ·exact PySem.W.mg_none_of X G z_all
   ·exact PySem.W.mg_none_of X G z_any
   ·exact PySem.W.mg_none_of X G z_sorted
   ·exact PySem.W.mg_none_of X G z_zip
   ·exact PySem.W.mg_none_of X G z_reversed
   ·exact PySem.W.mg_none_of X G z_dict
   ·exact PySem.W.mg_none_of X G z_set
   ·exact PySem.W.mg_none_of X G z_ValueError
  ·have hm:=look_mem (a:=c) (l:=ens) hh
   simp only [ens,List.mem_cons,List.not_mem_nil,or_false,Prod.mk.injEq] at hm
   rcases hm with ⟨rfl,rfl⟩
   ·exact ⟨PySem.W.mg_of X G yNoText,xNoText⟩
  ·have hm:=look_mem (a:=c) (l:=cln) hh
   simp only [cln,List.mem_cons,List.not_mem_nil,or_false,Prod.mk.injEq] at hm
  ·have hm:=look_mem (a:=(c,m)) (l:=mths) hh
   simp only [mths,List.mem_cons,List.not_mem_nil,or_false,Prod.mk.injEq] at hm
  ·exact False.elim hc
  ·have hm:=look_mem (a:=f) (l:=fln) hh
   simp only [fln,List.mem_cons,List.not_mem_nil,or_false,Prod.mk.injEq] at hm
  ·have hm:=look_mem (a:=m) (l:=mtn) hh
   simp only [mtn,List.mem_cons,List.not_mem_nil,or_false,Prod.mk.injEq] at hm
  ·have hm:(c,x)∈xmn:=List.contains_iff_mem.mp hh
   simp only [xmn,List.mem_cons,List.not_mem_nil,or_false,Prod.mk.injEq] at hm
   rcases hm with ⟨rfl,rfl⟩
   ·exact ⟨⟨_,PySem.W.mg_of X G yPressError,emNoText_PressError⟩,⟨clNoText,gaNoText,gtNoText,klNoText,moNoText,mbNoText⟩,vkNoText⟩
  ·have hm:=look_mem (a:=(c,x)) (l:=ktn) hh
   simp only [ktn,List.mem_cons,List.not_mem_nil,or_false,Prod.mk.injEq] at hm
   rcases hm with ⟨⟨rfl,rfl⟩,rfl⟩ | ⟨⟨rfl,rfl⟩,rfl⟩ | ⟨⟨rfl,rfl⟩,rfl⟩ | ⟨⟨rfl,rfl⟩,rfl⟩ | ⟨⟨rfl,rfl⟩,rfl⟩ | ⟨⟨rfl,rfl⟩,rfl⟩ | ⟨⟨rfl,rfl⟩,rfl⟩ | ⟨⟨rfl,rfl⟩,rfl⟩ | ⟨⟨rfl,rfl⟩,rfl⟩ | ⟨⟨rfl,rfl⟩,rfl⟩ | ⟨⟨rfl,rfl⟩,rfl⟩ | ⟨⟨rfl,rfl⟩,rfl⟩ | ⟨⟨rfl,rfl⟩,rfl⟩ | ⟨⟨rfl,rfl⟩,rfl⟩ | ⟨⟨rfl,rfl⟩,rfl⟩
   ·exact ⟨_,PySem.W.mg_of X G yBroken,ktNoText_Broken⟩
   ·exact ⟨_,PySem.W.mg_of X G yNoBits,ktNoText_NoBits⟩
   ·exact ⟨_,PySem.W.mg_of X G yNoBlock,ktNoText_NoBlock⟩
   ·exact ⟨_,PySem.W.mg_of X G yNoCode,ktNoText_NoCode⟩
   ·exact ⟨_,PySem.W.mg_of X G yNoHold,ktNoText_NoHold⟩
   ·exact ⟨_,PySem.W.mg_of X G yNoKids,ktNoText_NoKids⟩
   ·exact ⟨_,PySem.W.mg_of X G yNoMake,ktNoText_NoMake⟩
   ·exact ⟨_,PySem.W.mg_of X G yNoName,ktNoText_NoName⟩
   ·exact ⟨_,PySem.W.mg_of X G yNoPlace,ktNoText_NoPlace⟩
   ·exact ⟨_,PySem.W.mg_of X G yNoRepeat,ktNoText_NoRepeat⟩
   ·exact ⟨_,PySem.W.mg_of X G yNoRow,ktNoText_NoRow⟩
   ·exact ⟨_,PySem.W.mg_of X G yNoRule,ktNoText_NoRule⟩
   ·exact ⟨_,PySem.W.mg_of X G yNoThing,ktNoText_NoThing⟩
   ·exact ⟨_,PySem.W.mg_of X G yTwice,ktNoText_Twice⟩
   ·exact ⟨_,PySem.W.mg_of X G yNoText,ktNoText_NoText⟩
  ·cases hh
 exact law_ok (G:=GG) (W:=WD) (k:=KD) (f:=506) T (by decide) F13 rfl p_506 ck_law (fun _ h=>by cases h) math
theorem walk {l:PySem.W.OpenLaw} {q:Program} {loose:List Str} {XP:(Str→Option Value)→Heap→Prop} {YP:World→Heap→Prop} {d:DefRec} {K:Params→PySem.W.Frag} (hn:l.most=some 63) (hdf:d.params.defaults=[])
  (hY:∀ (w:World) (h:Heap),YP w h→(K w.params).In h)
  (F:∀ (w:World) (mg:Str→Option Value) (fa:Addr) (h:Heap),(K w.params).In h→h.Ns mainGlobals mg→mg d.name=some (.ref fa) →
   ∃ fd:FuncData,(∀ (s:Shared) (u:Value),BindsTo s fd ⟨[u],[]⟩ [("_law_script",u)])∧∀ base:Heap,(K w.params).In base→base.Ns mainGlobals mg→FnOk l.prog w (K w.params) mg base (CXE l.prog w) (2 * (KD+1)) fa fd ["_law_script"] (spLaw 63 (K w.params))) :
  PySem.W.WalkO q loose XP YP l.row.toRowW d [] (fun f vs=>PySem.call f vs) :=
 L2.walk_of (n:=63) (k:=2 * (KD+1)) (x := "_law_script") (CX:=fun w=>CXE l.prog w) (sp:=fun w=>spLaw 63 (K w.params)) hn (by decide) hdf ⟨rfl,by decide,by decide⟩ hY F (fun _ _ a ns hl _ hS=>⟨a,ns,rfl,hS,hl,fun _=>rfl⟩) fun _ _ _ _ _ ⟨_,_,_,_,_,_,_,z⟩=>z
end K57
namespace PySem.W.Fast
theorem tw8818452768496862208:True:=trivial
theorem tw16059234311474112544:True:=trivial
theorem tw10772946439419764800:True:=trivial
theorem tw2680299147193036960:True:=trivial
theorem tw14432958240585560256:True:=trivial
theorem tw3670053476846693600:True:=trivial
theorem tw1141833483184588096:True:=trivial
theorem tw9617269187256741248:True:=trivial
theorem tw17467508335620750720:True:=trivial
theorem tw9685862598419698080:True:=trivial
theorem tw12254562375106864576:True:=trivial
theorem tw2930001842461651456:True:=trivial
theorem tw16559966494677848640:True:=trivial
theorem tw7141680160622977664:True:=trivial
theorem tw14681409681112065792:True:=trivial
theorem tw9495828225019447072:True:=trivial
theorem tw1824804651520196384:True:=trivial
theorem tw5119437956245061440:True:=trivial
theorem tw239648021048479616:True:=trivial
theorem tw8801047182327817152:True:=trivial
theorem tw9455335057795738560:True:=trivial
theorem tw12602506286707680257:True:=trivial
theorem tw8801925541432157185:True:=trivial
theorem tw7422737701348185185:True:=trivial
theorem tw1616202939963302017:True:=trivial
theorem tw13625651387010352609:True:=trivial
theorem tw5729635891118039649:True:=trivial
theorem tw2361878610251553537:True:=trivial
theorem tw3696710279136622626:True:=trivial
theorem tw9028744785272777954:True:=trivial
theorem tw8932616885573137250:True:=trivial
theorem tw6531133434258650115:True:=trivial
theorem tw7318295504361264227:True:=trivial
theorem tw8930407282978311331:True:=trivial
theorem tw3143833673264184515:True:=trivial
theorem tw11148668131742016739:True:=trivial
theorem tw9501522754341707043:True:=trivial
theorem tw4720341934715911491:True:=trivial
theorem tw7759899500991114595:True:=trivial
theorem tw17986785389979589027:True:=trivial
theorem tw6576809255360806563:True:=trivial
theorem tw1583959008826895139:True:=trivial
theorem tw8873737131793189827:True:=trivial
theorem tw14922503116332656740:True:=trivial
theorem tw2494624723719876772:True:=trivial
theorem tw21752949737598148:True:=trivial
theorem tw17238746396064938180:True:=trivial
theorem tw6374777621645838564:True:=trivial
theorem tw7934483593532162436:True:=trivial
theorem tw2833108298525199908:True:=trivial
theorem tw15295504525350649636:True:=trivial
theorem tw10368654096887044932:True:=trivial
theorem tw2469641515469585413:True:=trivial
theorem tw1642443757995117605:True:=trivial
theorem tw14621889313500797029:True:=trivial
theorem tw3144353285349416293:True:=trivial
theorem tw8805916111568357765:True:=trivial
theorem tw2450360688763848101:True:=trivial
theorem tw1089773000658140613:True:=trivial
theorem tw11601641161132421605:True:=trivial
theorem tw2516233878334126565:True:=trivial
theorem tw16975679434484474373:True:=trivial
theorem tw18413678195607417445:True:=trivial
theorem tw7601373276082714309:True:=trivial
theorem tw10435497092942069509:True:=trivial
theorem tw3143430766906743621:True:=trivial
theorem tw12299074485744458629:True:=trivial
theorem tw9561931114673016741:True:=trivial
theorem tw7881052934019800037:True:=trivial
theorem tw82481242006412294:True:=trivial
theorem tw12687825572077275334:True:=trivial
theorem tw12915368838746032326:True:=trivial
theorem tw13486011882239098182:True:=trivial
theorem tw12945693555879874950:True:=trivial
theorem tw4523514409725057446:True:=trivial
theorem tw876392422425586150:True:=trivial
theorem tw8315988491341779654:True:=trivial
theorem tw9287180136848866022:True:=trivial
theorem tw3674286340193951526:True:=trivial
theorem tw5405436938845443910:True:=trivial
theorem tw5183532254477188998:True:=trivial
theorem tw16908776324144307110:True:=trivial
theorem tw17956691118608928742:True:=trivial
theorem tw15784496906520949799:True:=trivial
theorem tw12741491287978329159:True:=trivial
theorem tw15754205572930817095:True:=trivial
theorem tw13083280914899854695:True:=trivial
theorem tw11132483408551081383:True:=trivial
theorem tw12579604680825593287:True:=trivial
theorem tw3159470532774642151:True:=trivial
theorem tw6521807589012239847:True:=trivial
theorem tw11544946867659573767:True:=trivial
theorem tw14674604435589614151:True:=trivial
theorem tw134572066318214727:True:=trivial
theorem tw7543571079342451367:True:=trivial
theorem tw8532831033262636743:True:=trivial
theorem tw17836143331175152455:True:=trivial
theorem tw6753073055067533127:True:=trivial
theorem tw10088028933738290119:True:=trivial
theorem tw16677374874171978792:True:=trivial
theorem tw2832909730962722856:True:=trivial
theorem tw2448534924612051080:True:=trivial
theorem tw12941629772366202088:True:=trivial
theorem tw8715934500349321576:True:=trivial
theorem tw193312978575126888:True:=trivial
theorem tw5743297373530358152:True:=trivial
theorem tw2391216957930406440:True:=trivial
theorem tw7112753869662278376:True:=trivial
theorem tw15573598733156682504:True:=trivial
theorem tw2832796143063902056:True:=trivial
theorem tw4869927635120989064:True:=trivial
theorem tw12598304842154512425:True:=trivial
theorem tw1754282742192964777:True:=trivial
theorem tw12221620255654814025:True:=trivial
theorem tw3923737509381210473:True:=trivial
theorem tw7007132863926120873:True:=trivial
theorem tw11176696209726851529:True:=trivial
theorem tw16750834622450981321:True:=trivial
theorem tw10988786043229358729:True:=trivial
theorem tw6843704734712428201:True:=trivial
theorem tw2627626254730913513:True:=trivial
theorem tw11809923689697756041:True:=trivial
theorem tw4307194037477012618:True:=trivial
theorem tw14253266483160311018:True:=trivial
theorem tw4116827741295058282:True:=trivial
theorem tw10329703234301534698:True:=trivial
theorem tw11565688964290902506:True:=trivial
theorem tw658105115308071850:True:=trivial
theorem tw3208395877685817387:True:=trivial
theorem tw13709791868075311211:True:=trivial
theorem tw7695139577263787147:True:=trivial
theorem tw16406295395576814859:True:=trivial
theorem tw15850691885458026763:True:=trivial
theorem tw12271503110102141323:True:=trivial
theorem tw11044427058912368235:True:=trivial
theorem tw5897856801741420139:True:=trivial
theorem tw4040139255672798923:True:=trivial
theorem tw3085906186244335499:True:=trivial
theorem tw14327618522182021035:True:=trivial
theorem tw2491632813696694251:True:=trivial
theorem tw16740848574316326924:True:=trivial
theorem tw14571502279350598668:True:=trivial
theorem tw10169344779471539212:True:=trivial
theorem tw15684132544591546540:True:=trivial
theorem tw1597024450249782540:True:=trivial
theorem tw9024636577194529132:True:=trivial
theorem tw5869521407897611660:True:=trivial
theorem tw8564771303670855148:True:=trivial
theorem tw494339015922442732:True:=trivial
theorem tw5548782219613211308:True:=trivial
theorem tw1253501013895354220:True:=trivial
theorem tw15031053178447860684:True:=trivial
theorem tw129098272621635693:True:=trivial
theorem tw16068130684446932077:True:=trivial
theorem tw211961268655375629:True:=trivial
theorem tw13921124458928773453:True:=trivial
theorem tw13241683076423377293:True:=trivial
theorem tw9651673889745107405:True:=trivial
theorem tw11568811416707997197:True:=trivial
theorem tw7748144808212024845:True:=trivial
theorem tw9069017618457065005:True:=trivial
theorem tw10825772772854292141:True:=trivial
theorem tw9699708314009403213:True:=trivial
theorem tw14373256819207231469:True:=trivial
theorem tw3327862842954928174:True:=trivial
theorem tw9375052326335475758:True:=trivial
theorem tw7262039820426523790:True:=trivial
theorem tw4537820626846283950:True:=trivial
theorem tw1494801693206563054:True:=trivial
theorem tw4566736332893527310:True:=trivial
theorem tw9982995719367504142:True:=trivial
theorem tw9066734324117062030:True:=trivial
theorem tw16021403190332618126:True:=trivial
theorem tw6578167436040411566:True:=trivial
theorem tw16123085761656087982:True:=trivial
theorem tw9052465672109550:True:=trivial
theorem tw5735813356299475566:True:=trivial
theorem tw15276841575058770574:True:=trivial
theorem tw15734315978694087310:True:=trivial
theorem tw12245685460378223342:True:=trivial
theorem tw14303735619436971758:True:=trivial
theorem tw6616923077697400558:True:=trivial
theorem tw1135551384186377006:True:=trivial
theorem tw13895322753382511438:True:=trivial
theorem tw6726136201662927790:True:=trivial
theorem tw700183468035865647:True:=trivial
theorem tw7376257138160735311:True:=trivial
theorem tw2154474649962989647:True:=trivial
theorem tw9657347226561434799:True:=trivial
theorem tw11474174190230889647:True:=trivial
theorem tw8067203698886681807:True:=trivial
theorem tw5490307255438983407:True:=trivial
theorem tw8585611747384472847:True:=trivial
theorem tw3569886650186798383:True:=trivial
theorem tw13423477093275022671:True:=trivial
theorem tw9905131062255417807:True:=trivial
theorem tw2883157176154916399:True:=trivial
theorem tw17258563248725473967:True:=trivial
theorem tw16692151776943747791:True:=trivial
theorem tw7874485695924770543:True:=trivial
theorem tw1322288589119425455:True:=trivial
theorem tw12734512870558466031:True:=trivial
theorem tw5310749029828620400:True:=trivial
theorem tw7338324517380816016:True:=trivial
theorem tw2276174526781664624:True:=trivial
theorem tw10950511214072432048:True:=trivial
theorem tw3220765566055664048:True:=trivial
theorem tw10290629534662923728:True:=trivial
theorem tw1517798098771424784:True:=trivial
theorem tw7581807191636645424:True:=trivial
theorem tw5981875179379002032:True:=trivial
theorem tw5284081322462655376:True:=trivial
theorem tw18017707127308331057:True:=trivial
theorem tw545824450409606385:True:=trivial
theorem tw5766911664789729521:True:=trivial
theorem tw3906367230616878577:True:=trivial
theorem tw18434931903136050705:True:=trivial
theorem tw13935038812000330289:True:=trivial
theorem tw13002088354708471345:True:=trivial
theorem tw14252864288229851761:True:=trivial
theorem tw12131534313897018097:True:=trivial
theorem tw17138001181326204881:True:=trivial
theorem tw6673893877018570834:True:=trivial
theorem tw9866006505656431762:True:=trivial
theorem tw16582812592296158354:True:=trivial
theorem tw16711029464644979922:True:=trivial
theorem tw7596586331068687570:True:=trivial
theorem tw4924955458310033874:True:=trivial
theorem tw10825477639335967250:True:=trivial
theorem tw2758654763925089842:True:=trivial
theorem tw14695812367446102962:True:=trivial
theorem tw3906975061352625203:True:=trivial
theorem tw17979709380555878483:True:=trivial
theorem tw11607868794582330515:True:=trivial
theorem tw16594642109014720723:True:=trivial
theorem tw4890915427037018387:True:=trivial
theorem tw16143307609422447955:True:=trivial
theorem tw11457232394413986163:True:=trivial
theorem tw11398236287355857299:True:=trivial
theorem tw1277710621108055475:True:=trivial
theorem tw13136824272748238259:True:=trivial
theorem tw7838406296575274483:True:=trivial
theorem tw17938965550992099315:True:=trivial
theorem tw12249035612752098291:True:=trivial
theorem tw8614720606477105139:True:=trivial
theorem tw6899048645140650004:True:=trivial
theorem tw14502304445909070932:True:=trivial
theorem tw16669676502282713204:True:=trivial
theorem tw4837482786943599092:True:=trivial
theorem tw1490973402336852532:True:=trivial
theorem tw9616757081581192788:True:=trivial
theorem tw13021643497682081364:True:=trivial
theorem tw7121825515217242836:True:=trivial
theorem tw5063090356090666740:True:=trivial
theorem tw16116882046608942900:True:=trivial
theorem tw10304374084076648597:True:=trivial
theorem tw15229606848895097013:True:=trivial
theorem tw17939716758893860053:True:=trivial
theorem tw18141704519014735253:True:=trivial
theorem tw4176452250442535445:True:=trivial
theorem tw10471665575919563317:True:=trivial
theorem tw18443897757645506357:True:=trivial
theorem tw5017727334184135541:True:=trivial
theorem tw13127110696273594261:True:=trivial
theorem tw10286876261374400534:True:=trivial
theorem tw2469410137604585494:True:=trivial
theorem tw6046200633433172118:True:=trivial
theorem tw10815297854014209174:True:=trivial
theorem tw12674613721596437686:True:=trivial
theorem tw10557510360731529398:True:=trivial
theorem tw9875919666004952342:True:=trivial
theorem tw12889611009707166070:True:=trivial
theorem tw18271088551975319926:True:=trivial
theorem tw18316098853931217302:True:=trivial
theorem tw4650574710259089878:True:=trivial
theorem tw3964962311538522614:True:=trivial
theorem tw3233827223442580278:True:=trivial
theorem tw17019555949241006070:True:=trivial
theorem tw6274677760147899415:True:=trivial
theorem tw8095942862252800119:True:=trivial
theorem tw3925103484962171063:True:=trivial
theorem tw11202716777657400631:True:=trivial
theorem tw17753156093496526167:True:=trivial
theorem tw11122361689031168375:True:=trivial
theorem tw17716109555476454775:True:=trivial
theorem tw7336123332032828855:True:=trivial
theorem tw4240433190114343415:True:=trivial
theorem tw1961448387338626647:True:=trivial
theorem tw16540127902158086807:True:=trivial
theorem tw8661117692273009335:True:=trivial
theorem tw11797052266093227767:True:=trivial
theorem tw16032875414259100567:True:=trivial
theorem tw15925512415312224183:True:=trivial
theorem tw15051899435190433976:True:=trivial
theorem tw4147358632519109080:True:=trivial
theorem tw963740429437924984:True:=trivial
theorem tw8055367754360446616:True:=trivial
theorem tw10934190886186395384:True:=trivial
theorem tw6848401988939981592:True:=trivial
theorem tw1869693332046501752:True:=trivial
theorem tw11143838057639683064:True:=trivial
theorem tw372838601700804665:True:=trivial
theorem tw16019929186335390841:True:=trivial
theorem tw14082966684249319641:True:=trivial
theorem tw546505430246689017:True:=trivial
theorem tw11230618728012150041:True:=trivial
theorem tw13370204247396115769:True:=trivial
theorem tw6929138710087448089:True:=trivial
theorem tw17294917107359839865:True:=trivial
theorem tw5834591548456501945:True:=trivial
theorem tw493348067768424377:True:=trivial
theorem tw15020347724100713530:True:=trivial
theorem tw17496081389188662330:True:=trivial
theorem tw8713512043625043130:True:=trivial
theorem tw3310331515895186650:True:=trivial
theorem tw10438121110629361882:True:=trivial
theorem tw1478185411913392378:True:=trivial
theorem tw9131963995804678394:True:=trivial
theorem tw6105451323309315322:True:=trivial
theorem tw17005180702357578010:True:=trivial
theorem tw13700188253813827066:True:=trivial
theorem tw1562564465436792346:True:=trivial
theorem tw10407742215487108730:True:=trivial
theorem tw16858623300236501626:True:=trivial
theorem tw629220342290292442:True:=trivial
theorem tw16978629573996413690:True:=trivial
theorem tw8039173232917938970:True:=trivial
theorem tw4239866833627088890:True:=trivial
theorem tw3235726375172645115:True:=trivial
theorem tw457017707136571707:True:=trivial
theorem tw13535775540264411579:True:=trivial
theorem tw15331294320327053787:True:=trivial
theorem tw16959102479887824379:True:=trivial
theorem tw10936579202636894875:True:=trivial
theorem tw6181727134103511963:True:=trivial
theorem tw16213966591114845115:True:=trivial
theorem tw5723561779711459323:True:=trivial
theorem tw13245725860694872188:True:=trivial
theorem tw1014393572221777084:True:=trivial
theorem tw4816143853353757948:True:=trivial
theorem tw154554032633676060:True:=trivial
theorem tw5305390676186645884:True:=trivial
theorem tw8462536570250360188:True:=trivial
theorem tw7014108878924589468:True:=trivial
theorem tw12792965824206368156:True:=trivial
theorem tw10764494458499019548:True:=trivial
theorem tw80730398135140156:True:=trivial
theorem tw16136427748307668892:True:=trivial
theorem tw16190038132010728412:True:=trivial
theorem tw3996673285991940060:True:=trivial
theorem tw953420916968480764:True:=trivial
theorem tw18091118297274952861:True:=trivial
theorem tw343952333629536445:True:=trivial
theorem tw10588940742306286941:True:=trivial
theorem tw5236618409965131453:True:=trivial
theorem tw17251578685302840029:True:=trivial
theorem tw15414663178844626685:True:=trivial
theorem tw6929427287441977213:True:=trivial
theorem tw15090861600710573086:True:=trivial
theorem tw5346467754616153214:True:=trivial
theorem tw10102933495932495134:True:=trivial
theorem tw13206095807999152606:True:=trivial
theorem tw259129571830984158:True:=trivial
theorem tw10197655821711272510:True:=trivial
theorem tw12391784224018672350:True:=trivial
theorem tw6087894377802459966:True:=trivial
theorem tw9974752636282990526:True:=trivial
theorem tw15770004411725204446:True:=trivial
theorem tw15242019212846668863:True:=trivial
theorem tw13867512677837737215:True:=trivial
theorem tw8286451577759242495:True:=trivial
theorem tw12191763558545405343:True:=trivial
theorem tw2003128678989804991:True:=trivial
theorem tw10633726108741974527:True:=trivial
theorem tw6910567624937590303:True:=trivial
theorem tw1311604345348107903:True:=trivial
theorem tw15016536782412471007:True:=trivial
theorem tw1326125614441494335:True:=trivial
theorem tw11359229358420266911:True:=trivial
theorem tw17849008142084395999:True:=trivial
theorem tw3362120453984542719:True:=trivial
theorem tw17240766825622459402:True:=trivial
theorem tw2051350503227680924:True:=trivial
end PySem.W.Fast
open PySem PySem.W PyProof.Rows
set_option maxRecDepth 100000 in
set_option maxHeartbeats 0 in
theorem PySem.Challenge.cw_seekpress_k57_texts_refused_holds : PySem.Challenge.rw_seekpress_k57_texts_refused.Holds := by
 w_on; o_law; k_head; (case hw=>w_witness2)
 k_fill
 refine K57.walk (l:=PySem.Challenge.rw_seekpress_k57_texts_refused) rfl rfl (fun w h Y=>PySem.W.kIn_of Y) ?F
 case F =>
  intro w mg fa h KX G hmg
  refine' K57.all_mk KX G hmg ?a0 ?l0 ?c0 ?k0 ?a1 ?l1 ?c1 ?k1 ?a2 ?l2 ?c2 ?k2 ?a3 ?l3 ?c3 ?k3 ?a4 ?l4 ?c4 ?k4 ?a5 ?l5 ?c5 ?k5 ?a6 ?l6 ?c6 ?k6 ?a7 ?l7 ?c7 ?k7 ?a8 ?l8 ?c8 ?k8 ?a9 ?l9 ?c9 ?k9 ?a10 ?l10 ?c10 ?k10 ?a11 ?l11 ?c11 ?k11 ?a12 ?l12 ?c12 ?k12 ?a13 ?l13 ?c13 ?k13 ?z_len ?z_list ?z_tuple ?z_min ?z_max ?z_range ?z_enumerate ?z_isinstance ?z_int ?z_bool ?z_str ?z_sum ?z_all ?z_any ?z_sorted ?z_zip ?z_reversed ?z_dict ?z_set ?z_ValueError ?zMOST_FIGURES ?zNONE ?yNoText ?xNoText ?yBroken ?yNoBits ?yNoBlock ?yNoCode ?yNoHold ?yNoKids ?yNoMake ?yNoName ?yNoPlace ?yNoRepeat ?yNoRow ?yNoRule ?yNoThing ?yPressError ?yTwice ?clNoText ?gaNoText ?gtNoText ?klNoText ?moNoText ?mbNoText ?vkNoText ?emNoText_PressError ?ktNoText_Broken ?ktNoText_NoBits ?ktNoText_NoBlock ?ktNoText_NoCode ?ktNoText_NoHold ?ktNoText_NoKids ?ktNoText_NoMake ?ktNoText_NoName ?ktNoText_NoPlace ?ktNoText_NoRepeat ?ktNoText_NoRow ?ktNoText_NoRule ?ktNoText_NoThing ?ktNoText_Twice ?ktNoText_NoText
  (case a0=>first | k_is | kernel_rfl)
  (case l0=>first | k_is | kernel_rfl)
  (case c0=>first | k_is | kernel_rfl)
  (case k0=>first | k_is | kernel_rfl)
  (case a1=>first | k_is | kernel_rfl)
  (case l1=>first | k_is | kernel_rfl)
  (case c1=>first | k_is | kernel_rfl)
  (case k1=>first | k_is | kernel_rfl)
  (case a2=>first | k_is | kernel_rfl)
  (case l2=>first | k_is | kernel_rfl)
  (case c2=>first | k_is | kernel_rfl)
  (case k2=>first | k_is | kernel_rfl)
  (case a3=>first | k_is | kernel_rfl)
  (case l3=>first | k_is | kernel_rfl)
  (case c3=>first | k_is | kernel_rfl)
  (case k3=>first | k_is | kernel_rfl)
  (case a4=>first | k_is | kernel_rfl)
  (case l4=>first | k_is | kernel_rfl)
  (case c4=>first | k_is | kernel_rfl)
  (case k4=>first | k_is | kernel_rfl)
  (case a5=>first | k_is | kernel_rfl)
  (case l5=>first | k_is | kernel_rfl)
  (case c5=>first | k_is | kernel_rfl)
  (case k5=>first | k_is | kernel_rfl)
  (case a6=>first | k_is | kernel_rfl)
  (case l6=>first | k_is | kernel_rfl)
  (case c6=>first | k_is | kernel_rfl)
  (case k6=>first | k_is | kernel_rfl)
  (case a7=>first | k_is | kernel_rfl)
  (case l7=>first | k_is | kernel_rfl)
  (case c7=>first | k_is | kernel_rfl)
  (case k7=>first | k_is | kernel_rfl)
  (case a8=>first | k_is | kernel_rfl)
  (case l8=>first | k_is | kernel_rfl)
  (case c8=>first | k_is | kernel_rfl)
  (case k8=>first | k_is | kernel_rfl)
  (case a9=>first | k_is | kernel_rfl)
  (case l9=>first | k_is | kernel_rfl)
  (case c9=>first | k_is | kernel_rfl)
  (case k9=>first | k_is | kernel_rfl)
  (case a10=>first | k_is | kernel_rfl)
  (case l10=>first | k_is | kernel_rfl)
  (case c10=>first | k_is | kernel_rfl)
  (case k10=>first | k_is | kernel_rfl)
  (case a11=>first | k_is | kernel_rfl)
  (case l11=>first | k_is | kernel_rfl)
  (case c11=>first | k_is | kernel_rfl)
  (case k11=>first | k_is | kernel_rfl)
  (case a12=>first | k_is | kernel_rfl)
  (case l12=>first | k_is | kernel_rfl)
  (case c12=>first | k_is | kernel_rfl)
  (case k12=>first | k_is | kernel_rfl)
  (case a13=>first | k_is | kernel_rfl)
  (case l13=>first | k_is | kernel_rfl)
  (case c13=>first | k_is | kernel_rfl)
  (case k13=>first | k_is | kernel_rfl)
  (case z_len=>first | k_is | kernel_rfl)
  (case z_list=>first | k_is | kernel_rfl)
  (case z_tuple=>first | k_is | kernel_rfl)
  (case z_min=>first | k_is | kernel_rfl)
  (case z_max=>first | k_is | kernel_rfl)
  (case z_range=>first | k_is | kernel_rfl)
  (case z_enumerate=>first | k_is | kernel_rfl)
  (case z_isinstance=>first | k_is | kernel_rfl)
  (case z_int=>first | k_is | kernel_rfl)
  (case z_bool=>first | k_is | kernel_rfl)
  (case z_str=>first | k_is | kernel_rfl)
  (case z_sum=>first | k_is | kernel_rfl)
  (case z_all=>first | k_is | kernel_rfl)
  (case z_any=>first | k_is | kernel_rfl)
  (case z_sorted=>first | k_is | kernel_rfl)
  (case z_zip=>first | k_is | kernel_rfl)
  (case z_reversed=>first | k_is | kernel_rfl)
  (case z_dict=>first | k_is | kernel_rfl)
  (case z_set=>first | k_is | kernel_rfl)
  (case z_ValueError=>first | k_is | kernel_rfl)
  (case zMOST_FIGURES=>first | k_is | kernel_rfl)
  (case zNONE=>first | k_is | kernel_rfl)
  (case yNoText=>first | k_is | kernel_rfl)
  (case xNoText=>first | k_is | kernel_rfl)
  (case yBroken=>first | k_is | kernel_rfl)
  (case yNoBits=>first | k_is | kernel_rfl)
  (case yNoBlock=>first | k_is | kernel_rfl)
  (case yNoCode=>first | k_is | kernel_rfl)
  (case yNoHold=>first | k_is | kernel_rfl)
  (case yNoKids=>first | k_is | kernel_rfl)
  (case yNoMake=>first | k_is | kernel_rfl)
  (case yNoName=>first | k_is | kernel_rfl)
  (case yNoPlace=>first | k_is | kernel_rfl)
  (case yNoRepeat=>first | k_is | kernel_rfl)
  (case yNoRow=>first | k_is | kernel_rfl)
  (case yNoRule=>first | k_is | kernel_rfl)
  (case yNoThing=>first | k_is | kernel_rfl)
  (case yPressError=>first | k_is | kernel_rfl)
  (case yTwice=>first | k_is | kernel_rfl)
  (case clNoText=>first | k_is | kernel_rfl)
  (case gaNoText=>first | k_is | kernel_rfl)
  (case gtNoText=>first | k_is | kernel_rfl)
  (case klNoText=>first | k_is | kernel_rfl)
  (case moNoText=>first | k_is | kernel_rfl)
  (case mbNoText=>first | k_is | kernel_rfl)
  (case vkNoText=>first | k_is | kernel_rfl)
  (case emNoText_PressError=>first | k_is | kernel_rfl)
  (case ktNoText_Broken=>first | k_is | kernel_rfl)
  (case ktNoText_NoBits=>first | k_is | kernel_rfl)
  (case ktNoText_NoBlock=>first | k_is | kernel_rfl)
  (case ktNoText_NoCode=>first | k_is | kernel_rfl)
  (case ktNoText_NoHold=>first | k_is | kernel_rfl)
  (case ktNoText_NoKids=>first | k_is | kernel_rfl)
  (case ktNoText_NoMake=>first | k_is | kernel_rfl)
  (case ktNoText_NoName=>first | k_is | kernel_rfl)
  (case ktNoText_NoPlace=>first | k_is | kernel_rfl)
  (case ktNoText_NoRepeat=>first | k_is | kernel_rfl)
  (case ktNoText_NoRow=>first | k_is | kernel_rfl)
  (case ktNoText_NoRule=>first | k_is | kernel_rfl)
  (case ktNoText_NoThing=>first | k_is | kernel_rfl)
  (case ktNoText_Twice=>first | k_is | kernel_rfl)
  (case ktNoText_NoText=>first | k_is | kernel_rfl)

