import PyProof.Rows.All
import Wide.All
import OpenK.AllK
import Wide.FinOn
import Lean
import PyProof.EqAt
import PyProof.EqKinds
import PyProof.TupleCall
import PyProof.StrLawsRepr
import PyProof.ZipIter
import PySem.Challenge.RW_woolyears_k04_holdings_told
import KE.KDictList
import PyProof.Rows.SortWalk
import PyProof.StationsW
import PyProof.ExcBaseAll.ValueError
set_option compiler.extract_closed false
set_option Elab.async false
set_option linter.all false
set_option maxRecDepth 100000
namespace L2
open PySem PySem.Spec PyProof.Rows

noncomputable abbrev Key:=Sum Int Str
noncomputable def lw:Key→Value→Bool
 | .inl k,v=>Value.isInt k v
 | .inr x,v=>Value.isStrOf x v
noncomputable def Fv (w:World):Key→Int
 | .inl k=>hashInt k
 | .inr x=>hashStr w x
theorem bO:∀ {k:Key} {v:Value},lw k v=true→(∃ i t,k=Sum.inl i∧v=Value.int i t)∨(∃ x t,k=Sum.inr x∧v=Value.str x t)
 | .inl i,v,h=>by
  obtain ⟨t,e⟩:=Value.isInt_shape (k:=i) (v:=v) h
  exact .inl ⟨i,t,rfl,e⟩
 | .inr x,v,h=>by
  obtain ⟨t,e⟩:=Value.isStrOf_shape (x:=x) (v:=v) h
  exact .inr ⟨x,t,rfl,e⟩
theorem vI (i:Int) (t:Tok):lw (.inl i) (.int i t)=true:=by simp [lw,Value.isInt]
theorem vJ (x:Str) (t:Tok):lw (.inr x) (.str x t)=true:=by simp [lw,Value.isStrOf]
theorem Ce (a b:Int):decide ((Sum.inl a:Key)=Sum.inl b)=(a == b):=by
 by_cases e:a=b
 ·subst e; simp
 ·have h:¬ (Sum.inl a:Key)=Sum.inl b:=fun q=>e (Sum.inl.inj q)
  rw [decide_eq_false h]
  exact (beq_eq_false_iff_ne.mpr e).symm
theorem Cg (a b:Str):decide ((Sum.inr a:Key)=Sum.inr b)=decide (a=b):=by
 by_cases e:a=b
 ·subst e; simp
 ·have h:¬ (Sum.inr a:Key)=Sum.inr b:=fun q=>e (Sum.inr.inj q)
  rw [decide_eq_false h,decide_eq_false e]
theorem Ci (a:Int) (b:Str):decide ((Sum.inl a:Key)=Sum.inr b)=false:=decide_eq_false (fun q=>nomatch q)
theorem Cj (a:Str) (b:Int):decide ((Sum.inr a:Key)=Sum.inl b)=false:=decide_eq_false (fun q=>nomatch q)

noncomputable def bM (prog:Program) (w:World):PySem.KeyKind prog w Key where
 is:=lw
 hash:=Fv w
 inj:=fun v a b ha hb=>by
  rcases bO ha with ⟨i,t,rfl,rfl⟩ | ⟨x,t,rfl,rfl⟩
  ·rcases bO hb with ⟨j,u,rfl,e⟩ | ⟨y,u,rfl,e⟩
   ·injection e with e1 _; rw [e1]
   ·exact nomatch e
  ·rcases bO hb with ⟨j,u,rfl,e⟩ | ⟨y,u,rfl,e⟩
   ·exact nomatch e
   ·injection e with e1 _; rw [e1]
 byValue:=fun k v h=>by
  rcases bO h with ⟨i,t,rfl,rfl⟩ | ⟨x,t,rfl,rfl⟩ <;> rfl
 pyHash:=fun hv h=>by
  rcases bO hv with ⟨i,t,rfl,rfl⟩ | ⟨x,t,rfl,rfl⟩
  ·exact wpAny_pyHash_int h
  ·exact wpAny_pyHash_str h
 eqBool:=fun hu hv h=>by
  rcases bO hu with ⟨i,t,rfl,rfl⟩ | ⟨x,t,rfl,rfl⟩
  ·rcases bO hv with ⟨j,u,rfl,rfl⟩ | ⟨y,u,rfl,rfl⟩
   ·rw [Ce] at h; exact wpAny_eqBool_int h
   ·rw [Ci] at h; exact SeqAt.EqAt.int_str i t y u _ _ _ _ h
  ·rcases bO hv with ⟨j,u,rfl,rfl⟩ | ⟨y,u,rfl,rfl⟩
   ·rw [Cj] at h; exact SeqAt.EqAt.str_int x t j u _ _ _ _ h
   ·rw [Cg] at h; exact wpAny_eqBool_str h
 «strs»:=fun k x t v h=>by
  rcases bO h with ⟨i,u,rfl,e⟩ | ⟨y,u,rfl,e⟩
  ·exact nomatch e
  ·injection e with e1 _
   subst e1
   cases v <;> rfl

theorem qD (prog:Program) (w:World) (i:Int) (t:Tok):(bM prog w).is (.inl i) (.int i t)=true:=vI i t
theorem qF (prog:Program) (w:World) (x:Str) (t:Tok):(bM prog w).is (.inr x) (.str x t)=true:=vJ x t
end L2

namespace L2
open PySem PySem.Spec PyProof.Rows

inductive V where
 | non | bl (b:Bool) | int (i:Int) | str (x:Str) | byt (b:Array UInt8) | flt (b:UInt64) | ref (a:Addr) | ty (n:String)
 deriving DecidableEq

noncomputable def RelV:V→Value→Prop
 | .non,u=>u=Value.none
 | .bl b,u=>u=Value.bool b
 | .int i,u=>∃ t,u=Value.int i t
 | .str x,u=>∃ t,u=Value.str x t
 | .byt b,u=>∃ t,u=Value.bytes b t
 | .flt b,u=>∃ t,u=Value.float b t
 | .ref a,u=>u=Value.ref a
 | .ty n,u=>u=Value.type n

noncomputable abbrev Vals:List V→List Value→Prop:=Paired RelV
theorem Vals.length {xs:List V} {us:List Value} (r:Vals xs us):xs.length=us.length:=Paired.length r
theorem Vals.get:∀ {xs:List V} {us:List Value} {i:Nat} {x:V},Vals xs us→xs[i]?=some x→∃ u,us[i]?=some u∧RelV x u
 | _,_,_,_,.nil,e=>by simp at e
 | _,_,0,_,.cons r _,e=>by simp at e; subst e; exact ⟨_,rfl,r⟩
 | _,_,i+1,x,.cons _ t,e=>by
  obtain ⟨u,h1,h2⟩:=Vals.get (i:=i) (x:=x) t (by simpa using e)
  exact ⟨u,by simpa using h1,h2⟩
theorem Vals.set {x:V} {u:Value} (r:RelV x u):∀ {xs:List V} {us:List Value} (i:Nat),Vals xs us→Vals (xs.set i x) (us.set i u)
 | _,_,_,.nil=>.nil
 | _,_,0,.cons _ t=>.cons r t
 | _,_,i+1,.cons q t=>.cons q (Vals.set r i t)
theorem Vals.append:∀ {xs ys:List V} {us ws:List Value},Vals xs us→Vals ys ws→Vals (xs++ys) (us++ws)
 | _,_,_,_,.nil,s=>s
 | _,_,_,_,.cons r t,s=>.cons r (Vals.append t s)
theorem Vals.take:∀ {xs:List V} {us:List Value} (n:Nat),Vals xs us→Vals (xs.take n) (us.take n)
 | _,_,0,_=>.nil
 | _,_,_+1,.nil=>.nil
 | _,_,n+1,.cons r t=>.cons r (Vals.take n t)
theorem Vals.drop:∀ {xs:List V} {us:List Value} (n:Nat),Vals xs us→Vals (xs.drop n) (us.drop n)
 | _,_,0,r=>r
 | _,_,_+1,.nil=>.nil
 | _,_,n+1,.cons _ t=>Vals.drop n t

noncomputable def RelO:Option V→Option Value→Prop
 | some v,some u=>RelV v u
 | none,none=>True
 | _,_=>False
noncomputable def KV {κ:Type}:List (κ×V)→List (κ×Value)→Prop:=Paired fun (p:κ×V) (q:κ×Value)=>p.1=q.1∧RelV p.2 q.2

noncomputable def kV:Key→V
 | .inl i=>.int i
 | .inr x=>.str x

inductive HO where
  | lst (xs:List V)
  | tup (xs:List V)
  | dK (kvs:List (Key×V)) | dT (kvs:List (List Key×V))
  | set (S:Int→Bool) (n:Nat)
  | ins (C dx:Addr) (fs:List (Str×V))
  | own (x:Addr)
  | xd (fs:List (Str×V))
  | met (f x:Addr)
  | rng (lo hi:Int)
  | frz (o:Obj) (u:HO)
  | tbl (ps:Array Value)
  | ext (φ:Heap→Prop)

noncomputable abbrev Hp:=Addr→Option HO
noncomputable def upd (H:Hp) (a:Addr) (o:HO):Hp:=fun b=>if b=a then some o else H b
theorem ak {H:Hp} {a:Addr} {o:HO}:upd H a o a=some o:=by unfold upd; rw [if_pos rfl]
theorem az {H:Hp} {a b:Addr} {o:HO} (h:b≠a):upd H a o b=H b:=by unfold upd; rw [if_neg h]
theorem DN {H:Hp} {a b:Addr} {o u:HO} (h:H a=some o) (h':H b=some u) (d:o≠u):a≠b:=by
 intro e; subst e; rw [h] at h'; exact d (Option.some.inj h')
theorem aG {H:Hp} {a b:Addr} {o:HO} (h:H a=some o) (h':H b=none):a≠b:=by
 intro e; subst e; rw [h] at h'; cases h'

section
variable (P:Program) (w:World)
noncomputable def ObjOk (H:Hp) (h:Heap) (a:Addr):HO→Prop
 | .lst xs=>xs.length≤sizeLine∧∃ (its:List Value) (n:Nat),Vals xs its∧h.get? a=some { cls:=.type "list",data:=.seq its.toArray n }
 | .tup xs=>xs.length≤sizeLine∧∃ its:List Value,Vals xs its∧IsTup h a its.toArray
 | .dK kvs=>kvs.length≤sizeLine∧(a == sysModules)=false∧∃ vs,KV kvs vs∧h.DictOf (bM P w) a vs
 | .dT kvs=>kvs.length≤sizeLine∧(a == sysModules)=false∧∃ xs:List (List Key×Addr×Value),
   Paired (fun (p:List Key×V) (q:List Key×Addr×Value)=>p.1=q.1∧H q.2.1=some (.tup (p.1.map kV))∧RelV p.2 q.2.2) kvs xs ∧
   ∃ o es ep,h.get? a=some o∧o.ExactDict∧o.data=.dict es ep∧es.toList=xs.map (entryOfKey (tupleKind (bM P w)))∧(xs.map (·.1)).Nodup
 | .set S n=>h.SetOf (intKind P w) a S n
 | .ins C dx fs=>H dx=some (.own a)∧fs.length≤1000∧dx≠a∧h.get? a=some (PySem.W.instObj C dx) ∧
   ∃ mA,h.Ns1 dx mA∧(∀ f,RelO (fs.lookup f) (mA f))∧PySem.Within mA (fs.map (·.1))
 | .own _=>∃ o,h.get? a=some o
 | .xd fs=>∃ mA,h.Ns1 a mA∧∀ f,RelO (fs.lookup f) (mA f)
 | .rng lo hi=>∃ t u v,h.get? a=some { cls:=.type "range",data:=.fields #[.int lo t,.int hi u,.int 1 v] }
 | .frz o u=>h.get? a=some o∧ObjOk H h a u
 | .tbl ps=>h.get? a=some { cls:=.none,data:=.fields ps }
 | .met f x=>h.get? a=some (PySem.W.methodObj (.ref f) (.ref x))
 | .ext φ=>φ h∧(∃ o,h.get? a=some o)∧∀ h1 h2:Heap,φ h1→(∀ o,h1.get? a=some o→h2.get? a=some o)→φ h2
noncomputable def HOk (H:Hp) (h:Heap):Prop:=∀ a o,H a=some o→ObjOk P w H h a o
end

section
variable {P:Program} {w:World} {H H':Hp} {h h':Heap} {a:Addr} {o:HO}
theorem ObjOk.lt (x:ObjOk P w H h a o):a < h.objs.size:=by
 cases o with
 | lst xs=>obtain ⟨_,_,_,_,e⟩:=x; exact Heap.lt_size e
 | tup xs=>obtain ⟨_,_,_,p⟩:=x; exact p.lt
 | dK kvs=>obtain ⟨_,_,_,_,o,_,_,e,_⟩:=x; exact Heap.lt_size e
 | dT kvs=>obtain ⟨_,_,_,_,o,_,_,e,_⟩:=x; exact Heap.lt_size e
 | set S n=>obtain ⟨o,_,_,_,e,_⟩:=x; exact Heap.lt_size e
 | ins C dx fs=>obtain ⟨_,_,_,e,_⟩:=x; exact Heap.lt_size e
 | own y=>obtain ⟨_,e⟩:=x; exact Heap.lt_size e
 | xd fs=>obtain ⟨_,⟨_,_,_,e,_⟩,_⟩:=x; exact Heap.lt_size e
 | rng lo hi=>obtain ⟨_,_,_,e⟩:=x; exact Heap.lt_size e
 | frz ob u=>obtain ⟨e,_⟩:=x; exact Heap.lt_size e
 | tbl ps=>exact Heap.lt_size (show h.get? a=some _ from x)
 | met f y=>exact Heap.lt_size (show h.get? a=some _ from x)
 | ext φ=>obtain ⟨_,⟨_,e⟩,_⟩:=x; exact Heap.lt_size e
theorem Paired.mapP {α β:Type} {F G:α→β→Prop}:∀ {l₁:List α} {l₂:List β},Paired F l₁ l₂→(∀ a b,F a b→G a b)→Paired G l₁ l₂
 | _,_,.nil,_=>.nil
 | _,_,.cons r t,f=>.cons (f _ _ r) (Paired.mapP t f)
theorem ObjOk.stay (x:ObjOk P w H h a o) (k:∀ b u,(b=a∨H b=some (.own a))→h.get? b=some u→h'.get? b=some u)
  (ho:∀ b,H b=some (.own a)→H' b=some (.own a)) (ht:∀ b xs,H b=some (.tup xs)→H' b=some (.tup xs)):ObjOk P w H' h' a o:=by
 induction o with
 | lst xs=>obtain ⟨z,its,n,r,e⟩:=x; exact ⟨z,its,n,r,k _ _ (.inl rfl) e⟩
 | tup xs=>obtain ⟨z,its,r,ob,e,c⟩:=x; exact ⟨z,its,r,ob,k _ _ (.inl rfl) e,c⟩
 | dK kvs=>obtain ⟨z,y,vs,r,ob,es,ep,e,c⟩:=x; exact ⟨z,y,vs,r,ob,es,ep,k _ _ (.inl rfl) e,c⟩
 | dT kvs =>
  obtain ⟨z,y,xs,r,ob,es,ep,e,c⟩:=x
  exact ⟨z,y,xs,Paired.mapP r fun p q z=>⟨z.1,ht _ _ z.2.1,z.2.2⟩,ob,es,ep,k _ _ (.inl rfl) e,c⟩
 | set S n=>obtain ⟨ob,es,ep,t,e,c⟩:=x; exact ⟨ob,es,ep,t,k _ _ (.inl rfl) e,c⟩
 | ins C dx fs =>
  obtain ⟨d,z,ne,e,mA,⟨od,es,ep,e2,c⟩,r⟩:=x
  exact ⟨ho _ d,z,ne,k _ _ (.inl rfl) e,mA,⟨od,es,ep,k _ _ (.inr d) e2,c⟩,r⟩
 | own y=>obtain ⟨ob,e⟩:=x; exact ⟨ob,k _ _ (.inl rfl) e⟩
 | xd fs=>obtain ⟨mA,⟨od,es,ep,e,c⟩,r⟩:=x; exact ⟨mA,⟨od,es,ep,k _ _ (.inl rfl) e,c⟩,r⟩
 | rng lo hi=>obtain ⟨t,u,v,e⟩:=x; exact ⟨t,u,v,k _ _ (.inl rfl) e⟩
 | frz ob u ih=>obtain ⟨e,q⟩:=x; exact ⟨k _ _ (.inl rfl) e,ih q⟩
 | tbl ps =>
  have e:h.get? a=some { cls:=.none,data:=.fields ps }:=x
  show h'.get? a=some { cls:=.none,data:=.fields ps }
  exact k a _ (.inl rfl) e
 | met f y =>
  have e:h.get? a=some (PySem.W.methodObj (.ref f) (.ref y)):=x
  show h'.get? a=some (PySem.W.methodObj (.ref f) (.ref y))
  exact k a _ (.inl rfl) e
 | ext φ=>obtain ⟨p,⟨o,e⟩,st⟩:=x; exact ⟨st _ _ p fun o q=>k _ _ (.inl rfl) q,⟨o,k _ _ (.inl rfl) e⟩,st⟩
theorem HOk.lt (x:HOk P w H h) (e:H a=some o):a < h.objs.size:=(x a o e).lt
theorem HOk.fresh (x:HOk P w H h) (e:h.objs.size≤a):H a=none:=by
 cases q:H a with
 | none=>rfl
 | some u=>exact absurd (Nat.lt_of_lt_of_le (x.lt q) e) (Nat.lt_irrefl _)
theorem HOk.kept (x:HOk P w H h) (k:∀ b u,h.get? b=some u→h'.get? b=some u):HOk P w H h':=fun a o e =>
 (x a o e).stay (fun b u _ q=>k b u q) (fun _ q=>q) fun _ _ q=>q
theorem HOk.laid (x:HOk P w H h) (k:∀ b u,h.get? b=some u→h'.get? b=some u) (hp:h.objs.size≤a) (new:ObjOk P w (upd H a o) h' a o):HOk P w (upd H a o) h':=fun b u e=>by
 have hn:=x.fresh hp
 by_cases hb:b=a
 ·subst hb; rw [ak] at e; cases e; exact new
 ·rw [az hb] at e
  exact (x b u e).stay (fun c v _ q=>k c v q) (fun c q=>by rw [az (aG q hn)]; exact q) fun c xs q=>by rw [az (aG q hn)]; exact q
end

noncomputable def Rd (H:Hp) (a:Addr) (u:HO):Prop:=H a=some u∨∃ o,H a=some (.frz o u)
theorem Rd.ok {P:Program} {w:World} {H:Hp} {h:Heap} {a:Addr} {u:HO} (r:Rd H a u) (x:HOk P w H h):ObjOk P w H h a u:=by
 rcases r with r | ⟨o,r⟩
 ·exact x a u r
 ·obtain ⟨_,q⟩:=x a _ r
  exact q
noncomputable def Mut:Option HO→Prop
 | some (.lst _)=>True
 | some (.dK _)=>True
 | some (.dT _)=>True
 | some (.set _ _)=>True
 | some (.ins _ _ _)=>True
 | some (.ext _)=>True
 | _=>False
section
variable {P:Program} {w:World} {H:Hp} {h h':Heap} {x e:Addr} {o':HO}
theorem HOk.write (ok:HOk P w H h) (mu:Mut (H x)) (he:e=x∨H e=some (.own x)) (k:∀ b u,b≠e→h.get? b=some u→h'.get? b=some u) (heo:∃ u,h'.get? e=some u)
  (new:ObjOk P w (upd H x o') h' x o'):HOk P w (upd H x o') h':=fun b u q=>by
 have nown:∀ c y,H c=some (.own y)→c≠x:=fun c y r z=>by subst z; rw [r] at mu; exact mu
 have ntup:∀ c xs,H c=some (.tup xs)→c≠x:=fun c xs r z=>by subst z; rw [r] at mu; exact mu
 by_cases hb:b=x
 ·subst hb; rw [ak] at q; cases q; exact new
 ·rw [az hb] at q
  by_cases hbe:b=e
  ·have q':H b=some (.own x):=by
    rcases he with z | z
    ·exact absurd (hbe.trans z) hb
    ·rw [hbe]; exact z
   rw [q] at q'; cases q'
   obtain ⟨v,hv⟩:=heo
   exact ⟨v,by rw [hbe]; exact hv⟩
  ·refine (ok b u q).stay (fun c v hc r=>k c v ?_ r) (fun c r=>by rw [az (nown c b r)]; exact r) fun c xs r=>by rw [az (ntup c xs r)]; exact r
   rcases hc with rfl | hc
   ·exact hbe
   ·rintro rfl
    rcases he with z | z
    ·exact nown c b hc z
    ·rw [hc] at z; cases z; exact hb rfl
end

structure Un (fs ex:List Addr) (H H':Hp) (h h':Heap):Prop where
 keep:∀ b o,h.get? b=some o→H b=none→b ∉ fs→b ∉ ex→h'.get? b=some o
 slot:∀ b o,h.get? b=some o→H b=none→b∈fs→b ∉ ex→∃ sl,h'.get? b=some { o with slots:=sl }
 free:∀ b o,h.get? b=some o→H b=none→b ∉ ex→H' b=none
 there:∀ b o,h.get? b=some o→b ∉ ex→∃ o',h'.get? b=some o'
 tups:∀ b xs,H b=some (.tup xs)→H' b=some (.tup xs)
 frzs:∀ b o u,H b=some (.frz o u)→H' b=some (.frz o u)
 tbls:∀ b ps,H b=some (.tbl ps)→∃ more,H' b=some (.tbl (ps++more))
section
variable {fs fs' ex ex':List Addr} {H H1 H2:Hp} {h h1 h2 h':Heap} {a x e:Addr} {o:HO}
theorem Un.any (u:Un fs ex H H1 h h1) {b:Addr} {ob:Obj} (q:h.get? b=some ob) (n:H b=none) (hx:b ∉ ex):∃ sl,h1.get? b=some { ob with slots:=sl }:=by
 by_cases hb:b∈fs
 ·exact u.slot b ob q n hb hx
 ·exact ⟨ob.slots,u.keep b ob q n hb hx⟩
theorem Un.kept (k:∀ b u,h.get? b=some u→h'.get? b=some u):Un fs ex H H h h' :=
 ⟨fun b ob q _ _ _=>k b ob q,fun b ob q _ _ _=>⟨ob.slots,k b ob q⟩,fun _ _ _ n _=>n,fun b ob q _=>⟨ob,k b ob q⟩,fun _ _ q=>q,fun _ _ _ q=>q,fun _ ps q=>⟨#[],by rw [q]; simp⟩⟩
theorem Un.refl:Un fs ex H H h h:=Un.kept fun _ _ q=>q
theorem Un.laid (k:∀ b u,h.get? b=some u→h'.get? b=some u) (hp:h.objs.size≤a) (hn:H a=none):Un fs ex H (upd H a o) h h' where
 keep:=fun b u q _ _ _=>k b u q
 slot:=fun b u q _ _ _=>⟨u.slots,k b u q⟩
 free:=fun b u q n _=>by rw [az (Nat.ne_of_lt (Nat.lt_of_lt_of_le (Heap.lt_size q) hp))]; exact n
 there:=fun b u q _=>⟨u,k b u q⟩
 tups:=fun b xs q=>by rw [az (aG q hn)]; exact q
 frzs:=fun b u xs q=>by rw [az (aG q hn)]; exact q
 tbls:=fun b ps q=>⟨#[],by rw [az (aG q hn),q]; simp⟩
theorem Un.write (mu:Mut (H x)) (he:e=x∨H e=some (.own x)) (k:∀ b u,b≠e→h.get? b=some u→h'.get? b=some u) (heo:∃ u,h'.get? e=some u):Un fs ex H (upd H x o) h h':=by
 have hx:∀ b,H b=none→b≠x:=fun b n z=>by subst z; rw [n] at mu; exact mu
 have hb:∀ b,H b=none→b≠e:=fun b n z=>by
  subst z
  rcases he with r | r
  ·exact hx b n r
  ·rw [n] at r; cases r
 have hm:∀ b u,H b=some u→¬ Mut (some u)→b≠x:=fun b u q nm z=>by subst z; rw [q] at mu; exact nm mu
 refine ⟨fun b u q n _ _=>k b u (hb b n) q,fun b u q n _ _=>⟨u.slots,k b u (hb b n) q⟩,fun b u q n _=>by rw [az (hx b n)]; exact n,fun b u q _=>?_,
  fun b xs q=>by rw [az (hm b _ q fun z=>z)]; exact q,fun b u xs q=>by rw [az (hm b _ q fun z=>z)]; exact q,fun b ps q=>⟨#[],by rw [az (hm b _ q fun z=>z),q]; simp⟩⟩
 by_cases hbe:b=e
 ·subst hbe; exact heo
 ·exact ⟨u,k b u hbe q⟩
end

noncomputable def trk (h:Heap) (H:Hp):List Addr:=(List.range h.objs.size).filter fun a=>(H a).isSome
noncomputable def lz (h:Heap) (H:Hp):Heap:=PySem.W.hideAll h (trk h H)
theorem vK (h:Heap) (H:Hp):(lz h H).objs.size=h.objs.size:=PySem.W.hideAll_size _ _
theorem wO {h:Heap} {H:Hp} {b:Addr} {o:Obj} (e:h.get? b=some o) (n:H b=none):(lz h H).get? b=some o :=
 PySem.W.hideAll_get _ e fun hm=>by
  have q:(H b).isSome=true:=(List.mem_filter.mp hm).2
  rw [n] at q; simp at q
theorem zK {h:Heap} {H:Hp} {b:Addr} {o:Obj} (e:(lz h H).get? b=some o):h.get? b=some o∧H b=none:=by
 have e':h.get? b=some o:=PySem.W.of_hideAll (trk h H) e
 refine ⟨e',?_⟩
 cases q:H b with
 | none=>rfl
 | some x =>
  have hm:b∈trk h H:=List.mem_filter.mpr ⟨List.mem_range.mpr (Heap.lt_size e'),by simp [q]⟩
  have z:(lz h H).get? b=none:=PySem.W.hideAll_none (trk h H) hm
  rw [z] at e; cases e

end L2

namespace L2
open PySem PySem.Spec PyProof.Rows

structure Mod (K:PySem.W.Frag) (mg:Str→Option Value) (base:Heap):Prop where
 kin:K.In base
 glob:base.Ns mainGlobals mg
 blt:∃ mb,base.Ns builtinsNs mb∧∀ x:Str,x≠"__name__" → mb x=bootBuiltins x
 nolimit:base.NoLimit

structure Cx where
 prog:Program
 w:World
 K:PySem.W.Frag
 mg:Str→Option Value
 base:Heap
 A:Around
 N:List Str
 s₀:Shared
 H₀:Hp
 env:Env
 outer:List Env
 stack:List Env
 ex:List Addr
 fn:Str→Bool
 calm:Bool
 pn:List (Addr×Obj)
 xe:Value→Shared→Prop
noncomputable def frs (l:List Env):List Addr:=l.filterMap (·.frame)
noncomputable abbrev Cx.fs (X:Cx):List Addr:=frs X.outer

noncomputable def Vis (sc:Scope) (x:Str):Prop:=sc.names.lookup x=some .local∨sc.names.lookup x=some .cell∨sc.names.lookup x=some .free
noncomputable def Loc (sc:Scope) (x:Str):Prop:=sc.names.lookup x=some .local∨sc.names.lookup x=some .cell
noncomputable def Look (env:Env) (h:Heap) (m:Str→Option Value) (x:Str) (u:Value):Prop :=
 (env.kindOf x=some .local∧m x=some u)∨((env.kindOf x=some .cell∨env.kindOf x=some .free)∧∃ c,env.cells.lookup x=some c∧h.IsCell c (some u))

structure Cx.Ok (X:Cx):Prop where
 mod:Mod X.K X.mg X.base
 kind:X.env.scope.kind=.function
 glob:X.env.globals=mainGlobals
 blt:X.env.builtins=builtinsNs
 above:X.s₀.heap.objs.size≤X.env.locals
 inj:∀ x y c,X.env.cells.lookup x=some c→X.env.cells.lookup y=some c→x=y
 has:∀ x,(X.env.kindOf x=some .cell∨X.env.kindOf x=some .free)→∃ c,X.env.cells.lookup x=some c
 cab:∀ x c,X.fn x=true→X.env.cells.lookup x=some c→X.s₀.heap.objs.size≤c
 hd:X.calm=true→X.A.handled=none
 frames:X.A.frames=some X.stack
 stk:X.stack=X.outer∨(X.stack=X.env :: X.outer∧X.env.frame=some X.env.locals)
 exf:∀ b∈X.ex,b≠X.env.locals∧∀ x c,X.env.cells.lookup x=some c→c≠b
 bs:∀ b o,X.base.get? b=some o→X.s₀.heap.get? b=some o∧X.H₀ b=none
 bsz:X.base.objs.size≤X.s₀.heap.objs.size
 noex:∀ b o,X.base.get? b=some o→b ∉ X.ex
 exfs:∀ b∈X.ex,b ∉ X.fs
 funs:X.s₀.heap.FunFrames X.base X.outer
 frf:∀ b∈X.fs,X.H₀ b=none

structure Inv (X:Cx) (pins:List (Addr×Obj)) (σ:List (Option V)) (H:Hp) (s:Shared):Prop where
 ok:X.Ok
 os:s.os=X.s₀.os
 bare:AllBare s.gens
 base:Un X.fs X.ex X.H₀ H X.s₀.heap s.heap
 loc:∃ m,s.heap.Ns X.env.locals m∧∀ (i:Nat) (x:Str) (v:V),X.N[i]?=some x→σ[i]?=some (some v)→Vis X.env.scope x→∃ u,RelV v u∧Look X.env s.heap m x u
 cell:∀ x c,X.env.cells.lookup x=some c→∃ v,s.heap.IsCell c v
 free:H X.env.locals=none
 freeC:∀ x c,X.env.cells.lookup x=some c→H c=none
 pin:∀ p∈X.pn++pins,s.heap.get? p.1=some p.2∧H p.1=none∧p.1≠X.env.locals∧p.1 ∉ X.fs∧∀ v,p.2.data≠.cell v
 hok:HOk X.prog X.w H s.heap
 len:σ.length=X.N.length

section
variable {X:Cx} {pins:List (Addr×Obj)} {σ:List (Option V)} {H H':Hp} {s:Shared} {h':Heap}

theorem Cx.Ok.nofr (ok:X.Ok) {b:Addr} {o:Obj} (e:X.base.get? b=some o):b ∉ X.fs:=fun hb=>by
 have:=(ok.funs.mem hb).1
 rw [e] at this; cases this
theorem Inv.bs (I:Inv X pins σ H s):∀ b o,X.base.get? b=some o→s.heap.get? b=some o∧H b=none:=fun b o e =>
 ⟨I.base.keep b o (I.ok.bs b o e).1 (I.ok.bs b o e).2 (I.ok.nofr e) (I.ok.noex b o e),I.base.free b o (I.ok.bs b o e).1 (I.ok.bs b o e).2 (I.ok.noex b o e)⟩
theorem Inv.bk (I:Inv X pins σ H s):∀ b o,X.base.get? b=some o→s.heap.get? b=some o:=fun b o e=>(I.bs b o e).1
theorem Inv.mod (I:Inv X pins σ H s):Mod X.K X.mg X.base:=I.ok.mod
theorem Inv.kIn (I:Inv X pins σ H s):X.K.In s.heap:=I.ok.mod.kin.keeps I.bk
theorem Inv.lt (I:Inv X pins σ H s):X.env.locals < s.heap.objs.size:=let ⟨_,hn,_⟩:=I.loc; hn.lt
theorem Inv.sz (I:Inv X pins σ H s):X.s₀.heap.objs.size≤s.heap.objs.size:=Nat.le_trans I.ok.above (Nat.le_of_lt I.lt)
theorem Inv.nofs (I:Inv X pins σ H s) {a:Addr} (h:s.heap.objs.size≤a):a ∉ X.fs:=fun hb=>by
 obtain ⟨_,o,ho,_⟩:=I.ok.funs.mem hb
 exact absurd (Nat.lt_of_lt_of_le (Heap.lt_size ho) (Nat.le_trans I.sz h)) (Nat.lt_irrefl _)
theorem Inv.cne (I:Inv X pins σ H s):∀ x c,X.env.cells.lookup x=some c→c≠X.env.locals:=fun x c e z=>by
 obtain ⟨v,o,ho,hd⟩:=I.cell x c e
 obtain ⟨m,⟨o',es,ep,ho',hd',_⟩,_⟩:=I.loc
 rw [z,ho'] at ho; cases ho; rw [hd'] at hd; cases hd
theorem Inv.funs (I:Inv X pins σ H s):s.heap.FunFrames X.base X.outer:=by
 have all:∀ (l:List Env),(∀ b∈frs l,b∈X.fs)→X.s₀.heap.FunFrames X.base l→s.heap.FunFrames X.base l:=by
  intro l
  induction l with
  | nil=>intro _ _; trivial
  | cons env r ih =>
   intro hs hl
   obtain ⟨hk,⟨L,o,hf,hn,ho,hd⟩,hr⟩:=hl
   have hL:L∈X.fs:=hs L (by unfold frs; rw [List.filterMap_cons,hf]; exact List.mem_cons_self)
   obtain ⟨sl,e⟩:=I.base.slot L o ho (I.ok.frf L hL) hL fun z=>I.ok.exfs L z hL
   exact ⟨hk,⟨L,_,hf,hn,e,hd⟩,ih (fun b hb=>hs b (by unfold frs; rw [List.filterMap_cons,hf]; exact List.mem_cons_of_mem _ hb)) hr⟩
 exact all X.outer (fun _ hb=>hb) I.ok.funs

theorem Inv.stack (I:Inv X pins σ H s):s.heap.FunFrames X.base X.stack:=by
 rcases I.ok.stk with e | ⟨e,hf⟩
 ·rw [e]; exact I.funs
 ·rw [e]
  obtain ⟨m,hn,_⟩:=I.loc
  refine .cons (by rw [I.ok.kind]; decide) hf hn ?_ I.funs
  exact Heap.get?_none_of_le (Nat.le_trans I.ok.bsz I.ok.above)
theorem Inv.stkSub (I:Inv X pins σ H s):∀ b∈frs X.stack,b∈X.env.locals :: X.fs:=fun b hb=>by
 rcases I.ok.stk with e | ⟨e,hf⟩
 ·rw [e] at hb; exact List.mem_cons_of_mem _ hb
 ·rw [e] at hb
  unfold frs at hb
  rw [List.filterMap_cons,hf] at hb
  exact hb
theorem Inv.stkFree (I:Inv X pins σ H s):∀ b∈frs X.stack,H b=none:=fun b hb=>by
 rcases List.mem_cons.mp (I.stkSub b hb) with e | hb
 ·rw [e]; exact I.free
 ·obtain ⟨_,o,ho,_⟩:=I.ok.funs.mem hb
  exact I.base.free b o ho (I.ok.frf b hb) fun z=>I.ok.exfs b z hb

theorem Inv.step {g':Array GenState} {t':Nat} {d':Drawn} {ch:List Addr} (I:Inv X pins σ H s)
  (hch:∀ b∈ch,(b∈X.ex∨X.s₀.heap.objs.size≤b)∧b≠X.env.locals∧(∀ x c,X.env.cells.lookup x=some c→c≠b)∧∀ p∈X.pn++pins,p.1≠b)
  (keep:∀ b o,b≠X.env.locals→b ∉ X.fs→b ∉ ch→s.heap.get? b=some o→H b=none→h'.get? b=some o)
  (slot:∀ b o,b≠X.env.locals→b∈X.fs→b ∉ ch→s.heap.get? b=some o→H b=none→∃ sl,h'.get? b=some { o with slots:=sl }) (free:∀ b o,b ∉ ch→s.heap.get? b=some o→H b=none→H' b=none)
  (there:∀ b o,b ∉ ch→s.heap.get? b=some o→∃ o',h'.get? b=some o')
  (tups:∀ b xs,H b=some (.tup xs)→H' b=some (.tup xs)) (frzs:∀ b o u,H b=some (.frz o u)→H' b=some (.frz o u)) (tbls:∀ b ps,H b=some (.tbl ps)→∃ more,H' b=some (.tbl (ps++more)))
  (ns:∀ m,s.heap.Ns X.env.locals m→h'.Ns X.env.locals m) (hok:HOk X.prog X.w H' h') (hg:AllBare g') :
  Inv X pins σ H' { s with heap:=h',gens:=g',drawn:=d',toks:=t' }:=by
 have neL:∀ b o,X.s₀.heap.get? b=some o→b≠X.env.locals:=fun b o e=>Nat.ne_of_lt (Nat.lt_of_lt_of_le (Heap.lt_size e) I.ok.above)
 have neC:∀ b o,X.s₀.heap.get? b=some o→b ∉ X.ex→b ∉ ch:=fun b o e hx hb=>by
  rcases (hch b hb).1 with z | z
  ·exact hx z
  ·exact absurd (Nat.lt_of_lt_of_le (Heap.lt_size e) z) (Nat.lt_irrefl _)
 have cellK:∀ x c,X.env.cells.lookup x=some c→∀ v,s.heap.IsCell c v→h'.IsCell c v:=fun x c e v ⟨o,ho,hd⟩=>by
  have nch:c ∉ ch:=fun z=>(hch c z).2.2.1 x c e rfl
  by_cases hc:c∈X.fs
  ·obtain ⟨sl,q⟩:=slot c o (I.cne x c e) hc nch ho (I.freeC x c e)
   exact ⟨_,q,hd⟩
  ·exact ⟨o,keep c o (I.cne x c e) hc nch ho (I.freeC x c e),hd⟩
 refine ⟨I.ok,I.os,hg,⟨fun b o e n hb hx=>?_,fun b o e n hb hx=>?_,fun b o e n hx=>?_,fun b o e hx=>?_,fun b xs e=>tups b xs (I.base.tups b xs e),fun b o xs e=>frzs b o xs (I.base.frzs b o xs e),fun b ps e=>?_⟩,?_,fun x c e=>?_,?_,fun x c e=>?_,fun p hp=>?_,hok,I.len⟩
 ·exact keep b o (neL b o e) hb (neC b o e hx) (I.base.keep b o e n hb hx) (I.base.free b o e n hx)
 ·obtain ⟨sl,e1⟩:=I.base.slot b o e n hb hx
  obtain ⟨sl',e2⟩:=slot b _ (neL b o e) hb (neC b o e hx) e1 (I.base.free b o e n hx)
  exact ⟨sl',e2⟩
 ·obtain ⟨o',e1⟩:=I.base.there b o e hx
  exact free b o' (neC b o e hx) e1 (I.base.free b o e n hx)
 ·obtain ⟨o',e1⟩:=I.base.there b o e hx
  exact there b o' (neC b o e hx) e1
 ·obtain ⟨m1,e1⟩:=I.base.tbls b ps e
  obtain ⟨m2,e2⟩:=tbls b _ e1
  exact ⟨m1++m2,by rw [e2,Array.append_assoc]⟩
 ·obtain ⟨m,hn,hl⟩:=I.loc
  refine ⟨m,ns m hn,fun i x v e1 e2 e3=>?_⟩
  obtain ⟨u,r,l⟩:=hl i x v e1 e2 e3
  refine ⟨u,r,?_⟩
  rcases l with l | ⟨k,c,e,z⟩
  ·exact .inl l
  ·exact .inr ⟨k,c,e,cellK x c e _ z⟩
 ·obtain ⟨v,z⟩:=I.cell x c e
  exact ⟨v,cellK x c e v z⟩
 ·obtain ⟨m,⟨o,_,_,ho,_⟩,_⟩:=I.loc
  exact free _ o (fun z=>(hch _ z).2.1 rfl) ho I.free
 ·obtain ⟨v,o,ho,hd⟩:=I.cell x c e
  exact free c o (fun z=>(hch c z).2.2.1 x c e rfl) ho (I.freeC x c e)
 ·obtain ⟨e,n,ne,nf,d⟩:=I.pin p hp
  have nch:p.1 ∉ ch:=fun z=>(hch p.1 z).2.2.2 p hp rfl
  exact ⟨keep p.1 p.2 ne nf nch e n,free p.1 p.2 nch e n,ne,nf,d⟩
theorem Inv.un {t':Nat} (I:Inv X pins σ H s) (u:Un X.fs [] H H' s.heap h') (hok:HOk X.prog X.w H' h'):Inv X pins σ H' { s with heap:=h',toks:=t' }:=by
 obtain ⟨m,⟨o,es,ep,ho,r⟩,_⟩:=id I.loc
 obtain ⟨sl,hL⟩:=u.any ho I.free (by simp)
 exact I.step (g':=s.gens) (d':=s.drawn) (ch:=[]) (fun _ z=>nomatch z) (fun b o _ hb _ e n=>u.keep b o e n hb (by simp)) (fun b o _ hb _ e n=>u.slot b o e n hb (by simp)) (fun b o _ e n=>u.free b o e n (by simp)) (fun b o _ e=>u.there b o e (by simp)) u.tups u.frzs u.tbls (fun m' hm=>by
  obtain ⟨o',es',ep',ho',r'⟩:=hm
  rw [ho] at ho'; cases ho'
  exact ⟨_,es',ep',hL,r'⟩) hok I.bare
theorem Inv.call {g':Array GenState} {t':Nat} {d':Drawn} {ch:List Addr} (I:Inv X pins σ H s) (u:Un (frs X.stack) ch H H' s.heap h') (hok:HOk X.prog X.w H' h') (hg:AllBare g')
  (hch:∀ b∈ch,(b∈X.ex∨X.s₀.heap.objs.size≤b)∧b≠X.env.locals∧(∀ x c,X.env.cells.lookup x=some c→c≠b)∧∀ p∈X.pn++pins,p.1≠b) :
  Inv X pins σ H' { s with heap:=h',gens:=g',drawn:=d',toks:=t' }:=by
 obtain ⟨m,⟨o,es,ep,ho,r⟩,_⟩:=id I.loc
 obtain ⟨sl,hL⟩:=u.any ho I.free fun z=>(hch _ z).2.1 rfl
 exact I.step (ch:=ch) hch (fun b o hL hb hc e n=>u.keep b o e n (fun z=>(List.mem_cons.mp (I.stkSub b z)).elim hL hb) hc) (fun b o _ _ hc e n=>u.any e n hc) (fun b o hc e n=>u.free b o e n hc) (fun b o hc e=>u.there b o e hc) u.tups u.frzs u.tbls (fun m' hm=>by
  obtain ⟨o',es',ep',ho',r'⟩:=hm
  rw [ho] at ho'; cases ho'
  exact ⟨_,es',ep',hL,r'⟩) hok hg
theorem Inv.turned {t':Nat} {it:Addr} (I:Inv X pins σ H s) (k:∀ b o,b≠it→s.heap.get? b=some o→h'.get? b=some o) (hn:H it=none) (hL:it≠X.env.locals)
  (h1:it∈X.ex∨X.s₀.heap.objs.size≤it) (h2:∀ x c,X.env.cells.lookup x=some c→c≠it) (h3:∀ p∈X.pn++pins,p.1≠it):Inv X pins σ H { s with heap:=h',toks:=t' }:=by
 have nit:∀ b u,H b=some u→b≠it:=fun b u e z=>by rw [z,hn] at e; cases e
 refine I.step (g':=s.gens) (d':=s.drawn) (ch:=[it]) (fun b hb=>?_) (fun b o _ _ hc e _=>k b o (fun z=>hc (by simp [z])) e) (fun b o _ _ hc e _=>⟨o.slots,k b o (fun z=>hc (by simp [z])) e⟩) (fun _ _ _ _ n=>n)
  (fun b o hc e=>⟨o,k b o (fun z=>hc (by simp [z])) e⟩) (fun _ _ e=>e) (fun _ _ _ e=>e) (fun b ps e=>⟨#[],by rw [e]; simp⟩) (fun m hm=>?_) (fun b u e=>?_) I.bare
 ·have e:b=it:=by simpa using hb
  subst e
  exact ⟨h1,hL,h2,h3⟩
 ·obtain ⟨o,es,ep,ho,r⟩:=hm
  exact ⟨o,es,ep,k _ o (Ne.symm hL) ho,r⟩
 ·refine (I.hok b u e).stay (fun c v hc q=>k c v ?_ q) (fun _ q=>q) fun _ _ q=>q
  rcases hc with z | z
  ·rw [z]; exact nit b u e
  ·exact nit c _ z
theorem Inv.tok (I:Inv X pins σ H s) (t:Nat):Inv X pins σ H { s with toks:=t }:=I.un (h':=s.heap) (t':=t) Un.refl I.hok
theorem Inv.kept {t':Nat} (I:Inv X pins σ H s) (k:∀ b u,s.heap.get? b=some u→h'.get? b=some u):Inv X pins σ H { s with heap:=h',toks:=t' }:=I.un (Un.kept k) (I.hok.kept k)
theorem Inv.laid {a:Addr} {o:HO} {t':Nat} (I:Inv X pins σ H s) (k:∀ b u,s.heap.get? b=some u→h'.get? b=some u) (hp:s.heap.objs.size≤a) (new:ObjOk X.prog X.w (upd H a o) h' a o) :
  Inv X pins σ (upd H a o) { s with heap:=h',toks:=t' }:=I.un (Un.laid k hp (I.hok.fresh hp)) (I.hok.laid k hp new)
theorem Inv.write {x e:Addr} {o:HO} {t':Nat} (I:Inv X pins σ H s) (mu:Mut (H x)) (he:e=x∨H e=some (.own x)) (k:∀ b u,b≠e→s.heap.get? b=some u→h'.get? b=some u) (heo:∃ u,h'.get? e=some u)
  (new:ObjOk X.prog X.w (upd H x o) h' x o):Inv X pins σ (upd H x o) { s with heap:=h',toks:=t' }:=I.un (Un.write mu he k heo) (I.hok.write mu he k heo new)
theorem Inv.pins_of {pins':List (Addr×Obj)} (I:Inv X pins σ H s) (h:∀ p∈pins',s.heap.get? p.1=some p.2∧H p.1=none∧p.1≠X.env.locals∧p.1 ∉ X.fs∧∀ v,p.2.data≠.cell v):Inv X pins' σ H s :=
 ⟨I.ok,I.os,I.bare,I.base,I.loc,I.cell,I.free,I.freeC,fun p hp=>(List.mem_append.mp hp).elim (fun z=>I.pin p (List.mem_append_left _ z)) (h p),I.hok,I.len⟩

theorem qG {N:List Str} (hN:N.Nodup) {i j:Nat} {x:Str} (a:N[i]?=some x) (b:N[j]?=some x):i=j:=by
 obtain ⟨h1,e1⟩:=List.getElem?_eq_some_iff.mp a
 obtain ⟨h2,e2⟩:=List.getElem?_eq_some_iff.mp b
 exact (List.getElem_inj hN).mp (e1.trans e2.symm)

theorem jt {M:Model} {A:Around} {E:Value→Shared→Prop} {i:Nat} {x:Str} {v:V} {u:Value} {Q:Unit→Shared→Prop} (I:Inv X pins σ H s) (hN:X.N.Nodup) (hi:X.N[i]?=some x) (hx:Loc X.env.scope x) (r:RelV v u)
  (h:∀ s',Inv X pins (σ.set i (some v)) H s'→(∃ a,Heap.SameBut a s.heap s'.heap∧(a=X.env.locals∨X.env.cells.lookup x=some a))→Q () s') (hf:X.fn x=true∨X.env.scope.names.lookup x=some .local:=by first | exact .inl rfl | exact .inr rfl | assumption):wpAny M A (storeName X.env x u) Q E s:=by
 obtain ⟨m,hn,hl⟩:=id I.loc
 have hcls:(X.env.scope.kind == .class || (X.env.scope.kind == .module && X.env.locals != X.env.globals))=false:=by rw [I.ok.kind]; rfl
 have hiσ:i < σ.length:=by rw [I.len]; exact (List.getElem?_eq_some_iff.mp hi).1
 have cne:=I.cne
 have tracked:∀ {a:Addr} {h':Heap},(∃ o,s.heap.get? a=some o∧H a=none)→Heap.SameBut a s.heap h'→HOk X.prog X.w H h':=fun {a h'} ha hs b ob e=>by
  obtain ⟨_,_,hfree⟩:=ha
  refine (I.hok b ob e).stay (fun c w' hc q=>(hs.2 c ?_).trans q) (fun _ q=>q) fun _ _ q=>q
  rintro rfl
  rcases hc with rfl | hc
  ·rw [hfree] at e; cases e
  ·rw [hfree] at hc; cases hc
 rcases hx with hk | hk
 ·refine wpAny_storeName_local hk hn (fun h' hn' hs=>?_) hcls
  obtain ⟨oL,_,_,hoL,_⟩:=id hn
  refine h _ ⟨I.ok,I.os,I.bare,⟨fun b o e n hb hx=>?_,fun b o e n hb hx=>?_,I.base.free,fun b o e hx=>?_,I.base.tups,I.base.frzs,I.base.tbls⟩,⟨_,hn',fun j y v' e1 e2 e3=>?_⟩,fun y c e=>?_,I.free,I.freeC,fun p hp=>?_,tracked ⟨oL,hoL,I.free⟩ hs,by simpa using I.len⟩ ⟨_,hs,.inl rfl⟩
  ·exact (hs.2 b (Nat.ne_of_lt (Nat.lt_of_lt_of_le (Heap.lt_size e) I.ok.above))).trans (I.base.keep b o e n hb hx)
  ·obtain ⟨sl,e1⟩:=I.base.slot b o e n hb hx
   exact ⟨sl,(hs.2 b (Nat.ne_of_lt (Nat.lt_of_lt_of_le (Heap.lt_size e) I.ok.above))).trans e1⟩
  ·obtain ⟨o',e1⟩:=I.base.there b o e hx
   exact ⟨o',(hs.2 b (Nat.ne_of_lt (Nat.lt_of_lt_of_le (Heap.lt_size e) I.ok.above))).trans e1⟩
  ·by_cases hj:j=i
   ·subst hj
    rw [hi] at e1; cases e1
    rw [List.getElem?_set_self hiσ] at e2
    cases e2
    exact ⟨u,r,.inl ⟨hk,by simp⟩⟩
   ·rw [List.getElem?_set_ne (Ne.symm hj)] at e2
    obtain ⟨u',r',q⟩:=hl j y v' e1 e2 e3
    refine ⟨u',r',?_⟩
    rcases q with ⟨k,e⟩ | ⟨k,c,e,z⟩
    ·refine .inl ⟨k,?_⟩
     have:y≠x:=fun e=>hj (qG hN e1 (e ▸ hi))
     simp [this,e]
    ·exact .inr ⟨k,c,e,z.sameBut hs (cne y c e)⟩
  ·obtain ⟨w',z⟩:=I.cell y c e
   exact ⟨w',z.sameBut hs (cne y c e)⟩
  ·obtain ⟨e,n,ne,nf,d⟩:=I.pin p hp
   exact ⟨(hs.2 p.1 ne).trans e,n,ne,nf,d⟩
 ·have hfn:X.fn x=true:=by
   rcases hf with z | z
   ·exact z
   ·rw [z] at hk; cases hk
  obtain ⟨c,hc⟩:=I.ok.has x (.inl hk)
  obtain ⟨w',z⟩:=I.cell x c hc
  refine wpAny_storeName_cell I.ok.kind hk hc z (fun h' hc' hs=>?_)
  obtain ⟨oc,hoc,hocd⟩:=id z
  refine h { s with heap:=h' } ⟨I.ok,I.os,I.bare,⟨fun b o e n hb hx=>?_,fun b o e n hb hx=>?_,I.base.free,fun b o e hx=>?_,I.base.tups,I.base.frzs,I.base.tbls⟩,⟨m,hn.sameBut hs (Ne.symm (cne x c hc)),fun j y v' e1 e2 e3=>?_⟩,fun y c' e=>?_,I.free,I.freeC,fun p hp=>?_,tracked ⟨oc,hoc,I.freeC x c hc⟩ hs,by simpa using I.len⟩ ⟨c,hs,.inr hc⟩
  ·exact (hs.2 b (Nat.ne_of_lt (Nat.lt_of_lt_of_le (Heap.lt_size e) (I.ok.cab x c hfn hc)))).trans (I.base.keep b o e n hb hx)
  ·obtain ⟨sl,e1⟩:=I.base.slot b o e n hb hx
   exact ⟨sl,(hs.2 b (Nat.ne_of_lt (Nat.lt_of_lt_of_le (Heap.lt_size e) (I.ok.cab x c hfn hc)))).trans e1⟩
  ·obtain ⟨o',e1⟩:=I.base.there b o e hx
   exact ⟨o',(hs.2 b (Nat.ne_of_lt (Nat.lt_of_lt_of_le (Heap.lt_size e) (I.ok.cab x c hfn hc)))).trans e1⟩
  ·by_cases hj:j=i
   ·subst hj
    rw [hi] at e1; cases e1
    rw [List.getElem?_set_self hiσ] at e2
    cases e2
    exact ⟨u,r,.inr ⟨.inl hk,c,hc,hc'⟩⟩
   ·rw [List.getElem?_set_ne (Ne.symm hj)] at e2
    obtain ⟨u',r',q⟩:=hl j y v' e1 e2 e3
    refine ⟨u',r',?_⟩
    rcases q with q | ⟨k,c',e,z'⟩
    ·exact .inl q
    ·refine .inr ⟨k,c',e,z'.sameBut hs ?_⟩
     rintro rfl
     exact hj (qG hN e1 (I.ok.inj _ _ _ e hc ▸ hi))
  ·by_cases hcc:c'=c
   ·subst hcc; exact ⟨_,hc'⟩
   ·obtain ⟨w2,z2⟩:=I.cell y c' e
    exact ⟨w2,z2.sameBut hs hcc⟩
  ·obtain ⟨e,n,ne,nf,d⟩:=I.pin p hp
   refine ⟨(hs.2 p.1 ?_).trans e,n,ne,nf,d⟩
   intro q
   rw [q,hoc] at e
   have q':oc=p.2:=Option.some.inj e
   exact d w' (by rw [← q']; exact hocd)
theorem fG {M:Model} {A:Around} {E:Value→Shared→Prop} {i:Nat} {x:Str} {v:V} {u:Value} {Q:Unit→Shared→Prop} (I:Inv X pins σ H s) (hN:X.N.Nodup) (hi:X.N[i]?=some x) (hx:Loc X.env.scope x) (r:RelV v u)
  (h:∀ s',Inv X pins (σ.set i (some v)) H s'→Q () s') (hf:X.fn x=true∨X.env.scope.names.lookup x=some .local:=by first | exact .inl rfl | exact .inr rfl | assumption):wpAny M A (storeName X.env x u) Q E s :=
 jt I hN hi hx r (fun s' I' _=>h s' I') hf
theorem Inv.call' {s':Shared} {ch:List Addr} (I:Inv X pins σ H s) (ho:s'.os=s.os) (u:Un (frs X.stack) ch H H' s.heap s'.heap) (hok:HOk X.prog X.w H' s'.heap) (hg:AllBare s'.gens)
  (hch:∀ b∈ch,(b∈X.ex∨X.s₀.heap.objs.size≤b)∧b≠X.env.locals∧(∀ x c,X.env.cells.lookup x=some c→c≠b)∧∀ p∈X.pn++pins,p.1≠b):Inv X pins σ H' s':=by
 obtain ⟨h',g',d',t',o'⟩:=s'
 have e:o'=s.os:=ho
 subst e
 exact I.call (g':=g') (t':=t') (d':=d') u hok hg hch
end

noncomputable abbrev XK:=Value→Option Addr→Hp→Prop
noncomputable abbrev St:=List (Option V)
noncomputable abbrev VK:=V→Hp→Prop
noncomputable abbrev TE:=St→Hp→VK→Prop
noncomputable abbrev TT:=St→Hp→(Bool→Hp→Prop)→Prop
noncomputable abbrev TA:=St→Hp→(List V→Hp→Prop)→Prop
structure Ends where
 nx:St→Hp→Prop
 rt:VK
 bk:St→Hp→Prop:=fun _ _=>False
 ct:St→Hp→Prop:=fun _ _=>False
noncomputable abbrev TS:=Ends→St→Hp→Prop

noncomputable def EP (X:Cx) (pins:List (Addr×Obj)) (σ:St) (Q:VK) (u:Value) (s':Shared):Prop:=∃ v H',Inv X pins σ H' s'∧RelV v u∧Q v H'
noncomputable def TP (X:Cx) (pins:List (Addr×Obj)) (σ:St) (Q:Bool→Hp→Prop) (b:Bool) (s':Shared):Prop:=∃ H',Inv X pins σ H' s'∧Q b H'
noncomputable def AP (X:Cx) (pins:List (Addr×Obj)) (σ:St) (Q:List V→Hp→Prop) (us:List Value) (s':Shared):Prop:=∃ vs H',Inv X pins σ H' s'∧Vals vs us∧Q vs H'
noncomputable def SP (X:Cx) (pins:List (Addr×Obj)) (D:Ends) (f:Flow) (s':Shared):Prop :=
 match f with
 | .next=>∃ σ' H',Inv X pins σ' H' s'∧D.nx σ' H'
 | .brk=>∃ σ' H',Inv X pins σ' H' s'∧D.bk σ' H'
 | .cont=>∃ σ' H',Inv X pins σ' H' s'∧D.ct σ' H'
 | .ret u=>∃ v σ' H',Inv X pins σ' H' s'∧RelV v u∧D.rt v H'

noncomputable def PE (X:Cx) (e:Expr) (t:TE):Prop :=
 ∀ (pins:List (Addr×Obj)) (s:Shared) (σ:St) (H:Hp) (Q:VK),Inv X pins σ H s→t σ H Q→wpAny (model X.prog X.w) X.A (eval e X.env) (EP X pins σ Q) X.xe s
noncomputable def PT (X:Cx) (e:Expr) (t:TT):Prop :=
 ∀ (pins:List (Addr×Obj)) (s:Shared) (σ:St) (H:Hp) (Q:Bool→Hp→Prop),Inv X pins σ H s→t σ H Q→wpAny (model X.prog X.w) X.A (isTrue e X.env (eval e X.env)) (TP X pins σ Q) X.xe s
noncomputable def PW (X:Cx) (e:Expr) (t:TT):Prop :=
 ∀ (whole:Sem Value) (pins:List (Addr×Obj)) (s:Shared) (σ:St) (H:Hp) (Q:Bool→Hp→Prop),Inv X pins σ H s→t σ H Q→wpAny (model X.prog X.w) X.A (isTrue e X.env whole) (TP X pins σ Q) X.xe s
theorem PW.pt {X:Cx} {e:Expr} {t:TT} (h:PW X e t):PT X e t:=h _
noncomputable def PA (X:Cx) (es:List Expr) (t:TA):Prop :=
 ∀ (pos:Pos) (pins:List (Addr×Obj)) (s:Shared) (σ:St) (H:Hp) (Q:List V→Hp→Prop),Inv X pins σ H s→t σ H Q→wpAny (model X.prog X.w) X.A (spliced (backTo pos (starEach es X.env))) (AP X pins σ Q) X.xe s
noncomputable def PS (X:Cx) (st:Stmt) (t:TS):Prop :=
 ∀ (pins:List (Addr×Obj)) (s:Shared) (σ:St) (H:Hp) (D:Ends),Inv X pins σ H s→t D σ H→wpAny (model X.prog X.w) X.A (exec st X.env) (SP X pins D) X.xe s
noncomputable def PSs (X:Cx) (st:List Stmt) (t:TS):Prop :=
 ∀ (pins:List (Addr×Obj)) (s:Shared) (σ:St) (H:Hp) (D:Ends),Inv X pins σ H s→t D σ H→wpAny (model X.prog X.w) X.A (execs st X.env) (SP X pins D) X.xe s
theorem thn {α:Type} {t:Sem α} {Q Q':α→Shared→Prop} {M:Model} {A:Around} {E:Value→Shared→Prop} {s:Shared} (h:wpAny M A t Q E s) (hQ:∀ a s,Q a s→Q' a s):wpAny M A t Q' E s:=wpAny_mono h hQ fun _ _ x=>x
end L2

namespace L2
open PySem PySem.Spec PyProof.Rows
section
variable {X:Cx}

theorem bin {a b:Expr} {ta tb:TE} (ha:PE X a ta) (hb:PE X b tb) {pins:List (Addr×Obj)} {s:Shared} {σ:St} {H:Hp} {R:V→V→Hp→Prop} (I:Inv X pins σ H s) (h:ta σ H fun x H1=>tb σ H1 fun y H2=>R x y H2)
  {α:Type} {Q:α→Shared→Prop} {f:Value→Value→Sem α}
  (hf:∀ v u s2 x y H2,Inv X pins σ H2 s2→RelV x v→RelV y u→R x y H2→wpAny (model X.prog X.w) X.A (f v u) Q X.xe s2) :
  wpAny (model X.prog X.w) X.A (eval a X.env) (fun v s₁=>wpAny (model X.prog X.w) X.A (eval b X.env) (fun u s₂=>wpAny (model X.prog X.w) X.A (f v u) Q X.xe s₂) X.xe s₁) X.xe s:=by
 refine thn (ha pins s σ H _ I h) fun v s1 ⟨x,H1,I1,r1,q1⟩=>?_
 refine thn (hb pins s1 σ H1 _ I1 q1) fun u s2 ⟨y,H2,I2,r2,q2⟩=>?_
 exact hf v u s2 x y H2 I2 r1 r2 q2

noncomputable def vL (i:Nat):TE:=fun σ H Q=>∃ v,σ[i]?=some (some v)∧Q v H
noncomputable def tC (v:V):TE:=fun _ H Q=>Q v H
theorem tG {i:Nat} {x:Str} {pos:Pos} (hN:X.N[i]?=some x) (hv:Vis X.env.scope x) (hd:(x == ("__debug__" : Str))=false:=by decide) (hcd:(x == ("__classdict__" : Str))=false:=by decide):PE X (.Name x pos) (vL i):=by
 intro pins s σ H Q I h
 obtain ⟨v,e,h⟩:=h
 obtain ⟨m,hn,hl⟩:=I.loc
 obtain ⟨u,r,l⟩:=hl i x v hN e hv
 have fin:EP X pins σ Q u s:=⟨v,H,I,r,h⟩
 rcases l with ⟨hk,hm⟩ | ⟨hk,c,hc,hcell⟩
 ·exact wpAny_Name (wpAny_loadName_local I.ok.kind hk hn hm fin) hd
 ·rcases hk with hk | hk
  ·exact wpAny_Name (wpAny_loadName_cell I.ok.kind hk hc hcell fin) hd
  ·exact wpAny_Name (wpAny_loadName_free I.ok.kind hk hc hcell fin hcd) hd
theorem ao {i j pos}:PE X (.Constant (.int i) j pos) (tC (.int i)):=fun _ _ _ H _ I h=>wpAny_Constant_int ⟨.int i,H,I.tok _,⟨_,rfl⟩,h⟩
theorem dw {b j pos}:PE X (.Constant (.bool b) j pos) (tC (.bl b)):=fun _ _ _ H _ I h=>Constant_bool ⟨.bl b,H,I,rfl,h⟩
theorem ju {j pos}:PE X (.Constant .none j pos) (tC .non):=fun _ _ _ H _ I h=>Constant_none ⟨.non,H,I,rfl,h⟩
theorem iQ {x j pos}:PE X (.Constant (.str x) j pos) (tC (.str x)):=fun _ _ _ H _ I h=>Calls.Constant_str ⟨.str x,H,I.tok _,⟨_,rfl⟩,h⟩

noncomputable def Gl (X:Cx) (x:Str):Prop:=X.env.kindOf x=some .globalImplicit
theorem iu {E:Value→Shared→Prop} {pins:List (Addr×Obj)} {s:Shared} {σ:St} {H:Hp} {x:Str} {u:Value} {pos:Pos} {Q:Value→Shared→Prop} (I:Inv X pins σ H s) (hg:Gl X x) (hm:X.mg x=some u) (h:Q u s)
  (hd:(x == ("__debug__" : Str))=false:=by decide):wpAny (model X.prog X.w) X.A (eval (.Name x pos) X.env) Q E s :=
 Calls.Name_function_global I.ok.kind hg (Calls.loadGlobal_global (by rw [I.ok.glob]; exact I.mod.glob.keeps I.bk) hm h) hd
theorem gQ {E:Value→Shared→Prop} {pins:List (Addr×Obj)} {s:Shared} {σ:St} {H:Hp} {x:Str} {u:Value} {pos:Pos} {Q:Value→Shared→Prop} (I:Inv X pins σ H s) (hg:Gl X x) (hm:X.mg x=none) (hv:bootBuiltins x=some u) (h:Q u s)
  (hn:x≠"__name__" := by decide) (hd:(x == ("__debug__" : Str))=false:=by decide):wpAny (model X.prog X.w) X.A (eval (.Name x pos) X.env) Q E s:=by
 obtain ⟨mb,h1,h2⟩:=I.mod.blt
 exact Calls.Name_function_global I.ok.kind hg (Calls.loadGlobal_builtin (by rw [I.ok.glob]; exact I.mod.glob.keeps I.bk) hm (by rw [I.ok.blt]; exact h1.keeps I.bk) ((h2 x hn).trans hv) h) hd
theorem cj {x:Str} {v:V} {u:Value} {pos:Pos} (hg:Gl X x) (hm:X.mg x=some u) (r:RelV v u) (hd:(x == ("__debug__" : Str))=false:=by decide):PE X (.Name x pos) (tC v) :=
 fun _ _ _ H _ I h=>iu I hg hm ⟨v,H,I,r,h⟩ hd
theorem cB {x:Str} {v:V} {u:Value} {pos:Pos} (hg:Gl X x) (hm:X.mg x=none) (hv:bootBuiltins x=some u) (r:RelV v u) (hn:x≠"__name__" := by decide) (hd:(x == ("__debug__" : Str))=false:=by decide):PE X (.Name x pos) (tC v) :=
 fun _ _ _ H _ I h=>gQ I hg hm hv ⟨v,H,I,r,h⟩ hn hd

variable {a b:Expr} {ta tb:TE} {pos:Pos}

noncomputable def PC (X:Cx) (op:CmpOp) (a b:Expr) (t:TE):Prop :=
 ∀ (pins:List (Addr×Obj)) (s:Shared) (σ:St) (H:Hp) (Q:VK),Inv X pins σ H s→t σ H Q →
  wpAny (model X.prog X.w) X.A (eval a X.env) (fun v s₁=>wpAny (model X.prog X.w) X.A (eval b X.env) (fun u s₂=>wpAny (model X.prog X.w) X.A (compareOp op v u) (EP X pins σ Q) X.xe s₂) X.xe s₁) X.xe s
noncomputable def tB (t:TE):TT:=fun σ H Q=>t σ H fun x H1=>∃ c,x=.bl c∧Q c H1
theorem Fw {op:CmpOp} {t:TE} (h:PC X op a b t) (h1:behindInMarks op b=false:=by first | exact nobehind _ (by decide) (by decide) | rfl):PT X (.Compare a [op] [b] pos) (tB t):=by
 intro pins s σ H Q I hw
 refine wpAny_isTrue_Compare1 (thn (h pins s σ H _ I hw) fun v s1 h1=>thn h1 fun u s2 h2=>thn h2 fun c s3 ⟨x,H1,I1,r1,q1⟩=>?_) h1
 obtain ⟨d,rfl,q⟩:=q1
 cases r1
 exact wpAny_truthy_bool ⟨H1,I1,q⟩
theorem bG {e:Expr} {t:TE} (h:PE X e t) (he:∀ whole,isTrue e X.env whole=(do let v ← whole; standAt e.pos; holding [v] (truthy v)):=by intro _; rfl):PT X e (tB t):=by
 intro pins s σ H Q I hw
 refine isTrue_plain (thn (h pins s σ H _ I hw) fun v s1 ⟨x,H1,I1,r1,q1⟩=>?_) (he _)
 obtain ⟨d,rfl,q⟩:=q1
 cases r1
 exact wpAny_truthy_bool ⟨H1,I1,q⟩

variable {tA tB':TT} {rest:List Expr}
noncomputable def Fx (t u:TT):TT:=fun σ H Q=>t σ H fun c H1=>if c=true then u σ H1 Q else Q false H1
noncomputable def tOr (t u:TT):TT:=fun σ H Q=>t σ H fun c H1=>if c=true then Q true H1 else u σ H1 Q
noncomputable def DP (t:TT):TT:=fun σ H Q=>t σ H fun c H1=>Q (!c) H1
theorem ur (ha:PT X a tA):PW X (.BoolOp .And [a] pos) tA:=by
 intro wh pins s σ H Q I h
 refine isTrue_and (thn (ha pins s σ H Q I h) fun c s1 e=>?_)
 cases c with
 | true=>exact isTrue_and_nil e
 | false=>exact e
theorem eO (ha:PT X a tA):PW X (.BoolOp .Or [a] pos) tA:=by
 intro wh pins s σ H Q I h
 refine isTrue_or (thn (ha pins s σ H Q I h) fun c s1 e=>?_)
 cases c with
 | false=>exact isTrue_or_nil e
 | true=>exact e
theorem wQ (ha:PT X a tA) (hb:PW X (.BoolOp .And (b :: rest) pos) tB'):PW X (.BoolOp .And (a :: b :: rest) pos) (Fx tA tB'):=by
 intro wh pins s σ H Q I h
 refine isTrue_and (thn (ha pins s σ H _ I h) fun c s1 ⟨H1,I1,q1⟩=>?_)
 cases c with
 | true=>exact hb wh pins s1 σ H1 Q I1 q1
 | false=>exact ⟨H1,I1,q1⟩
theorem eV (ha:PT X a tA) (hb:PW X (.BoolOp .Or (b :: rest) pos) tB'):PW X (.BoolOp .Or (a :: b :: rest) pos) (tOr tA tB'):=by
 intro wh pins s σ H Q I h
 refine isTrue_or (thn (ha pins s σ H _ I h) fun c s1 ⟨H1,I1,q1⟩=>?_)
 cases c with
 | true=>exact ⟨H1,I1,q1⟩
 | false=>exact hb wh pins s1 σ H1 Q I1 q1
theorem bA (ha:PT X a tA):PT X (.UnaryOp .Not a pos) (DP tA):=by
 intro pins s σ H Q I h
 exact isTrue_not (ha pins s σ H (fun c H1=>Q (!c) H1) I h)
noncomputable def BK (ta tb:TE):TE:=fun σ H Q=>ta σ H fun x H1=>∃ c,x=.bl c∧if c=true then tb σ H1 Q else Q (.bl false) H1
noncomputable def DQ (ta:TE):TE:=fun σ H Q=>ta σ H fun x H1=>∃ c,x=.bl c∧Q (.bl (!c)) H1
theorem dB {op} {t:TE} (h:PE X a t):PE X (.BoolOp op [a] pos) t:=fun pins s σ H Q I hw=>BoolOp_one (h pins s σ H Q I hw)
theorem bU (ha:PE X a ta) (hb:PE X (.BoolOp .And (b :: rest) pos) tb):PE X (.BoolOp .And (a :: b :: rest) pos) (BK ta tb):=by
 intro pins s σ H Q I h
 refine BoolOp_and (thn (ha pins s σ H _ I h) fun v s1 ⟨x,H1,I1,r1,q1⟩=>?_)
 obtain ⟨c,rfl,q1⟩:=q1
 cases r1
 refine wpAny_truthy_bool ?_
 cases c with
 | true=>exact hb pins s1 σ H1 Q I1 q1
 | false=>exact ⟨.bl false,H1,I1,rfl,q1⟩
theorem wR (ha:PE X a ta):PE X (.UnaryOp .Not a pos) (DQ ta):=by
 intro pins s σ H Q I h
 refine UnaryOp_ (thn (ha pins s σ H _ I h) fun v s1 ⟨x,H1,I1,r1,q1⟩=>?_)
 obtain ⟨c,rfl,q1⟩:=q1
 cases r1
 exact not_of (wpAny_truthy_bool ⟨.bl (!c),H1,I1,rfl,q1⟩)
noncomputable def tIf (t:TT) (ta tb:TE):TE:=fun σ H Q=>t σ H fun c H1=>if c=true then ta σ H1 Q else tb σ H1 Q
theorem wU {c:Expr} (hc:PT X c tA) (ha:PE X a ta) (hb:PE X b tb):PE X (.IfExp c a b pos) (tIf tA ta tb):=by
 intro pins s σ H Q I h
 refine wpAny_IfExp (thn (hc pins s σ H _ I h) fun d s1 ⟨H1,I1,q1⟩=>?_)
 cases d with
 | true=>exact ha pins s1 σ H1 Q I1 q1
 | false=>exact hb pins s1 σ H1 Q I1 q1
end
end L2

namespace L2
open PySem PySem.Spec PyProof.Rows

noncomputable def SqL (K:PySem.W.Frag) (H:Hp) (a:Addr) (xs:List V):Prop :=
 Rd H a (.lst xs) ∨
  ∃ (o:Obj) (its:Array Value) (n:Nat),K.lookup a=some o∧o.cls=.type "list" ∧ o.dict=none∧o.data=.seq its n∧its.size≤sizeLine∧Vals xs its.toList
noncomputable def SqT (K:PySem.W.Frag) (H:Hp) (a:Addr) (xs:List V):Prop :=
 Rd H a (.tup xs) ∨
  ∃ (o:Obj) (its:Array Value) (n:Nat),K.lookup a=some o∧o.cls=.type "tuple" ∧ o.data=.seq its n∧its.size≤sizeLine∧Vals xs its.toList
noncomputable def Fy:Value→Option V
 | .none=>some .non
 | .bool b=>some (.bl b)
 | .int i _=>some (.int i)
 | .str x _=>some (.str x)
 | .bytes b _=>some (.byt b)
 | .float b _=>some (.flt b)
 | .ref a=>some (.ref a)
 | .type n=>some (.ty n)
 | _=>none
theorem RelV.abs {x:V} {u:Value} (r:RelV x u):Fy u=some x:=by
 cases x with
 | non=>cases r; rfl
 | bl _=>cases r; rfl
 | int _=>obtain ⟨t,rfl⟩:=r; rfl
 | str _=>obtain ⟨t,rfl⟩:=r; rfl
 | byt _=>obtain ⟨t,rfl⟩:=r; rfl
 | flt _=>obtain ⟨t,rfl⟩:=r; rfl
 | ref _=>cases r; rfl
 | ty _=>cases r; rfl
theorem RelV.inj {x y:V} {u:Value} (r:RelV x u) (q:RelV y u):x=y:=Option.some.inj (r.abs.symm.trans q.abs)
theorem Vals.inj:∀ {xs ys:List V} {us:List Value},Vals xs us→Vals ys us→xs=ys
 | _,_,_,.nil,.nil=>rfl
 | _,_,_,.cons r t,.cons r' t'=>by rw [r.inj r',Vals.inj t t']
section
variable {X:Cx} {pins:List (Addr×Obj)} {σ:St} {H:Hp} {s:Shared} {a:Addr} {xs ys:List V}
theorem SqL.of {K:PySem.W.Frag} (h:H a=some (.lst xs)):SqL K H a xs:=.inl (.inl h)
theorem SqT.of {K:PySem.W.Frag} (h:H a=some (.tup xs)):SqT K H a xs:=.inl (.inl h)
theorem Inv.list (I:Inv X pins σ H s) (h:SqL X.K H a xs):∃ its:List Value,Vals xs its∧PlainL s.heap a its.toArray∧xs.length≤sizeLine:=by
 rcases h with h | ⟨o,its,n,hk,hc,hd,hs,hz,r⟩
 ·obtain ⟨z,its,n,r,e⟩:=h.ok I.hok
  exact ⟨its,r,⟨_,n,e,rfl,rfl,rfl⟩,z⟩
 ·refine ⟨its.toList,r,⟨o,n,I.kIn a o hk,hc,hd,by simpa using hs⟩,?_⟩
  have e:=r.length
  simp only [Array.length_toList] at e
  omega
theorem Inv.tuple (I:Inv X pins σ H s) (h:SqT X.K H a xs):∃ its:List Value,Vals xs its∧IsTup s.heap a its.toArray∧xs.length≤sizeLine:=by
 rcases h with h | ⟨o,its,n,hk,hc,hs,hz,r⟩
 ·obtain ⟨z,its,r,p⟩:=h.ok I.hok
  exact ⟨its,r,p,z⟩
 ·refine ⟨its.toList,r,⟨o,I.kIn a o hk,hc,n,by simpa using hs⟩,?_⟩
  have e:=r.length
  simp only [Array.length_toList] at e
  omega
theorem Inv.list_inj (I:Inv X pins σ H s) (h:SqL X.K H a xs) (h':SqL X.K H a ys):xs=ys:=by
 obtain ⟨its,r,⟨o,n,e,_,_,d⟩,_⟩:=I.list h
 obtain ⟨its',r',⟨o',n',e',_,_,d'⟩,_⟩:=I.list h'
 rw [e] at e'; cases e'
 rw [d] at d'
 injection d' with d1 _
 have:its=its':=by simpa using congrArg Array.toList d1
 subst this
 exact r.inj r'
theorem Inv.tuple_inj (I:Inv X pins σ H s) (h:SqT X.K H a xs) (h':SqT X.K H a ys):xs=ys:=by
 obtain ⟨its,r,⟨o,e,_,n,d⟩,_⟩:=I.tuple h
 obtain ⟨its',r',⟨o',e',_,n',d'⟩,_⟩:=I.tuple h'
 rw [e] at e'; cases e'
 rw [d] at d'
 injection d' with d1 _
 have:its=its':=by simpa using congrArg Array.toList d1
 subst this
 exact r.inj r'
end

noncomputable abbrev Cx.wish (X:Cx) (E:Value→Shared→Prop):Cx:={ X with xe:=E }
noncomputable abbrev Cx.nox (X:Cx):Cx:=X.wish fun _ _=>False
theorem Cx.Ok.wish {X:Cx} (ok:X.Ok) (E:Value→Shared→Prop):(X.wish E).Ok :=
 ⟨ok.mod,ok.kind,ok.glob,ok.blt,ok.above,ok.inj,ok.has,ok.cab,ok.hd,ok.frames,ok.stk,ok.exf,ok.bs,ok.bsz,ok.noex,ok.exfs,ok.funs,ok.frf⟩
theorem Cx.Ok.unwish {X:Cx} {E:Value→Shared→Prop} (ok:(X.wish E).Ok):X.Ok :=
 ⟨ok.mod,ok.kind,ok.glob,ok.blt,ok.above,ok.inj,ok.has,ok.cab,ok.hd,ok.frames,ok.stk,ok.exf,ok.bs,ok.bsz,ok.noex,ok.exfs,ok.funs,ok.frf⟩
section
variable {X:Cx} {pins:List (Addr×Obj)} {σ:St} {H:Hp} {s:Shared} {E:Value→Shared→Prop}
theorem Inv.wish (I:Inv X pins σ H s) (E:Value→Shared→Prop):Inv (X.wish E) pins σ H s:=⟨I.ok.wish E,I.os,I.bare,I.base,I.loc,I.cell,I.free,I.freeC,I.pin,I.hok,I.len⟩
theorem Inv.unwish (I:Inv (X.wish E) pins σ H s):Inv X pins σ H s:=⟨I.ok.unwish,I.os,I.bare,I.base,I.loc,I.cell,I.free,I.freeC,I.pin,I.hok,I.len⟩
theorem SP.unwish {D:Ends} {f:Flow} {s':Shared} (h:SP (X.wish E) pins D f s'):SP X pins D f s':=by
 cases f with
 | next=>obtain ⟨σ',H',I,q⟩:=h; exact ⟨σ',H',I.unwish,q⟩
 | brk=>obtain ⟨σ',H',I,q⟩:=h; exact ⟨σ',H',I.unwish,q⟩
 | cont=>obtain ⟨σ',H',I,q⟩:=h; exact ⟨σ',H',I.unwish,q⟩
 | ret u=>obtain ⟨v,σ',H',I,r,q⟩:=h; exact ⟨v,σ',H',I.unwish,r,q⟩
theorem PSs.nox {st:List Stmt} {t:TS} (h:PSs X.nox st t):PSs X st t:=fun pins s σ H D I hw =>
 wpAny_mono (h pins s σ H D (I.wish _) hw) (fun _ _ q=>q.unwish) fun _ _ z=>False.elim z
end

section
variable {X:Cx} {st:Stmt} {rest:List Stmt} {t u:TS} {e:Expr} {te:TE} {pos:Pos}
noncomputable def wV:TS:=fun D σ H=>D.nx σ H
noncomputable def zM (t u:TS):TS:=fun D σ H=>t { D with nx:=u D } σ H
theorem aV:PSs X [] wV:=fun _ _ σ H _ I h=>wpAny_execs_nil ⟨σ,H,I,h⟩
theorem aA (h1:PS X st t) (h2:PSs X rest u):PSs X (st :: rest) (zM t u):=by
 intro pins s σ H D I h
 refine wpAny_execs_cons (thn (h1 pins s σ H { D with nx:=u D } I h) fun f s1 q=>?_)
 cases f with
 | next =>
  obtain ⟨σ',H',I',q⟩:=q
  exact h2 pins s1 σ' H' D I' q
 | ret v=>exact q
 | brk=>exact q
 | cont=>exact q
theorem aB (h1:PS X st t):PSs X [st] t:=by
 intro pins s σ H D I h
 refine wpAny_execs_cons (thn (h1 pins s σ H D I h) fun f s1 q=>?_)
 cases f with
 | next=>exact wpAny_execs_nil q
 | ret v=>exact q
 | brk=>exact q
 | cont=>exact q
theorem Inv.quiet {pins:List (Addr×Obj)} {σ:St} {H:Hp} {s:Shared} (I:Inv X pins σ H s):interactive X.env=false:=by simp [interactive,I.ok.kind]
noncomputable def DR (te:TE):TS:=fun D σ H=>te σ H fun _ H1=>D.nx σ H1
theorem eY (he:PE X e te) (hs:swapsWith e none pos.line X.env=pure false:=by rfl):PS X (.Expr e pos) (DR te):=by
 intro pins s σ H D I h
 exact wpAny_Expr_any (thn (he pins s σ H _ I h) fun v s1 ⟨x,H1,I1,r1,q1⟩=>⟨σ,H1,I1,q1⟩) I.quiet hs
noncomputable def Ck (te:TE):TS:=fun D σ H=>te σ H D.rt
theorem aN (he:PE X e te):PS X (.Return (some e) pos) (Ck te):=by
 intro pins s σ H D I h
 exact wpAny_Return_some (thn (he pins s σ H _ I h) fun v s1 ⟨x,H1,I1,r1,q1⟩=>⟨x,σ,H1,I1,r1,q1⟩)
noncomputable def DW (c:TT) (t u:TS):TS:=fun D σ H=>c σ H fun b H1=>if b=true then t D σ H1 else u D σ H1
theorem bF {c:Expr} {a b:List Stmt} {tc:TT} (hc:PT X c tc) (ha:PSs X a t) (hb:PSs X b u):PS X (.If c a b pos) (DW tc t u):=by
 intro pins s σ H D I h
 refine wpAny_If (thn (hc pins s σ H _ I h) fun d s1 ⟨H1,I1,q1⟩=>?_)
 cases d with
 | true=>exact ha pins s1 σ H1 D I1 q1
 | false=>exact hb pins s1 σ H1 D I1 q1
noncomputable def Cm:TS:=fun _ _ _=>False
theorem nR {sts:List Stmt}:PSs X sts Cm:=fun _ _ _ _ _ _ h=>h.elim
end

noncomputable abbrev TG:=V→St→Hp→(St→Hp→Prop)→Prop
noncomputable abbrev TGs:=List V→St→Hp→(St→Hp→Prop)→Prop
noncomputable def PG (X:Cx) (target:Expr) (t:TG):Prop :=
 ∀ (pins:List (Addr×Obj)) (s:Shared) (σ:St) (H:Hp) (v:V) (u:Value) (Q:St→Hp→Prop),Inv X pins σ H s→RelV v u→t v σ H Q →
  wpAny (model X.prog X.w) X.A (assign target X.env u) (fun _ s'=>∃ σ' H',Inv X pins σ' H' s'∧Q σ' H') X.xe s
noncomputable def PGs (X:Cx) (ts:List Expr) (t:TGs):Prop :=
 ∀ (pins:List (Addr×Obj)) (s:Shared) (σ:St) (H:Hp) (vs:List V) (us:List Value) (Q:St→Hp→Prop),Inv X pins σ H s→Vals vs us→t vs σ H Q →
  wpAny (model X.prog X.w) X.A (assignInOrder ((assignEach ts X.env).map (·.2)) us) (fun _ s'=>∃ σ' H',Inv X pins σ' H' s'∧Q σ' H') X.xe s
noncomputable abbrev wW:=V→V→V→Hp→(Hp→Prop)→Prop
noncomputable def Cp (X:Cx) (t:wW):Prop :=
 ∀ (pins:List (Addr×Obj)) (s:Shared) (σ:St) (H:Hp) (o i v:V) (ov iv u:Value) (Q:Hp→Prop),Inv X pins σ H s→RelV o ov→RelV i iv→RelV v u→t o i v H Q →
  wpAny (model X.prog X.w) X.A (setItem ov iv u) (fun _ s'=>∃ H',Inv X pins σ H' s'∧Q H') X.xe s
noncomputable abbrev TIp:=V→V→Hp→VK→Prop
noncomputable def PIp (X:Cx) (op:Operator) (t:TIp):Prop :=
 ∀ (pins:List (Addr×Obj)) (s:Shared) (σ:St) (H:Hp) (x y:V) (v u:Value) (Q:VK),Inv X pins σ H s→RelV x v→RelV y u→t x y H Q →
  wpAny (model X.prog X.w) X.A (inplaceOp op v u) (EP X pins σ Q) X.xe s
section
variable {X:Cx} {pos:Pos}
noncomputable def gq (i:Nat):TG:=fun v σ H Q=>Q (σ.set i (some v)) H
theorem aC {i:Nat} {x:Str} (hN:X.N.Nodup) (hi:X.N[i]?=some x) (hx:Loc X.env.scope x) (hf:X.fn x=true∨X.env.scope.names.lookup x=some .local:=by first | exact .inl rfl | exact .inr rfl | assumption):PG X (.Name x pos) (gq i):=by
 intro pins s σ H v u Q I r h
 exact wpAny_assign_Name (fG I hN hi hx r (fun s' I'=>⟨_,H,I',h⟩) hf)
noncomputable def zN:TGs:=fun vs σ H Q=>vs=[]∧Q σ H
noncomputable def lA (t:TG) (u:TGs):TGs:=fun vs σ H Q=>∃ v r,vs=v :: r∧t v σ H fun σ' H'=>u r σ' H' Q
theorem bV:PGs X [] zN:=by
 intro pins s σ H vs us Q I r h
 obtain ⟨e,h⟩:=h
 subst e
 cases r
 exact assignInOrder_nil ⟨σ,H,I,h⟩
theorem aF {e:Expr} {es:List Expr} {t:TG} {u:TGs} (h1:PG X e t) (h2:PGs X es u)
  (hs:(assignEach (e :: es) X.env).map (·.2)=assign e X.env :: (assignEach es X.env).map (·.2):=by rfl):PGs X (e :: es) (lA t u):=by
 intro pins s σ H vs us Q I r h
 obtain ⟨v,vr,e1,h⟩:=h
 subst e1
 cases r with
 | cons r rr =>
  rw [hs]
  refine assignInOrder_cons (thn (h1 pins s σ H _ _ _ I r h) fun _ s1 ⟨σ1,H1,I1,q1⟩=>?_)
  exact h2 pins s1 σ1 H1 _ _ Q I1 rr q1
noncomputable def wX (K:PySem.W.Frag) (n:Nat) (t:TGs):TG:=fun v σ H Q=>∃ a xs,v=.ref a∧SqT K H a xs∧xs.length=n∧t xs σ H Q
theorem cR {es:List Expr} {k:Nat} {t:TGs} {n:Nat} (hc:X.calm=true) (h:PGs X es t)
  (hn:(assignEach es X.env).length=n:=by rfl) (hst:(assignEach es X.env).findIdx? (·.1)=none:=by rfl):PG X (.Tuple es k pos) (wX X.K n t):=by
 intro pins s σ H v u Q I r hw
 obtain ⟨a,xs,e1,hq,hl,hw⟩:=hw
 subst e1
 cases r
 obtain ⟨its,rv,ht,hz⟩:=I.tuple hq
 refine assign_Tuple_tuple (I.ok.hd hc) ht (by simp [hn,← hl,rv.length]) hst fun h' hx=>?_
 have I1:Inv X pins σ H { s with heap:=h' }:=I.kept (t':=s.toks) fun b o e=>hx b o (Nat.ne_of_lt (Heap.lt_size e)) e
 exact h pins _ σ H xs _ Q I1 (by simpa using rv) hw
noncomputable def Fz (to ti:TE) (t:wW):TG:=fun v σ H Q=>to σ H fun o H1=>ti σ H1 fun i H2=>t o i v H2 fun H3=>Q σ H3
theorem ph {o i:Expr} {to ti:TE} {t:wW} (ho:PE X o to) (hi:PE X i ti) (hs:Cp X t)
  (ha:∀ v,assign (.Subscript o i pos) X.env v=(do
   let ov ← holding [v] (eval o X.env)
   let iv ← holding [v,ov] (eval i X.env)
   standAt pos
   holding [v,ov,iv] (setItem ov iv v)
   release [v,ov,iv] []):=by intro _; rfl):PG X (.Subscript o i pos) (Fz to ti t):=by
 intro pins s σ H v u Q I r h
 rw [ha]
 refine wpAny_bind (wpAny_holding (thn (ho pins s σ H _ I h) fun ov s1 ⟨x,H1,I1,r1,q1⟩=>?_))
 refine wpAny_bind (wpAny_holding (thn (hi pins s1 σ H1 _ I1 q1) fun iv s2 ⟨y,H2,I2,r2,q2⟩=>?_))
 refine wpAny_bind (wpAny_standAt (wpAny_bind (wpAny_holding (thn (hs pins s2 σ H2 x y v ov iv u _ I2 r1 r2 r q2) fun _ s3 ⟨H3,I3,q3⟩=>?_))))
 exact wpAny_release ⟨σ,H3,I3,q3⟩
noncomputable def wY (te:TE) (g:TG):TS:=fun D σ H=>te σ H fun x H1=>g x σ H1 D.nx
theorem dC {tg e:Expr} {te:TE} {g:TG} (he:PE X e te) (hg:PG X tg g) (hs:swapsWithSole [tg] e pos.line X.env=pure false:=by rfl) (hw:swappedStores [tg] e X.env=pure none:=by rfl)
  (h1:(assignEach [tg] X.env).map (·.2)=[assign tg X.env]:=by rfl):PS X (.Assign [tg] e pos) (wY te g):=by
 intro pins s σ H D I h
 refine wpAny_Assign_stores (thn (he pins s σ H _ I h) fun v s1 ⟨x,H1,I1,r1,q1⟩=>?_) hs hw
 rw [h1]
 exact thn (hg pins s1 σ H1 x v _ I1 r1 q1) fun _ s2 q=>q
theorem bw {i:Nat} {x:Str} {e:Expr} {te:TE} {pos':Pos} (hN:X.N.Nodup) (hi:X.N[i]?=some x) (hx:Loc X.env.scope x) (he:PE X e te) (hs:swapsWith e (some (.Name x pos')) pos.line X.env=pure false:=by rfl) (hf:X.fn x=true∨X.env.scope.names.lookup x=some .local:=by first | exact .inl rfl | exact .inr rfl | assumption) :
  PS X (.Assign [.Name x pos'] e pos) (wY te (gq i)):=by
 intro pins s σ H D I h
 refine wpAny_Assign_Name (thn (he pins s σ H _ I h) fun v s1 ⟨y,H1,I1,r1,q1⟩=>?_) hs
 exact fG I1 hN hi hx r1 (fun s2 I2=>⟨_,H1,I2,q1⟩) hf
noncomputable def FJ (i j:Nat) (ta:TA):TS:=fun D σ H=>ta σ H fun vs H1=>∃ v w,vs=[v,w]∧D.nx ((σ.set i (some v)).set j (some w)) H1
theorem tH {i j:Nat} {x y:Str} {a b:Expr} {ta:TA} {px py pt:Pos} {kt k2 pt2} (hc:X.calm=true) (hN:X.N.Nodup) (hi:X.N[i]?=some x) (hj:X.N[j]?=some y) (hij:i≠j)
  (hx:X.env.scope.names.lookup x=some .local) (hy:X.env.scope.names.lookup y=some .local) (ha:PA X [a,b] ta)
  (hw:swappedStores [.Tuple [.Name x px,.Name y py] kt pt] (.Tuple [a,b] k2 pt2) X.env=pure (some [x,y]))
  (hs:swapsWithSole [.Tuple [.Name x px,.Name y py] kt pt] (.Tuple [a,b] k2 pt2) pos.line X.env=pure false:=by rfl) :
  PS X (.Assign [.Tuple [.Name x px,.Name y py] kt pt] (.Tuple [a,b] k2 pt2) pos) (FJ i j ta):=by
 intro pins s σ H D I h
 rw [exec_Assign_arm]
 refine wpAny_bind (wpAny_standAt ?_)
 rw [hs]
 refine wpAny_bind (wpAny_pure ?_)
 rw [if_neg (by decide)]
 refine wpAny_bind (Tuple_ (thn (ha _ pins s σ H _ I h) fun us s1 ⟨vs,H1,I1,r1,q1⟩=>?_))
 obtain ⟨v,w,e1,q1⟩:=q1
 subst e1
 obtain ⟨u1,u2,rfl,rv,rw'⟩:∃ u1 u2,us=[u1,u2]∧RelV v u1∧RelV w u2:=by
  cases r1 with
  | cons p q =>
   cases q with
   | cons p' q' =>
    cases q'
    exact ⟨_,_,rfl,p,p'⟩
 refine wpAny_newObj_type ?_ (by show 2≤sizeLine; decide)
 have I2:Inv X pins σ H1 { s1 with heap:=s1.heap.push { cls:=.type "tuple",data:=.seq [u1,u2].toArray } }:=I1.kept (t':=s1.toks) fun b o e=>Heap.get?_push_of_some _ e
 rw [hw]
 refine wpAny_bind (wpAny_pure ?_)
 show wpAny (model X.prog X.w) X.A (do rule "assign.swapped-stores"; let items ← unpackItems (.ref s1.heap.objs.size) 2 none; assignInOrder [fun v=>bindName X.env y v,fun v=>bindName X.env x v] items.reverse; pure Flow.next) _ _ _
 refine wpAny_bind (wpAny_rule (wpAny_bind (unpackItems_tuple (items:=#[u1,u2]) (I.ok.hd hc) (IsTup.new s1.heap _) fun h' hx'=>?_)))
 have I3:=I2.kept (h':=h') (t':=s1.toks) fun b o e=>hx' b o (Nat.ne_of_lt (Heap.lt_size e)) e
 show wpAny _ _ (assignInOrder [fun v=>bindName X.env y v,fun v=>bindName X.env x v] [u2,u1] >>= fun _=>pure Flow.next) _ _ _
 refine wpAny_bind (assignInOrder_cons (wpAny_bindName (fG I3 hN hj (.inl hy) rw' (fun s2 I4=>?_) (.inr hy))))
 refine assignInOrder_cons (wpAny_bindName (fG I4 hN hi (.inl hx) rv (fun s3 I5=>assignInOrder_nil (wpAny_pure ?_)) (.inr hx)))
 rw [List.set_comm _ _ (Ne.symm hij)] at I5
 exact ⟨_,H1,I5,q1⟩
noncomputable def DX (to ti te:TE) (tget:V→V→Hp→VK→Prop) (tip:TIp) (tset:wW):TS:=fun D σ H=>to σ H fun o H1=>ti σ H1 fun i H2=>tget o i H2 fun x H3=>te σ H3 fun y H4=>tip x y H4 fun z H5=>tset o i z H5 fun H6=>D.nx σ H6
noncomputable def DY (X:Cx) (t:V→V→Hp→VK→Prop):Prop :=
 ∀ (pins:List (Addr×Obj)) (s:Shared) (σ:St) (H:Hp) (o i:V) (ov iv:Value) (Q:VK),Inv X pins σ H s→RelV o ov→RelV i iv→t o i H Q →
  wpAny (model X.prog X.w) X.A (getItem ov iv) (EP X pins σ Q) X.xe s
theorem ut {o i e:Expr} {to ti te:TE} {tget:V→V→Hp→VK→Prop} {tip:TIp} {tset:wW} {op:Operator} {tpos:Pos} (ho:PE X o to) (hi:PE X i ti) (hg:DY X tget) (he:PE X e te) (hp:PIp X op tip) (hs:Cp X tset)
  (ha:∀ ov iv new,augStore i ov iv new=(do holding [new,ov,iv] (setItem ov iv new); release [new,ov,iv] []; pure .next):=by intros; rfl):PS X (.AugAssign (.Subscript o i tpos) op e pos) (DX to ti te tget tip tset):=by
 intro pins s σ H D I h
 refine wpAny_AugAssign_SubscriptAny (thn (ho pins s σ H _ I h) fun ov s1 ⟨x1,H1,I1,r1,q1⟩=>?_) ha
 refine thn (hi pins s1 σ H1 _ I1 q1) fun iv s2 ⟨x2,H2,I2,r2,q2⟩=>?_
 refine thn (hg pins s2 σ H2 x1 x2 ov iv _ I2 r1 r2 q2) fun old s3 ⟨x3,H3,I3,r3,q3⟩=>?_
 refine thn (he pins s3 σ H3 _ I3 q3) fun v s4 ⟨x4,H4,I4,r4,q4⟩=>?_
 refine thn (hp pins s4 σ H4 x3 x4 old v _ I4 r3 r4 q4) fun new s5 ⟨x5,H5,I5,r5,q5⟩=>?_
 exact thn (hs pins s5 σ H5 x1 x2 x5 ov iv new _ I5 r1 r2 r5 q5) fun _ s6 ⟨H6,I6,q6⟩=>⟨σ,H6,I6,q6⟩
noncomputable def ipI (f:Int→Int→Int):TIp:=fun x y H Q=>∃ i j,x=.int i∧y=.int j∧Q (.int (f i j)) H
theorem Cq:PIp X .Add (ipI fun i j=>i+j):=by
 intro pins s σ H x y v u Q I r1 r2 h
 obtain ⟨i,j,e1,e2,q⟩:=h
 subst e1; subst e2
 obtain ⟨t,rfl⟩:=r1
 obtain ⟨t',rfl⟩:=r2
 exact iadd_int ⟨.int _,H,I.tok _,⟨_,rfl⟩,q⟩
theorem Cr:PIp X .Sub (ipI fun i j=>i - j):=by
 intro pins s σ H x y v u Q I r1 r2 h
 obtain ⟨i,j,e1,e2,q⟩:=h
 subst e1; subst e2
 obtain ⟨t,rfl⟩:=r1
 obtain ⟨t',rfl⟩:=r2
 exact isub_int ⟨.int _,H,I.tok _,⟨_,rfl⟩,q⟩
end

section
variable {X:Cx} {pos:Pos}
end

structure It where
 go:Nat→Hp→Prop
 yld:Nat→Hp→V→Hp→Prop
 stop:Nat→Hp→Prop
noncomputable def pq (X:Cx) (pins:List (Addr×Obj)) (H:Hp) (b:Addr):Prop :=
 H b=none∧b≠X.env.locals∧b ∉ X.fs∧(b∈X.ex∨X.s₀.heap.objs.size≤b)∧(∀ x c,X.env.cells.lookup x=some c→c≠b)∧∀ p∈X.pn++pins,p.1≠b
theorem Inv.fpOk {X:Cx} {pins:List (Addr×Obj)} {σ:St} {H H':Hp} {s:Shared} {b:Addr} (I:Inv X pins σ H s) (hb:s.heap.objs.size≤b) (hn:H' b=none):pq X pins H' b:=by
 refine ⟨hn,Nat.ne_of_gt (Nat.lt_of_lt_of_le I.lt hb),I.nofs hb,.inr (Nat.le_trans I.sz hb),fun x c e z=>?_,fun p hp z=>?_⟩
 ·obtain ⟨v,q⟩:=I.cell x c e
  exact absurd (Nat.lt_of_lt_of_le q.lt (by rw [z]; exact hb)) (Nat.lt_irrefl _)
 ·exact absurd (Nat.lt_of_lt_of_le (Heap.lt_size (I.pin p hp).1) (by rw [z]; exact hb)) (Nat.lt_irrefl _)
structure Turn (P:Program) (w:World) (K:PySem.W.Frag) (tg:Expr) (J:It) (fp:List Addr) (it:Addr) (tn:Nat→Heap→Prop):Prop where
 mem:it∈fp
 obj:∀ i h,tn i h→∀ b∈fp,∃ o,h.get? b=some o∧∀ v,o.data≠.cell v
 keep:∀ i h h',tn i h→(∀ b∈fp,∀ o,h.get? b=some o→h'.get? b=some o)→tn i h'
 item:∀ (X:Cx),X.prog=P→X.w=w→X.K=K→X.calm=true→∀ (i:Nat) (pins:List (Addr×Obj)) (s:Shared) (σ:St) (H:Hp) (E:Value→Shared→Prop),Inv X pins σ H s→(∀ b∈fp,pq X pins H b)→tn i s.heap→J.go i H →
  wpAny (model P w) X.A (pyNext (.ref it)) (fun r s1=>∃ u,r=some u ∧
   wpAny (model P w) X.A (letOwnedTupleGo tg (.ref it) u) (fun _ s2=>∃ x H',Inv X pins σ H' s2∧RelV x u∧J.yld i H x H'∧tn (i+1) s2.heap∧∀ b∈fp,H' b=none) E s1) E s
 done:∀ (X:Cx),X.prog=P→X.w=w→X.K=K→X.calm=true→∀ (i:Nat) (pins:List (Addr×Obj)) (s:Shared) (σ:St) (H:Hp) (E:Value→Shared→Prop),Inv X pins σ H s→(∀ b∈fp,pq X pins H b)→tn i s.heap→J.stop i H →
  wpAny (model P w) X.A (pyNext (.ref it)) (fun r s1=>r=none∧Inv X pins σ H s1) E s
 self:∀ (A:Around) (i:Nat) (s:Shared) (Q:Value→Shared→Prop) (E:Value→Shared→Prop),tn i s.heap→Q (.ref it) s→wpAny (model P w) A (pyIter (.ref it)) Q E s
noncomputable abbrev TI:=St→Hp→(It→Hp→Prop)→Prop
noncomputable def PIE (X:Cx) (pins:List (Addr×Obj)) (σ:St) (tg:Expr) (R:It→Hp→Prop) (itv:Value) (s2:Shared):Prop :=
 ∃ (it:Addr) (fp:List Addr) (tn:Nat→Heap→Prop) (J:It) (H':Hp),itv=.ref it∧Inv X pins σ H' s2∧Turn X.prog X.w X.K tg J fp it tn∧tn 0 s2.heap∧(∀ b∈fp,pq X pins H' b)∧R J H'
noncomputable def PI (X:Cx) (tg iter:Expr) (wi:TI):Prop :=
 ∀ (pins:List (Addr×Obj)) (s:Shared) (σ:St) (H:Hp) (R:It→Hp→Prop),Inv X pins σ H s→wi σ H R →
  wpAny (model X.prog X.w) X.A (eval iter X.env) (fun v s1=>wpAny (model X.prog X.w) X.A (pyIter v) (PIE X pins σ tg R) X.xe s1) X.xe s

theorem wZ {M:Model} {A:Around} {E:Value→Shared→Prop} {s:Shared} {tg:Expr} {it:Addr} {u:Value} {o:Obj} {n:String} {vs:Array Value} {Q:Unit→Shared→Prop} (ho:s.heap.get? it=some o) (hc:o.cls=.type n) (hd:o.data=.fields vs)
  (hn:["enumerate","zip","dict_itemiterator","dict_reverseitemiterator","odict_iterator","itertools.zip_longest","itertools.pairwise"].contains n=false) (hQ:Q () s):wpAny M A (letOwnedTupleGo tg (.ref it) u) Q E s:=by
 unfold letOwnedTupleGo
 cases tg <;> first
  | exact wpAny_pure hQ
  | (cases u <;> first
    | exact wpAny_pure hQ
    | (refine wpAny_bind (wpAny_load ho ?_)
       rw [hc,hd]
       show wpAny M A (if (["enumerate","zip","dict_itemiterator","dict_reverseitemiterator","odict_iterator","itertools.zip_longest","itertools.pairwise"].contains n && vs[0]? == some (rawInt _))=true then _ else _) Q E s
       rw [if_neg (by intro h; rw [hn,Bool.false_and] at h; cases h)]
       exact wpAny_pure hQ))

noncomputable def Itl (K:PySem.W.Frag) (a:Addr):It :=
 ⟨fun i H=>∃ xs x,SqL K H a xs∧xs[i]?=some x,fun i H x H'=>H'=H∧∀ xs,SqL K H a xs→xs[i]?=some x,fun i H=>∃ xs,SqL K H a xs∧xs.length≤i⟩
noncomputable def Itt (K:PySem.W.Frag) (a:Addr):It :=
 ⟨fun i H=>∃ xs x,SqT K H a xs∧xs[i]?=some x,fun i H x H'=>H'=H∧∀ xs,SqT K H a xs→xs[i]?=some x,fun i H=>∃ xs,SqT K H a xs∧xs.length≤i⟩
noncomputable def Itr (lo:Int) (n:Nat):It:=⟨fun i _=>i < n,fun i H x H'=>H'=H∧x=.int (lo+i),fun i _=>n≤i⟩
theorem vM {P:Program} {w:World} {K:PySem.W.Frag} {tg:Expr} (a it:Addr):Turn P w K tg (Itl K a) [it] it (fun i h=>h.IsListIter it a i) where
 mem:=by simp
 obj:=fun i h st b hb=>by
  have e:b=it:=by simpa using hb
  subst e
  obtain ⟨o,e,c,d⟩:=st
  exact ⟨o,e,fun v z=>by rw [d] at z; cases z⟩
 keep:=fun i h h' st k=>st.at fun o e=>k it (by simp) o e
 item:=by
  intro X hP hw hK hc i pins s σ H E I hf st hg
  subst hP hw hK
  obtain ⟨xs,x,hq,hx⟩:=hg
  obtain ⟨its,rv,p,hz⟩:=I.list hq
  obtain ⟨u,hu,ru⟩:=rv.get hx
  obtain ⟨f0,f1,f2,f3,f4,f5⟩:=hf it (by simp)
  refine wpAny_pyNext_list_item st p.isList (x:=u) (by simpa using hu) fun h' st' sb=>?_
  have I1:Inv X pins σ H { s with heap:=h' }:=I.turned (t':=s.toks) (fun b o hb e=>(sb.2 b hb).trans e) f0 f1 f3 f4 f5
  obtain ⟨o,e,c,d⟩:=id st'
  exact ⟨u,rfl,wZ (s:={ s with heap:=h' }) e c d (by decide) ⟨x,H,I1,ru,⟨rfl,fun ys hy=>by rw [I.list_inj hy hq]; exact hx⟩,st',fun b hb=>(hf b hb).1⟩⟩
 done:=by
  intro X hP hw hK hc i pins s σ H E I hf st hg
  subst hP hw hK
  obtain ⟨xs,hq,hx⟩:=hg
  obtain ⟨its,rv,p,hz⟩:=I.list hq
  obtain ⟨f0,f1,f2,f3,f4,f5⟩:=hf it (by simp)
  have hl:=rv.length
  exact wpAny_pyNext_list_end (I.ok.hd hc) st p.isList (by simp; omega) fun h' eb=>⟨rfl,I.turned (t':=s.toks) (fun b o hb e=>eb b o hb e) f0 f1 f3 f4 f5⟩
 self:=fun _ _ _ _ _ st h=>wpAny_pyIter_listiter st h
theorem tK {P:Program} {w:World} {K:PySem.W.Frag} {tg:Expr} (a it:Addr):Turn P w K tg (Itt K a) [it] it (fun i h=>h.IsTupleIter it a i) where
 mem:=by simp
 obj:=fun i h st b hb=>by
  have e:b=it:=by simpa using hb
  subst e
  obtain ⟨o,e,c,d⟩:=st
  exact ⟨o,e,fun v z=>by rw [d] at z; cases z⟩
 keep:=fun i h h' st k=>st.at fun o e=>k it (by simp) o e
 item:=by
  intro X hP hw hK hc i pins s σ H E I hf st hg
  subst hP hw hK
  obtain ⟨xs,x,hq,hx⟩:=hg
  obtain ⟨its,rv,p,hz⟩:=I.tuple hq
  obtain ⟨u,hu,ru⟩:=rv.get hx
  obtain ⟨f0,f1,f2,f3,f4,f5⟩:=hf it (by simp)
  refine wpAny_pyNext_tuple_item st (show s.heap.IsTuple a its.toArray from p) (x:=u) (by simpa using hu) fun h' st' sb=>?_
  have I1:Inv X pins σ H { s with heap:=h' }:=I.turned (t':=s.toks) (fun b o hb e=>(sb.2 b hb).trans e) f0 f1 f3 f4 f5
  obtain ⟨o,e,c,d⟩:=id st'
  exact ⟨u,rfl,wZ (s:={ s with heap:=h' }) e c d (by decide) ⟨x,H,I1,ru,⟨rfl,fun ys hy=>by rw [I.tuple_inj hy hq]; exact hx⟩,st',fun b hb=>(hf b hb).1⟩⟩
 done:=by
  intro X hP hw hK hc i pins s σ H E I hf st hg
  subst hP hw hK
  obtain ⟨xs,hq,hx⟩:=hg
  obtain ⟨its,rv,p,hz⟩:=I.tuple hq
  obtain ⟨f0,f1,f2,f3,f4,f5⟩:=hf it (by simp)
  have hl:=rv.length
  exact wpAny_pyNext_tuple_end (I.ok.hd hc) st (show s.heap.IsTuple a its.toArray from p) (by simp; omega) fun h' eb=>⟨rfl,I.turned (t':=s.toks) (fun b o hb e=>eb b o hb e) f0 f1 f3 f4 f5⟩
 self:=fun _ _ _ _ _ st h=>wpAny_pyIter_tupleiter st h
theorem tL {P:Program} {w:World} {K:PySem.W.Frag} {tg:Expr} (it:Addr) (lo:Int) (n:Nat):Turn P w K tg (Itr lo n) [it] it (fun i h=>IsRangeIter h it (lo+(i:Nat) * 1) ((n:Int) - (i:Nat)) 1) where
 mem:=by simp
 obj:=fun i h st b hb=>by
  have e:b=it:=by simpa using hb
  subst e
  exact ⟨_,st,fun v z=>by
   have z':Data.fields _=Data.cell v:=z
   cases z'⟩
 keep:=fun i h h' st k=>k it (by simp) _ st
 item:=by
  intro X hP hw hK hc i pins s σ H E I hf st hg
  subst hP hw hK
  obtain ⟨f0,f1,f2,f3,f4,f5⟩:=hf it (by simp)
  have W:=Walks.range (prog:=X.prog) (w:=X.w) (I.ok.hd hc) it lo 1 n
  refine W.item i s _ _ hg st fun v h' tk hv st' kk=>?_
  obtain ⟨t,rfl⟩:=hv
  have I1:Inv X pins σ H { s with heap:=h',toks:=tk }:=I.turned (fun b o hb e=>kk b o (by simpa using hb) e) f0 f1 f3 f4 f5
  refine ⟨_,rfl,wZ (s:={ s with heap:=h',toks:=tk }) (n:="range_iterator") st' rfl rfl (by decide) ⟨.int (lo+i),H,I1,⟨t,?_⟩,⟨rfl,rfl⟩,st',fun b hb=>(hf b hb).1⟩⟩
  rw [Int.mul_one]
 done:=by
  intro X hP hw hK hc i pins s σ H E I hf st hg
  subst hP hw hK
  obtain ⟨f0,f1,f2,f3,f4,f5⟩:=hf it (by simp)
  exact wpAny_pyNext_range_end (I.ok.hd hc) st (by have:n≤i:=hg; omega) fun h' eb=>⟨rfl,I.turned (t':=s.toks) (fun b o hb e=>eb b o hb e) f0 f1 f3 f4 f5⟩
 self:=fun _ _ _ _ _ st h=>wpAny_pyIter_rangeiter st h
end L2

namespace L2
open PySem PySem.Spec PyProof.Rows
section
variable {X:Cx} {tg:Expr}
noncomputable def Ea (K:PySem.W.Frag) (tl:TE):TI:=fun σ H R=>tl σ H fun x H1=>∃ a,x=.ref a∧(∃ xs,SqL K H1 a xs)∧R (Itl K a) H1
noncomputable def Eb (K:PySem.W.Frag) (tl:TE):TI:=fun σ H R=>tl σ H fun x H1=>∃ a,x=.ref a∧(∃ xs,SqT K H1 a xs)∧R (Itt K a) H1
theorem uv {l:Expr} {tl:TE} (hl:PE X l tl):PI X tg l (Ea X.K tl):=by
 intro pins s σ H R I h
 refine thn (hl pins s σ H _ I h) fun v s1 ⟨x,H1,I1,r1,q1⟩=>?_
 obtain ⟨a,e,⟨xs,hq⟩,q⟩:=q1
 subst e
 cases r1
 obtain ⟨its,rv,p,hz⟩:=I1.list hq
 refine wpAny_pyIter_list p.isList ?_
 refine ⟨s1.heap.objs.size,[s1.heap.objs.size],_,_,H1,rfl,I1.kept (t':=s1.toks) fun b o e=>Heap.get?_push_of_some _ e,vM a _,⟨_,Heap.get?_push_size _ rfl,rfl,rfl⟩,fun b hb=>?_,q⟩
 have e:b=s1.heap.objs.size:=by simpa using hb
 subst e
 exact I1.fpOk (Nat.le_refl _) (I1.hok.fresh (Nat.le_refl _))
theorem fH {l:Expr} {tl:TE} (hl:PE X l tl):PI X tg l (Eb X.K tl):=by
 intro pins s σ H R I h
 refine thn (hl pins s σ H _ I h) fun v s1 ⟨x,H1,I1,r1,q1⟩=>?_
 obtain ⟨a,e,⟨xs,hq⟩,q⟩:=q1
 subst e
 cases r1
 obtain ⟨its,rv,p,hz⟩:=I1.tuple hq
 refine wpAny_pyIter_tuple (show s1.heap.IsTuple a its.toArray from p) ?_
 refine ⟨s1.heap.objs.size,[s1.heap.objs.size],_,_,H1,rfl,I1.kept (t':=s1.toks) fun b o e=>Heap.get?_push_of_some _ e,tK a _,⟨_,Heap.get?_push_size _ rfl,rfl,rfl⟩,fun b hb=>?_,q⟩
 have e:b=s1.heap.objs.size:=by simpa using hb
 subst e
 exact I1.fpOk (Nat.le_refl _) (I1.hok.fresh (Nat.le_refl _))
theorem qH {pins:List (Addr×Obj)} {σ:St} {H:Hp} {s:Shared} {R:It→Hp→Prop} {E:Value→Shared→Prop} {lo hi:Int} {t u v:Tok} {tk:Nat} (I:Inv X pins σ H s) (h1:-(2 ^ 62)≤lo) (h2:lo < 2 ^ 62) (h3:-(2 ^ 62)≤hi) (h4:hi < 2 ^ 62)
  (q:R (Itr lo (hi - lo).toNat) H):wpAny (model X.prog X.w) X.A (pyIter (.ref s.heap.objs.size)) (PIE X pins σ tg R) E { s with heap:=s.heap.push { cls:=.type "range",data:=.fields #[.int lo t,.int hi u,.int 1 v] },toks:=tk }:=by
 refine wpAny_pyIter_range (IsRange.new ..) (small_one h1 h2 h3 h4) ?_
 have I1:Inv X pins σ H { s with heap:=s.heap.push { cls:=.type "range",data:=.fields #[.int lo t,.int hi u,.int 1 v] },toks:=tk }:=I.kept fun b o e=>Heap.get?_push_of_some _ e
 refine ⟨(s.heap.push { cls:=.type "range",data:=.fields #[.int lo t,.int hi u,.int 1 v] }).objs.size,[(s.heap.push { cls:=.type "range",data:=.fields #[.int lo t,.int hi u,.int 1 v] }).objs.size],_,_,H,rfl,
  I1.kept (t':=tk) fun b o e=>Heap.get?_push_of_some _ e,tL _ lo (hi - lo).toNat,?_,fun b hb=>?_,q⟩
 ·have e1:lo+((0:Nat):Int) * 1=lo:=by simp
  have e2:(((hi - lo).toNat:Nat):Int) - ((0:Nat):Int)=Builtin.Range.rangeSize lo hi 1:=by rw [rangeSize_one]; split <;> omega
  show IsRangeIter _ _ (lo+((0:Nat):Int) * 1) ((((hi - lo).toNat:Nat):Int) - ((0:Nat):Int)) 1
  rw [e1,e2]
  exact Heap.get?_push_size _ rfl
 ·have e:b=(s.heap.push { cls:=.type "range",data:=.fields #[.int lo t,.int hi u,.int 1 v] }).objs.size:=by simpa using hb
  subst e
  exact I1.fpOk (Nat.le_refl _) (I1.hok.fresh (Nat.le_refl _))
noncomputable def Ec (ta:TA):TI:=fun σ H R=>ta σ H fun vs H1=>∃ j:Int,vs=[.int j]∧-(2 ^ 62)≤j∧j < 2 ^ 62∧R (Itr 0 j.toNat) H1
noncomputable def Ed (ta:TA):TI:=fun σ H R=>ta σ H fun vs H1=>∃ i j:Int,vs=[.int i,.int j]∧(-(2 ^ 62)≤i∧i < 2 ^ 62∧-(2 ^ 62)≤j∧j < 2 ^ 62)∧R (Itr i (j - i).toNat) H1
theorem dg {a:Expr} {ta:TA} {p pos:Pos} (hg:Gl X "range") (hm:X.mg "range" = none) (ha:PA X [a] ta) (hs:starEach [a] X.env=[(false,eval a X.env)]:=by rfl):PI X tg (.Call (.Name "range" p) [a] [] pos) (Ec ta):=by
 intro pins s σ H R I h
 refine Call_ (gQ I hg hm boot_range (PyProof.Rows.callWith_type1 (thn (ha pos pins s σ H _ I h) fun us s1 ⟨vs,H1,I1,r1,q1⟩=>?_) hs rfl))
 obtain ⟨j,e,q1,q2,q⟩:=q1
 subst e
 cases r1 with
 | cons r rr =>
  cases rr
  obtain ⟨t,rfl⟩:=r
  exact call_range_1 (qH I1 (by omega) (by omega) q1 q2 (by simpa using q))
theorem iw {a b:Expr} {ta:TA} {p pos:Pos} (hg:Gl X "range") (hm:X.mg "range" = none) (ha:PA X [a,b] ta) (hs:starEach [a,b] X.env=[(false,eval a X.env),(false,eval b X.env)]:=by rfl) (hs2:starEach [b] X.env=[(false,eval b X.env)]:=by rfl) :
  PI X tg (.Call (.Name "range" p) [a,b] [] pos) (Ed ta):=by
 intro pins s σ H R I h
 refine Call_ (gQ I hg hm boot_range (PyProof.Rows.callWith_type1 (thn (ha pos pins s σ H _ I h) fun us s1 ⟨vs,H1,I1,r1,q1⟩=>?_) (by rw [hs,hs2]) (by rw [hs2]; rfl)))
 obtain ⟨i,j,e,⟨q1,q2,q3,q4⟩,q⟩:=q1
 subst e
 cases r1 with
 | cons r rr =>
  cases rr with
  | cons r' rr =>
   cases rr
   obtain ⟨t,rfl⟩:=r
   obtain ⟨t',rfl⟩:=r'
   exact call_range_2 (qH I1 q1 q2 q3 q4 q)

noncomputable def FN (wi:TI) (g:TG) (tb:TS):TS:=fun D σ H=>wi σ H fun J H1=>∃ W:Nat→Nat→St→Hp→Prop,(∃ m,W 0 m σ H1)∧∀ i m σ H,W i m σ H →
 (J.stop i H∧D.nx σ H)∨(J.go i H∧∃ N:St→Hp→Prop,(∀ σ' H',N σ' H'→∃ m',m' < m∧W (i+1) m' σ' H')∧∀ x H',J.yld i H x H'→g x σ H' fun σ2 H2=>tb { D with nx:=N,ct:=N,bk:=D.nx } σ2 H2)
noncomputable def dD (fp:List Addr) (h:Heap):List (Addr×Obj):=fp.filterMap fun b=>(h.get? b).map fun o=>(b,o)
theorem gB {fp:List Addr} {h:Heap} {b:Addr} {o:Obj} (hb:b∈fp) (e:h.get? b=some o):(b,o)∈dD fp h:=List.mem_filterMap.mpr ⟨b,hb,by rw [e]; rfl⟩
theorem nU {fp:List Addr} {h:Heap} {p:Addr×Obj} (hp:p∈dD fp h):p.1∈fp∧h.get? p.1=some p.2:=by
 obtain ⟨b,hb,e⟩:=List.mem_filterMap.mp hp
 cases q:h.get? b with
 | none=>rw [q] at e; cases e
 | some o =>
  rw [q] at e
  have e':(b,o)=p:=Option.some.inj e
  subst e'
  exact ⟨hb,q⟩
theorem Inv.pinned {pins:List (Addr×Obj)} {σ:St} {H:Hp} {s:Shared} {fp:List Addr} (I:Inv X pins σ H s) (hf:∀ b∈fp,pq X pins H b) (ho:∀ b∈fp,∃ o,s.heap.get? b=some o∧∀ v,o.data≠.cell v):Inv X (pins++dD fp s.heap) σ H s :=
 I.pins_of fun p hp=>(List.mem_append.mp hp).elim (fun z=>I.pin p (List.mem_append_right _ z)) fun z=>by
  obtain ⟨hb,e⟩:=nU z
  obtain ⟨f0,f1,f2,_⟩:=hf p.1 hb
  obtain ⟨o,e',d⟩:=ho p.1 hb
  rw [e] at e'; cases e'
  exact ⟨e,f0,f1,f2,d⟩
theorem Inv.unpinned {pins pl:List (Addr×Obj)} {σ:St} {H:Hp} {s:Shared} (I:Inv X (pins++pl) σ H s):Inv X pins σ H s:=I.pins_of fun p hp=>I.pin p (List.mem_append_right _ (List.mem_append_left _ hp))
theorem dF {iter:Expr} {body:List Stmt} {wi:TI} {g:TG} {tb:TS} {pos:Pos} (hp:PassesOwn (model X.prog X.w) X.A X.env X.xe) (hc:X.calm=true) (hi:PI X tg iter wi) (hg:PG X tg g) (hb:PSs X body tb)
  (hs:∀ x,foldedSetIterable iter X.env x=pure x:=by intro _; rfl):PS X (.For tg iter body [] pos) (FN wi g tb):=by
 intro pins s σ H D I h
 refine wpAny_For (thn (hi pins s σ H _ I h) fun v s1 h1=>thn h1 fun itv s2 h2=>?_) hs
 obtain ⟨it,fp,tn,J,H2,e,I2,T,st2,f2,W,⟨m0,w0⟩,turn⟩:=h2
 subst e
 have stat:∀ {H':Hp},(∀ b∈fp,H' b=none)→∀ b∈fp,pq X pins H' b:=fun hn b hb=>⟨hn b hb,(f2 b hb).2⟩
 refine codeAny_forLoop_any (fun n s'=>∃ i σ' H',Inv X pins σ' H' s'∧tn i s'.heap∧(∀ b∈fp,H' b=none)∧W i n σ' H') ?_ m0 ⟨0,σ,H2,I2,st2,fun b hb=>(f2 b hb).1,w0⟩
 rintro n s3 ⟨i,σ3,H3,I3,st3,fr3,w3⟩
 rcases turn i n σ3 H3 w3 with ⟨stop,qn⟩ | ⟨go,N,hN,step⟩
 ·refine wpAny_passesOwn hp (thn (T.done X rfl rfl rfl hc i pins s3 σ3 H3 X.xe I3 (stat fr3) st3 stop) fun r s4 ⟨hr,I4⟩=>?_)
  subst hr
  exact wpAny_execs_nil ⟨σ3,H3,I4,qn⟩
 ·refine wpAny_passesOwn hp (thn (T.item X rfl rfl rfl hc i pins s3 σ3 H3 X.xe I3 (stat fr3) st3 go) fun r s4 ⟨u,hr,h4⟩=>?_)
  subst hr
  refine wpAny_passesOwn hp (thn h4 fun _ s5 ⟨x,H5,I5,r5,y5,st5,fr5⟩=>?_)
  have I5':=I5.pinned (stat fr5) (T.obj _ _ st5)
  refine wpAny_passesOwn hp (thn (hg _ s5 σ3 H5 x u _ I5' r5 (step x H5 y5)) fun _ s6 ⟨σ6,H6,I6,q6⟩=>?_)
  refine wpAny_passesOwn hp (thn (hb _ s6 σ6 H6 _ I6 q6) fun f s7 q7=>?_)
  have again:∀ {σ7:St} {H7:Hp},Inv X (pins++dD fp s5.heap) σ7 H7 s7→N σ7 H7→∃ m,m < n∧∃ i σ' H',Inv X pins σ' H' s7∧tn i s7.heap∧(∀ b∈fp,H' b=none)∧W i m σ' H':=fun {σ7 H7} I7 n7=>by
   obtain ⟨m',hm,w7⟩:=hN σ7 H7 n7
   refine ⟨m',hm,i+1,σ7,H7,I7.unpinned,T.keep _ _ _ st5 fun b hb o e=>(I7.pin (b,o) (List.mem_append_right _ (List.mem_append_right _ (gB hb e)))).1,fun b hb=>?_,w7⟩
   obtain ⟨o,e,d⟩:=T.obj _ _ st5 b hb
   exact (I7.pin (b,o) (List.mem_append_right _ (List.mem_append_right _ (gB hb e)))).2.1
  cases f with
  | next=>obtain ⟨σ7,H7,I7,n7⟩:=q7; exact again I7 n7
  | cont=>obtain ⟨σ7,H7,I7,n7⟩:=q7; exact again I7 n7
  | brk=>obtain ⟨σ7,H7,I7,q7⟩:=q7; exact ⟨σ7,H7,I7.unpinned,q7⟩
  | ret v=>obtain ⟨x7,σ7,H7,I7,r7,q7⟩:=q7; exact ⟨x7,σ7,H7,I7.unpinned,r7,q7⟩
end

theorem xf {K:PySem.W.Frag} {a:Addr} {xs:List V} {g:TG} {tb:TS} {D:Ends} {σ:St} {H:Hp} (Pv:Nat→St→Hp→Prop) (h0:Pv 0 σ H) (hl:∀ i σ H,i≤xs.length→Pv i σ H→SqL K H a xs)
  (hs:∀ i x σ H,xs[i]?=some x→Pv i σ H→g x σ H fun σ2 H2=>tb { D with nx:=Pv (i+1),ct:=Pv (i+1),bk:=D.nx } σ2 H2) (hd:∀ σ H,Pv xs.length σ H→D.nx σ H) :
  ∃ W:Nat→Nat→St→Hp→Prop,(∃ m,W 0 m σ H)∧∀ i m σ H,W i m σ H →
   ((Itl K a).stop i H∧D.nx σ H)∨((Itl K a).go i H∧∃ N:St→Hp→Prop,(∀ σ' H',N σ' H'→∃ m',m' < m∧W (i+1) m' σ' H')∧∀ x H',(Itl K a).yld i H x H'→g x σ H' fun σ2 H2=>tb { D with nx:=N,ct:=N,bk:=D.nx } σ2 H2):=by
 refine ⟨fun i m σ H=>m=xs.length - i∧i≤xs.length∧Pv i σ H,⟨xs.length,by simp,Nat.zero_le _,h0⟩,?_⟩
 rintro i m σ H ⟨rfl,hi,p⟩
 have q:=hl i σ H hi p
 by_cases hlt:i < xs.length
 ·refine .inr ⟨⟨xs,xs[i],q,by simp [hlt]⟩,Pv (i+1),fun σ' H' p'=>⟨xs.length - (i+1),by omega,rfl,hlt,p'⟩,fun x H' y=>?_⟩
  obtain ⟨e,y⟩:=y
  subst e
  exact hs i x σ _ (y xs q) p
 ·have e:i=xs.length:=by omega
  subst e
  exact .inl ⟨⟨xs,q,Nat.le_refl _⟩,hd σ H p⟩
theorem zP {K:PySem.W.Frag} {a:Addr} {xs:List V} {g:TG} {tb:TS} {D:Ends} {σ:St} {H:Hp} (Pv:Nat→St→Hp→Prop) (h0:Pv 0 σ H) (hl:∀ i σ H,i≤xs.length→Pv i σ H→SqT K H a xs)
  (hs:∀ i x σ H,xs[i]?=some x→Pv i σ H→g x σ H fun σ2 H2=>tb { D with nx:=Pv (i+1),ct:=Pv (i+1),bk:=D.nx } σ2 H2) (hd:∀ σ H,Pv xs.length σ H→D.nx σ H) :
  ∃ W:Nat→Nat→St→Hp→Prop,(∃ m,W 0 m σ H)∧∀ i m σ H,W i m σ H →
   ((Itt K a).stop i H∧D.nx σ H)∨((Itt K a).go i H∧∃ N:St→Hp→Prop,(∀ σ' H',N σ' H'→∃ m',m' < m∧W (i+1) m' σ' H')∧∀ x H',(Itt K a).yld i H x H'→g x σ H' fun σ2 H2=>tb { D with nx:=N,ct:=N,bk:=D.nx } σ2 H2):=by
 refine ⟨fun i m σ H=>m=xs.length - i∧i≤xs.length∧Pv i σ H,⟨xs.length,by simp,Nat.zero_le _,h0⟩,?_⟩
 rintro i m σ H ⟨rfl,hi,p⟩
 have q:=hl i σ H hi p
 by_cases hlt:i < xs.length
 ·refine .inr ⟨⟨xs,xs[i],q,by simp [hlt]⟩,Pv (i+1),fun σ' H' p'=>⟨xs.length - (i+1),by omega,rfl,hlt,p'⟩,fun x H' y=>?_⟩
  obtain ⟨e,y⟩:=y
  subst e
  exact hs i x σ _ (y xs q) p
 ·have e:i=xs.length:=by omega
  subst e
  exact .inl ⟨⟨xs,q,Nat.le_refl _⟩,hd σ H p⟩
theorem cQ {lo:Int} {n:Nat} {g:TG} {tb:TS} {D:Ends} {σ:St} {H:Hp} (Pv:Nat→St→Hp→Prop) (h0:Pv 0 σ H)
  (hs:∀ i σ H,i < n→Pv i σ H→g (.int (lo+i)) σ H fun σ2 H2=>tb { D with nx:=Pv (i+1),ct:=Pv (i+1),bk:=D.nx } σ2 H2) (hd:∀ σ H,Pv n σ H→D.nx σ H) :
  ∃ W:Nat→Nat→St→Hp→Prop,(∃ m,W 0 m σ H)∧∀ i m σ H,W i m σ H →
   ((Itr lo n).stop i H∧D.nx σ H)∨((Itr lo n).go i H∧∃ N:St→Hp→Prop,(∀ σ' H',N σ' H'→∃ m',m' < m∧W (i+1) m' σ' H')∧∀ x H',(Itr lo n).yld i H x H'→g x σ H' fun σ2 H2=>tb { D with nx:=N,ct:=N,bk:=D.nx } σ2 H2):=by
 refine ⟨fun i m σ H=>m=n - i∧i≤n∧Pv i σ H,⟨n,by simp,Nat.zero_le _,h0⟩,?_⟩
 rintro i m σ H ⟨rfl,hi,p⟩
 by_cases hlt:i < n
 ·refine .inr ⟨hlt,Pv (i+1),fun σ' H' p'=>⟨n - (i+1),by omega,rfl,hlt,p'⟩,fun x H' y=>?_⟩
  obtain ⟨e,y⟩:=y
  subst e y
  exact hs i σ _ hlt p
 ·have e:i=n:=by omega
  subst e
  exact .inl ⟨Nat.le_refl _,hd σ H p⟩
end L2

namespace L2
open PySem PySem.Spec PyProof.Rows

noncomputable abbrev R2:=V→V→Hp→VK→Prop
noncomputable def OpR (X:Cx) (f:Value→Value→Sem Value) (r:R2):Prop :=
 ∀ (pins:List (Addr×Obj)) (s:Shared) (σ:St) (H:Hp) (x y:V) (v u:Value) (Q:VK),Inv X pins σ H s→RelV x v→RelV y u→r x y H Q →
  wpAny (model X.prog X.w) X.A (f v u) (EP X pins σ Q) X.xe s
noncomputable def UnR (X:Cx) (f:Value→Sem Value) (r:V→Hp→VK→Prop):Prop :=
 ∀ (pins:List (Addr×Obj)) (s:Shared) (σ:St) (H:Hp) (x:V) (v:Value) (Q:VK),Inv X pins σ H s→RelV x v→r x H Q →
  wpAny (model X.prog X.w) X.A (f v) (EP X pins σ Q) X.xe s
noncomputable def fJ (X:Cx) (f:Value) (r:List V→Hp→VK→Prop):Prop :=
 ∀ (pins:List (Addr×Obj)) (s:Shared) (σ:St) (H:Hp) (xs:List V) (us:List Value) (Q:VK),Inv X pins σ H s→Vals xs us→r xs H Q →
  wpAny (model X.prog X.w) X.A (call f us) (EP X pins σ Q) X.xe s

noncomputable def tOp (r:R2) (ta tb:TE):TE:=fun σ H Q=>ta σ H fun x H1=>tb σ H1 fun y H2=>r x y H2 Q
noncomputable def tUn (r:V→Hp→VK→Prop) (ta:TE):TE:=fun σ H Q=>ta σ H fun x H1=>r x H1 Q
noncomputable def rI (C:Int→Int→Prop) (g:Int→Int→V):R2:=fun x y H Q=>∃ i j,x=.int i∧y=.int j∧C i j∧Q (g i j) H
noncomputable def rI0 (g:Int→Int→V):R2:=fun x y H Q=>∃ i j,x=.int i∧y=.int j∧Q (g i j) H
noncomputable def rU (g:Int→V):V→Hp→VK→Prop:=fun x H Q=>∃ i,x=.int i∧Q (g i) H

section
variable {X:Cx} {a b c:Expr} {ta tb tc:TE} {pos:Pos}

theorem Cu (ha:PE X a ta) (hb:PE X b tb) {pins:List (Addr×Obj)} {s:Shared} {σ:St} {H:Hp} {R:V→V→Hp→Prop} (I:Inv X pins σ H s)
  (h:ta σ H fun x H1=>tb σ H1 fun y H2=>R x y H2) {Q:Value→Shared→Prop} {f:Value→Value→Sem Value}
  (hf:∀ v u s2 x y H2,Inv X pins σ H2 s2→RelV x v→RelV y u→R x y H2→wpAny (model X.prog X.w) X.A (f v u) Q X.xe s2) :
  wpAny (model X.prog X.w) X.A (eval a X.env) (fun v s₁=>wpAny (model X.prog X.w) X.A (eval b X.env) (fun u s₂=>wpAny (model X.prog X.w) X.A (f v u) Q X.xe s₂) X.xe s₁) X.xe s:=by
 refine thn (ha pins s σ H _ I h) fun v s1 ⟨x,H1,I1,r1,q1⟩=>?_
 refine thn (hb pins s1 σ H1 _ I1 q1) fun u s2 ⟨y,H2,I2,r2,q2⟩=>?_
 exact hf v u s2 x y H2 I2 r1 r2 q2

theorem aX {op:Operator} {r:R2} (ho:OpR X (binaryOp op) r) (ha:PE X a ta) (hb:PE X b tb):PE X (.BinOp a op b pos) (tOp r ta tb):=by
 intro pins s σ H Q I h
 exact wpAny_BinOp (Cu ha hb I h fun v u s2 x y H2 I2 rx ry q=>ho pins s2 σ H2 x y v u Q I2 rx ry q)
theorem xg {op:UnaryOp} {r:V→Hp→VK→Prop} (ho:UnR X (unaryOp op) r) (ha:PE X a ta):PE X (.UnaryOp op a pos) (tUn r ta):=by
 intro pins s σ H Q I h
 exact UnaryOp_ (thn (ha pins s σ H _ I h) fun v s1 ⟨x,H1,I1,r1,q1⟩=>ho pins s1 σ H1 x v Q I1 r1 q1)

theorem opI {f:Value→Value→Sem Value} {C:Int→Int→Prop} {g:Int→Int→Int}
  (rule:∀ (i j:Int) (t u:Tok) (s:Shared) (Q:Value→Shared→Prop) (E:Value→Shared→Prop),C i j→Q (.int (g i j) s.toks) { s with toks:=s.toks+1 }→wpAny (model X.prog X.w) X.A (f (.int i t) (.int j u)) Q E s) :
  OpR X f (rI C fun i j=>.int (g i j)):=by
 intro pins s σ H x y v u Q I rx ry h
 obtain ⟨i,j,rfl,rfl,hc,q⟩:=h
 obtain ⟨t,rfl⟩:=rx
 obtain ⟨t',rfl⟩:=ry
 exact rule i j t t' s _ _ hc ⟨.int (g i j),H,I.tok _,⟨_,rfl⟩,q⟩
theorem Ef {f:Value→Value→Sem Value} {g:Int→Int→Int}
  (rule:∀ (i j:Int) (t u:Tok) (s:Shared) (Q:Value→Shared→Prop) (E:Value→Shared→Prop),Q (.int (g i j) s.toks) { s with toks:=s.toks+1 }→wpAny (model X.prog X.w) X.A (f (.int i t) (.int j u)) Q E s) :
  OpR X f (rI0 fun i j=>.int (g i j)):=by
 intro pins s σ H x y v u Q I rx ry h
 obtain ⟨i,j,rfl,rfl,q⟩:=h
 obtain ⟨t,rfl⟩:=rx
 obtain ⟨t',rfl⟩:=ry
 exact rule i j t t' s _ _ ⟨.int (g i j),H,I.tok _,⟨_,rfl⟩,q⟩
theorem zQ {f:Value→Value→Sem Value} {g:Int→Int→Bool}
  (rule:∀ (i j:Int) (t u:Tok) (s:Shared) (Q:Value→Shared→Prop) (E:Value→Shared→Prop),Q (.bool (g i j)) s→wpAny (model X.prog X.w) X.A (f (.int i t) (.int j u)) Q E s) :
  OpR X f (rI0 fun i j=>.bl (g i j)):=by
 intro pins s σ H x y v u Q I rx ry h
 obtain ⟨i,j,rfl,rfl,q⟩:=h
 obtain ⟨t,rfl⟩:=rx
 obtain ⟨t',rfl⟩:=ry
 exact rule i j t t' s _ _ ⟨.bl (g i j),H,I,rfl,q⟩

noncomputable def FP (i j:Int):Prop:=0 < j∧j < 1073741824
noncomputable def xj (i j:Int):Prop:=0≤j∧j≤1000000∧i.natAbs < 2 ^ 64
noncomputable def CMul (i j:Int):Prop:=(-(2 ^ 64) < i∧i < 2 ^ 64)∨(-(2 ^ 64) < j∧j < 2 ^ 64)
theorem CMul.ok {i j:Int} (h:CMul i j):IntMulOk i j:=by
 rcases h with ⟨h1,h2⟩ | ⟨h1,h2⟩
 ·exact .of_left (intBits_le_64 h1 h2)
 ·exact .of_right (intBits_le_64 h1 h2)

theorem bT:OpR X (binaryOp .Add) (rI0 fun i j=>.int (i+j)):=Ef fun _ _ _ _ _ _ _ q=>add_int q
theorem jw:OpR X (binaryOp .Sub) (rI0 fun i j=>.int (i - j)):=Ef fun _ _ _ _ _ _ _ q=>sub_int q
theorem jx:OpR X (binaryOp .Mult) (rI CMul fun i j=>.int (i * j)):=opI fun _ _ _ _ _ _ _ hc q=>mul_int q hc.ok
theorem uw:OpR X (binaryOp .FloorDiv) (rI FP fun i j=>.int (i / j)):=opI fun i j _ _ _ _ _ hc q=>by
 have h1:(0:Int) < j:=hc.1
 have h2:j < 1073741824:=hc.2
 exact floordiv_int (by omega) (by rw [Int.fdiv_eq_ediv_of_nonneg i (by omega)]; exact q) (.inl (PyProof.noPylong_small (by omega)))
theorem gR:OpR X (binaryOp .Mod) (rI (fun _ j=>0 < j) fun i j=>.int (i % j)):=opI fun i j _ _ _ _ _ hc q=>by
 have h1:(0:Int) < j:=hc
 exact mod_int' (by omega) (by rw [Int.fmod_eq_emod_of_nonneg i (by omega)]; exact q)
theorem jy:OpR X (binaryOp .Pow) (rI xj fun i j=>.int (i ^ j.toNat)):=opI fun _ _ _ _ _ _ _ hc q=>pow_int_small hc.1 hc.2.1 hc.2.2 q


theorem unI {f:Value→Sem Value} {g:Int→Int}
  (rule:∀ (i:Int) (t:Tok) (s:Shared) (Q:Value→Shared→Prop) (E:Value→Shared→Prop),Q (.int (g i) s.toks) { s with toks:=s.toks+1 }→wpAny (model X.prog X.w) X.A (f (.int i t)) Q E s) :
  UnR X f (rU fun i=>.int (g i)):=by
 intro pins s σ H x v Q I rx h
 obtain ⟨i,rfl,q⟩:=h
 obtain ⟨t,rfl⟩:=rx
 exact rule i t s _ _ ⟨.int (g i),H,I.tok _,⟨_,rfl⟩,q⟩
theorem tM:UnR X (unaryOp .USub) (rU fun i=>.int (-i)):=unI fun _ _ _ _ _ q=>neg_int q

end

noncomputable def Eg:V→V→Bool
 | .non,.non=>true | .non,.int _=>true | .int _,.non=>true | .non,.bl _=>true | .bl _,.non=>true | .non,.str _=>true | .str _,.non=>true
 | .int _,.int _=>true | .bl _,.bl _=>true | .str _,.str _=>true | .byt _,.byt _=>true
 | .int _,.str _=>true | .str _,.int _=>true | .bl _,.str _=>true | .str _,.bl _=>true
 | _,_=>false
noncomputable def rEq:R2:=fun x y H Q=>Eg x y=true∧Q (.bl (decide (x=y))) H
noncomputable def rNe:R2:=fun x y H Q=>Eg x y=true∧Q (.bl (!decide (x=y))) H

theorem uz {i j:Int}:decide (V.int i=V.int j)=(i == j):=by
 rw [Bool.eq_iff_iff]
 simp
theorem xm {i j:Bool}:decide (V.bl i=V.bl j)=(i == j):=by
 rw [Bool.eq_iff_iff]
 simp
theorem uA {i j:Str}:decide (V.str i=V.str j)=(i == j):=by
 rw [Bool.eq_iff_iff]
 simp
theorem uB {i j:Array UInt8}:decide (V.byt i=V.byt j)=(i.toList == j.toList):=by
 rw [Bool.eq_iff_iff]
 cases i
 cases j
 simp

section
variable {X:Cx} {a b c:Expr} {ta tb tc:TE} {pos:Pos}
theorem bB {pins:List (Addr×Obj)} {σ:St} {H:Hp} {s:Shared} {Q:VK} {k k':Bool} (I:Inv X pins σ H s) (q:Q (.bl k) H) (e:k=k'):EP X pins σ Q (.bool k') s:=by
 subst e
 exact ⟨.bl k,H,I,rfl,q⟩
theorem iJ:OpR X (compareOp .Eq) rEq:=by
 intro pins s σ H x y v u Q I rx ry h
 obtain ⟨hs,q⟩:=h
 cases x with
 | non =>
  cases rx
  cases y with
  | non=>cases ry; exact PySem.EqNone.eq_none_none (bB I q (by simp))
  | bl j=>cases ry; exact PySem.EqNone.eq_none_bool (bB I q (by simp))
  | int j=>obtain ⟨t',rfl⟩:=ry; exact PySem.EqNone.eq_none_int (bB I q (by simp))
  | str j=>obtain ⟨t',rfl⟩:=ry; exact PySem.EqNone.eq_none_str (bB I q (by simp))
  | _=>exact absurd (show false=true from hs) Bool.false_ne_true
 | bl i =>
  cases rx
  cases y with
  | non=>cases ry; exact PySem.EqNone.eq_bool_none (bB I q (by simp))
  | bl j=>cases ry; exact eq_bool (bB I q xm)
  | str j=>obtain ⟨t',rfl⟩:=ry; exact PySem.EqMixed.eq_bool_str (bB I q (by simp))
  | _=>exact absurd (show false=true from hs) Bool.false_ne_true
 | int i =>
  obtain ⟨t,rfl⟩:=rx
  cases y with
  | non=>cases ry; exact PySem.EqNone.eq_int_none (bB I q (by simp))
  | int j=>obtain ⟨t',rfl⟩:=ry; exact eq_int (bB I q uz)
  | str j=>obtain ⟨t',rfl⟩:=ry; exact PySem.EqMixed.eq_int_str (bB I q (by simp))
  | _=>exact absurd (show false=true from hs) Bool.false_ne_true
 | str i =>
  obtain ⟨t,rfl⟩:=rx
  cases y with
  | non=>cases ry; exact PySem.EqNone.eq_str_none (bB I q (by simp))
  | bl j=>cases ry; exact PySem.EqMixed.eq_str_bool (bB I q (by simp))
  | int j=>obtain ⟨t',rfl⟩:=ry; exact PySem.EqMixed.eq_str_int (bB I q (by simp))
  | str j=>obtain ⟨t',rfl⟩:=ry; exact eq_str (bB I q uA)
  | _=>exact absurd (show false=true from hs) Bool.false_ne_true
 | byt i =>
  obtain ⟨t,rfl⟩:=rx
  cases y with
  | byt j=>obtain ⟨t',rfl⟩:=ry; exact PySem.W.eq_bytes (bB I q uB)
  | _=>exact absurd (show false=true from hs) Bool.false_ne_true
 | _=>cases y <;> exact absurd (show false=true from hs) Bool.false_ne_true
theorem nW:OpR X (compareOp .NotEq) rNe:=by
 intro pins s σ H x y v u Q I rx ry h
 obtain ⟨hs,q⟩:=h
 cases x with
 | non =>
  cases rx
  cases y with
  | non=>cases ry; exact PySem.EqNone.ne_none_none (bB I q (by simp))
  | bl j=>cases ry; exact PySem.EqNone.ne_none_bool (bB I q (by simp))
  | int j=>obtain ⟨t',rfl⟩:=ry; exact PySem.EqNone.ne_none_int (bB I q (by simp))
  | str j=>obtain ⟨t',rfl⟩:=ry; exact PySem.EqNone.ne_none_str (bB I q (by simp))
  | _=>exact absurd (show false=true from hs) Bool.false_ne_true
 | bl i =>
  cases rx
  cases y with
  | non=>cases ry; exact PySem.EqNone.ne_bool_none (bB I q (by simp))
  | bl j=>cases ry; exact ne_bool (bB I q (congrArg not xm))
  | str j=>obtain ⟨t',rfl⟩:=ry; exact PySem.EqMixed.ne_bool_str (bB I q (by simp))
  | _=>exact absurd (show false=true from hs) Bool.false_ne_true
 | int i =>
  obtain ⟨t,rfl⟩:=rx
  cases y with
  | non=>cases ry; exact PySem.EqNone.ne_int_none (bB I q (by simp))
  | int j=>obtain ⟨t',rfl⟩:=ry; exact ne_int (bB I q (congrArg not uz))
  | str j=>obtain ⟨t',rfl⟩:=ry; exact PySem.EqMixed.ne_int_str (bB I q (by simp))
  | _=>exact absurd (show false=true from hs) Bool.false_ne_true
 | str i =>
  obtain ⟨t,rfl⟩:=rx
  cases y with
  | non=>cases ry; exact PySem.EqNone.ne_str_none (bB I q (by simp))
  | bl j=>cases ry; exact PySem.EqMixed.ne_str_bool (bB I q (by simp))
  | int j=>obtain ⟨t',rfl⟩:=ry; exact PySem.EqMixed.ne_str_int (bB I q (by simp))
  | str j=>obtain ⟨t',rfl⟩:=ry; exact ne_str (bB I q (congrArg not uA))
  | _=>exact absurd (show false=true from hs) Bool.false_ne_true
 | byt i =>
  obtain ⟨t,rfl⟩:=rx
  cases y with
  | byt j=>obtain ⟨t',rfl⟩:=ry; exact PySem.W.ne_bytes (bB I q (congrArg not uB))
  | _=>exact absurd (show false=true from hs) Bool.false_ne_true
 | _=>cases y <;> exact absurd (show false=true from hs) Bool.false_ne_true

theorem lB:OpR X (compareOp .Lt) (rI0 fun i j=>.bl (decide (i < j))):=zQ fun _ _ _ _ _ _ _ q=>lt_int q
theorem bH:OpR X (compareOp .LtE) (rI0 fun i j=>.bl (decide (i≤j))):=zQ fun _ _ _ _ _ _ _ q=>le_int q
theorem lC:OpR X (compareOp .Gt) (rI0 fun i j=>.bl (decide (j < i))):=zQ fun _ _ _ _ _ _ _ q=>gt_int q
theorem xn:OpR X (compareOp .GtE) (rI0 fun i j=>.bl (decide (j≤i))):=zQ fun _ _ _ _ _ _ _ q=>ge_int q

theorem tQ:OpR X (compareOp .Is) (fun x y H Q=>y=.non∧Q (.bl (decide (x=.non))) H):=by
 intro pins s σ H x y v u Q I rx ry h
 obtain ⟨rfl,q⟩:=h
 cases ry
 refine is_none_gen (bB I q ?_)
 cases x <;> first
  | (cases rx; rfl)
  | (obtain ⟨t,rfl⟩:=rx; rfl)



theorem bj (b:Expr) {op:CmpOp} (h:op≠.In:=by decide) (h2:op≠.NotIn:=by decide):behindInMarks op b=false:=by
 have e1:(op == CmpOp.In)=false:=by cases op <;> first | rfl | exact absurd rfl h
 have e2:(op == CmpOp.NotIn)=false:=by cases op <;> first | rfl | exact absurd rfl h2
 cases b <;> simp [behindInMarks,e1,e2]
theorem eZ {op:CmpOp} {r:R2} (ho:OpR X (compareOp op) r) (ha:PE X a ta) (hb:PE X b tb) (hm:behindInMarks op b=false):PE X (.Compare a [op] [b] pos) (tOp r ta tb):=by
 intro pins s σ H Q I h
 exact wpAny_Compare1 (Cu ha hb I h fun v u s2 x y H2 I2 rx ry q=>ho pins s2 σ H2 x y v u Q I2 rx ry q) hm
noncomputable def xq (t:TE):TT:=fun σ H Q=>t σ H fun x H'=>∃ k,x=.bl k∧Q k H'
theorem bD {op:CmpOp} {r:R2} (ho:OpR X (compareOp op) r) (ha:PE X a ta) (hb:PE X b tb) (hm:behindInMarks op b=false):PT X (.Compare a [op] [b] pos) (xq (tOp r ta tb)):=by
 intro pins s σ H Q I h
 refine wpAny_isTrue_Compare1 (thn (ha pins s σ H _ I h) fun v s1 ⟨x,H1,I1,r1,q1⟩=>thn (hb pins s1 σ H1 _ I1 q1) fun u s2 ⟨y,H2,I2,r2,q2⟩ =>
  thn (ho pins s2 σ H2 x y v u _ I2 r1 r2 q2) fun c s3 ⟨z,H3,I3,r3,k,e,q3⟩=>?_) hm
 subst e
 cases r3
 exact wpAny_truthy_bool ⟨H3,I3,q3⟩
noncomputable def tR (r r':R2) (ta tb tc:TE):TE:=fun σ H Q=>ta σ H fun x H1=>tb σ H1 fun y H2=>r x y H2 fun z H3=>∃ k,z=.bl k ∧
 (if k=true then tc σ H3 fun w' H4=>r' y w' H4 Q else Q (.bl false) H3)
theorem cC {op op':CmpOp} {r r':R2} (ho:OpR X (compareOp op) r) (ho':OpR X (compareOp op') r') (ha:PE X a ta) (hb:PE X b tb) (hc:PE X c tc)
  (hm:lastMarks [op,op'] [b,c]=false:=by with_unfolding_all rfl):PE X (.Compare a [op,op'] [b,c] pos) (tR r r' ta tb tc):=by
 intro pins s σ H Q I h
 refine Compare_chain (thn (ha pins s σ H _ I h) fun v s1 ⟨x,H1,I1,r1,q1⟩=>chain_link (thn (hb pins s1 σ H1 _ I1 q1) fun u s2 ⟨y,H2,I2,r2,q2⟩ =>
  thn (ho pins s2 σ H2 x y v u _ I2 r1 r2 q2) fun d s3 ⟨z,H3,I3,r3,k,e,q3⟩=>?_)) hm
 subst e
 cases r3
 refine wpAny_truthy_bool ?_
 cases k with
 | false=>exact ite_ff ⟨.bl false,H3,I3,rfl,q3⟩
 | true=>exact ite_tt (chain_last (thn (hc pins s3 σ H3 _ I3 q3) fun w' s4 ⟨z',H4,I4,r4,q4⟩=>ho' pins s4 σ H4 y z' u w' Q I4 r2 r4 q4))
theorem dZ {op op':CmpOp} {r r':R2} (ho:OpR X (compareOp op) r) (ho':OpR X (compareOp op') r') (ha:PE X a ta) (hb:PE X b tb) (hc:PE X c tc)
  (hm:lastMarks [op,op'] [b,c]=false:=by with_unfolding_all rfl):PT X (.Compare a [op,op'] [b,c] pos) (xq (tR r r' ta tb tc)):=by
 intro pins s σ H Q I h
 refine isTrue_chain (thn (ha pins s σ H _ I h) fun v s1 ⟨x,H1,I1,r1,q1⟩=>test_link (thn (hb pins s1 σ H1 _ I1 q1) fun u s2 ⟨y,H2,I2,r2,q2⟩ =>
  thn (ho pins s2 σ H2 x y v u _ I2 r1 r2 q2) fun d s3 ⟨z,H3,I3,r3,k,e,q3⟩=>?_)) hm
 subst e
 cases r3
 refine wpAny_truthy_bool ?_
 cases k with
 | false =>
  obtain ⟨k',e',q'⟩:=q3
  cases e'
  exact ite_ff ⟨H3,I3,q'⟩
 | true =>
  refine ite_tt (test_last (thn (hc pins s3 σ H3 _ I3 q3) fun w' s4 ⟨z',H4,I4,r4,q4⟩=>thn (ho' pins s4 σ H4 y z' u w' _ I4 r2 r4 q4) fun d' s5 ⟨z2,H5,I5,r5,k2,e2,q5⟩=>?_))
  subst e2
  cases r5
  exact wpAny_truthy_bool ⟨H5,I5,q5⟩

theorem jz:(sizeLine:Nat) < 2 ^ 63:=by rw [sizeLine_eq]; decide



theorem vals1 {x:V} {us:List Value} (r:Vals [x] us):∃ u,us=[u]∧RelV x u:=by
 cases r with
 | cons r1 r2=>cases r2; exact ⟨_,rfl,r1⟩
theorem vals2 {x y:V} {us:List Value} (r:Vals [x,y] us):∃ u w',us=[u,w']∧RelV x u∧RelV y w':=by
 cases r with
 | cons r1 r2 =>
  cases r2 with
  | cons r3 r4=>cases r4; exact ⟨_,_,rfl,r1,r3⟩
theorem nY (hc:X.calm=true):fJ X (.builtin "max") (fun xs H Q=>∃ i j,xs=[.int i,.int j]∧Q (.int (if j > i then j else i)) H):=by
 intro pins s σ H xs us Q I r h
 obtain ⟨i,j,rfl,q⟩:=h
 obtain ⟨u,w',rfl,⟨t,rfl⟩,⟨t',rfl⟩⟩:=vals2 r
 refine max_two_ints (I.ok.hd hc) fun h' tk k=>⟨_,H,I.kept k,?_,q⟩
 by_cases hj:j > i
 ·rw [if_pos hj,if_pos hj]; exact ⟨_,rfl⟩
 ·rw [if_neg hj,if_neg hj]; exact ⟨_,rfl⟩
theorem jA (hc:X.calm=true):fJ X (.builtin "min") (fun xs H Q=>∃ i j,xs=[.int i,.int j]∧Q (.int (if j < i then j else i)) H):=by
 intro pins s σ H xs us Q I r h
 obtain ⟨i,j,rfl,q⟩:=h
 obtain ⟨u,w',rfl,⟨t,rfl⟩,⟨t',rfl⟩⟩:=vals2 r
 refine min_two_ints (I.ok.hd hc) fun h' tk k=>⟨_,H,I.kept k,?_,q⟩
 by_cases hj:j < i
 ·rw [if_pos hj,if_pos hj]; exact ⟨_,rfl⟩
 ·rw [if_neg hj,if_neg hj]; exact ⟨_,rfl⟩
theorem vN:fJ X (.type "int") (fun xs H Q=>(∃ i,xs=[.int i]∧Q (.int i) H)∨∃ k,xs=[.bl k]∧Q (.int (if k then 1 else 0)) H):=by
 intro pins s σ H xs us Q I r h
 rcases h with ⟨i,rfl,q⟩ | ⟨k,rfl,q⟩
 ·obtain ⟨u,rfl,t,rfl⟩:=vals1 r
  exact call_int_int ⟨.int i,H,I,⟨_,rfl⟩,q⟩
 ·obtain ⟨u,rfl,r1⟩:=vals1 r
  cases r1
  exact call_int_bool ⟨.int (if k then 1 else 0),H,I.tok _,⟨_,rfl⟩,q⟩
end
end L2

namespace L2
open PySem PySem.Spec PyProof.Rows

structure ObjM (h:Heap) (x dx C:Addr) (mA:Str→Option Value):Prop where
 obj:h.get? x=some (PySem.W.instObj C dx)
 ns:h.Ns1 dx mA
 ne:dx≠x

theorem vO {h:Heap} {dx:Addr} {mA:Str→Option Value} (n:h.Ns1 dx mA):∃ od,h.get? dx=some od∧∀ name,PySem.W.lookIn name od=some (mA name):=by
 obtain ⟨o,es,ep,ho,hd,hk,_,hm⟩:=n
 refine ⟨o,ho,fun name=>?_⟩
 have e:=hm name
 unfold nsFind findBy at e
 rw [← Array.find?_toList] at e
 unfold PySem.W.lookIn
 rw [hd]
 dsimp only
 split
 ·rename_i y q
  rw [q] at e
  exact congrArg some e
 ·rename_i q
  rw [q] at e
  have a:es.toList.any (·.refKey)=false:=by
   rw [List.any_eq_false]
   intro y hy
   obtain ⟨z,t,hkey⟩:=hk y (Array.mem_toList_iff.mp hy)
   simp [DictEntry.refKey,hkey]
  have a':¬ es.toList.any (·.refKey)=true:=by rw [a]; exact Bool.false_ne_true
  rw [if_neg a']
  exact congrArg some e

theorem ObjM.look {h:Heap} {x dx C:Addr} {mA:Str→Option Value} (I:ObjM h x dx C mA):∃ od,PySem.W.InstAt h x (PySem.W.instObj C dx) C (some od)∧∀ name,PySem.W.lookIn name od=some (mA name) :=
 let ⟨od,ho,hl⟩:=vO I.ns
 ⟨od,⟨I.obj,rfl,rfl,ho⟩,hl⟩

section
variable {prog:Program} {w:World} {A:Around} {E:Value→Shared→Prop} {s:Shared} {K:PySem.W.Frag} {x dx C f:Addr} {mA:Str→Option Value} {name:Str} {v:Value}





end


theorem RelO.some_of {v:V} {o:Option Value} (r:RelO (some v) o):∃ u,o=some u∧RelV v u:=by
 cases o with
 | none=>exact (show False from r).elim
 | some u=>exact ⟨u,rfl,r⟩

section
variable {P:Program} {w:World} {H H':Hp} {h h':Heap} {a C dx:Addr} {fs fs':List (Str×V)}
theorem zR (hok:HOk P w H h) (e:H a=some (.ins C dx fs)):∃ mA,ObjM h a dx C mA∧(∀ f,RelO (fs.lookup f) (mA f))∧PySem.Within mA (fs.map (·.1))∧fs.length≤1000∧H dx=some (.own a):=by
 obtain ⟨d,z,ne,ob,mA,n,r,q⟩:=(show ObjOk P w H h a (.ins C dx fs) from hok a _ e)
 exact ⟨mA,⟨ob,n,ne⟩,r,q,z,d⟩
end

structure Cls (K:PySem.W.Frag) (C:Addr):Prop where
 pg:PySem.W.plainGet K C Str.empty=true
 hd:PySem.W.hasDictIn K C=true
 po:PySem.W.plainOver K C=true
 sa:PySem.W.findIn K (.ref C) "__setattr__" = some (some (.builtin "object.__setattr__"))
theorem Cls.get {K:PySem.W.Frag} {C:Addr} (c:Cls K C) (f:Str):PySem.W.plainGet K C f=true:=c.pg

section
variable {X:Cx} {pins:List (Addr×Obj)} {σ:St} {H:Hp} {s:Shared} {a C dx:Addr} {fs:List (Str×V)} {f:Str} {v:V} {A:Around} {E:Value→Shared→Prop}






end


section
variable {X:Cx} {o e value:Expr} {f:Str} {pos pos' tpos:Pos} {ta tv:TE}

end

section
variable {X:Cx} {pins:List (Addr×Obj)} {σ:St} {H:Hp} {s:Shared} {A:Around} {E:Value→Shared→Prop} {Q:Value→Shared→Prop} {c:Value} {b:Bool}
inductive TyOf (K:PySem.W.Frag) (H:Hp):V→Value→Prop where
 | non:TyOf K H .non (.type "NoneType")
 | bl (x:Bool):TyOf K H (.bl x) (.type "bool")
 | int (i:Int):TyOf K H (.int i) (.type "int")
 | str (x:Str):TyOf K H (.str x) (.type "str")
 | flt (x:UInt64):TyOf K H (.flt x) (.type "float")
 | lst {a:Addr} {xs:List V} (e:H a=some (.lst xs)):TyOf K H (.ref a) (.type "list")
 | frz {a:Addr} {o:Obj} {xs:List V} (e:H a=some (.frz o (.lst xs))):TyOf K H (.ref a) (.type "list")
 | tup {a:Addr} {xs:List V} (e:H a=some (.tup xs)):TyOf K H (.ref a) (.type "tuple")
 | dK {a:Addr} {kvs:List (Key×V)} (e:H a=some (.dK kvs)):TyOf K H (.ref a) (.type "dict")
 | dT {a:Addr} {kvs:List (List Key×V)} (e:H a=some (.dT kvs)):TyOf K H (.ref a) (.type "dict")
 | ins {a C dx:Addr} {fs:List (Str×V)} (e:H a=some (.ins C dx fs)) (cl:Cls K C) (ha:PySem.W.findIn K (.ref C) "__class__" = some (some (.builtin "object.__class__")))
   (hn:PySem.W.specialIn K (.builtin "object.__class__") "__get__" = some (some (.builtin "getset_descriptor.__get__"))) (htk:PySem.W.takesIn K (.builtin "object.__class__")=some true)
   (hm:PySem.W.mroIn K C (.type "object")=some true):TyOf K H (.ref a) (.ref C)
theorem vP {x:V} {u t:Value} (I:Inv X pins σ H s) (rx:RelV x u) (ty:TyOf X.K H x t) (e:PySem.W.kitOne X.K t c=some b) (h:∀ tk,Q (.bool b) { s with toks:=tk }) :
  wpAny (model X.prog X.w) A (call (.builtin "isinstance") [u,c]) Q E s:=by
 cases ty with
 | non=>cases (show u=Value.none from rx); exact PySem.W.kia_one PySem.W.kitx_none I.kIn True.intro e (fun z=>nomatch z) h
 | bl y=>cases (show u=Value.bool y from rx); exact PySem.W.kia_one PySem.W.kitx_bool I.kIn True.intro e (fun z=>nomatch z) h
 | int i=>obtain ⟨t,q⟩:=(show ∃ t,u=Value.int i t from rx); cases q; exact PySem.W.kia_one PySem.W.kitx_int I.kIn True.intro e (fun z=>nomatch z) h
 | str y=>obtain ⟨t,q⟩:=(show ∃ t,u=Value.str y t from rx); cases q; exact PySem.W.kia_one PySem.W.kitx_str I.kIn True.intro e (fun z=>nomatch z) h
 | flt y=>obtain ⟨t,q⟩:=(show ∃ t,u=Value.float y t from rx); cases q; exact PySem.W.kia_one PySem.W.kitx_float I.kIn True.intro e (fun z=>nomatch z) h
 | @lst a xs ea =>
  cases (show u=Value.ref a from rx)
  obtain ⟨_,_,n,_,h1⟩:=(show ObjOk X.prog X.w H s.heap a (.lst xs) from I.hok a _ ea)
  exact PySem.W.kia_one PySem.W.kitx_list I.kIn ⟨_,h1,rfl⟩ e (fun z=>nomatch z) h
 | @frz a ob xs ea =>
  cases (show u=Value.ref a from rx)
  obtain ⟨_,_,_,n,_,h1⟩:=(show ObjOk X.prog X.w H s.heap a (.frz ob (.lst xs)) from I.hok a _ ea)
  exact PySem.W.kia_one PySem.W.kitx_list I.kIn ⟨_,h1,rfl⟩ e (fun z=>nomatch z) h
 | @tup a xs ea =>
  cases (show u=Value.ref a from rx)
  obtain ⟨_,_,_,p⟩:=(show ObjOk X.prog X.w H s.heap a (.tup xs) from I.hok a _ ea)
  obtain ⟨o,h1,h2,_⟩:=p
  exact PySem.W.kia_one PySem.W.kitx_tuple I.kIn ⟨o,h1,h2⟩ e (fun z=>nomatch z) h
 | @dK a kvs ea =>
  cases (show u=Value.ref a from rx)
  obtain ⟨_,_,vs,_,p⟩:=(show ObjOk X.prog X.w H s.heap a (.dK kvs) from I.hok a _ ea)
  obtain ⟨o,es,ep,h1,h2,_⟩:=p
  exact PySem.W.kia_one PySem.W.kitx_dict I.kIn ⟨o,h1,h2.1⟩ e (fun z=>nomatch z) h
 | @dT a kvs ea =>
  cases (show u=Value.ref a from rx)
  obtain ⟨_,_,xs,_,o,es,ep,h1,h2,_⟩:=(show ObjOk X.prog X.w H s.heap a (.dT kvs) from I.hok a _ ea)
  exact PySem.W.kia_one PySem.W.kitx_dict I.kIn ⟨o,h1,h2.1⟩ e (fun z=>nomatch z) h
 | @ins a C dx fs ea cl ha hn htk hm =>
  cases (show u=Value.ref a from rx)
  obtain ⟨mA,O,_⟩:=zR I.hok ea
  obtain ⟨od,J,_⟩:=O.look
  exact PySem.W.kia_one (PySem.W.kitx_own (cl.get _) cl.hd ha hn htk hm) I.kIn J e (fun z=>nomatch z) h
end
end L2

namespace L2
open PySem PySem.Spec PyProof.Rows

structure Room (k:Nat) (A:Around):Prop where
 hd:A.handled=none
 dp:A.depth+3 * k+5 < recursionLimit
 un:A.units+16 * k+200 < cLine
 gd:A.guards=some []
theorem Room.mono {j k:Nat} {A:Around} (r:Room k A) (h:j≤k):Room j A:=⟨r.hd,by have:=r.dp; omega,by have:=r.un; omega,r.gd⟩
theorem Room.deeper {k:Nat} {A:Around} (r:Room (k+1) A) (env:Env):Room k (A.deeper env) :=
 ⟨r.hd,by have:=r.dp; show A.depth+1+3 * k+5 < _; omega,by have:=r.un; show A.units+3+16 * k+200 < _; omega,r.gd⟩
theorem Room.depth {k:Nat} {A:Around} (r:Room k A):A.depth < recursionLimit:=by have:=r.dp; omega
theorem Room.units {k:Nat} {A:Around} (r:Room k A):A.units+64 < cLine:=by have:=r.un; omega

noncomputable def lD:TA:=fun _ H Q=>Q [] H
noncomputable def dG (ta:TE) (tr:TA):TA:=fun σ H Q=>ta σ H fun x H1=>tr σ H1 fun xs H2=>Q (x :: xs) H2
section
variable {X:Cx} {e:Expr} {es:List Expr} {te:TE} {t:TA} {pos:Pos}
theorem aj:PA X [] lD:=fun _ _ _ _ H Q I h=>Calls.spliced_nil ⟨[],H,I,.nil,h⟩
theorem aM (ha:PE X e te) (hr:PA X es t) (hs:starEach (e :: es) X.env=(false,eval e X.env) :: starEach es X.env:=by rfl):PA X (e :: es) (dG te t):=by
 intro pos pins s σ H Q I h
 rw [hs]
 show wpAny _ _ (spliced ((false,eval e X.env) :: backTo pos (starEach es X.env))) _ _ s
 refine Calls.spliced_cons (thn (ha pins s σ H _ I h) fun u s1 ⟨x,H1,I1,r1,q1⟩=>?_)
 exact thn (hr pos pins s1 σ H1 _ I1 q1) fun us s2 ⟨xs,H2,I2,r2,q2⟩=>⟨x :: xs,H2,I2,.cons r1 r2,q2⟩

noncomputable def mV (t:TA):TE:=fun σ H Q=>t σ H fun xs H1=>xs.length≤sizeLine∧∀ p,H1 p=none→Q (.ref p) (upd H1 p (.tup xs))
noncomputable def zT (t:TA):TE:=fun σ H Q=>t σ H fun xs H1=>xs.length≤sizeLine∧∀ p,H1 p=none→Q (.ref p) (upd H1 p (.lst xs))
theorem bW {x1} (h:PA X es t):PE X (.Tuple es x1 pos) (mV t):=by
 intro pins s σ H Q I hq
 refine wpAny_Tuple_spliced (thn (h pos pins s σ H _ I hq) fun us s1 ⟨xs,H1,I1,r,z,q⟩=>⟨by rw [← r.length]; exact z,?_⟩)
 have hf:H1 s1.heap.objs.size=none:=I1.hok.fresh (Nat.le_refl _)
 refine ⟨.ref s1.heap.objs.size,upd H1 s1.heap.objs.size (.tup xs),I1.laid (t':=s1.toks) (fun b u e=>Heap.get?_push_of_some _ e) (Nat.le_refl _) ?_,rfl,q _ hf⟩
 exact ⟨z,us,r,⟨_,Heap.get?_push_size _ rfl,rfl,_,rfl⟩⟩
theorem eQ (h:PA X es t):PE X (.List es pos) (zT t):=by
 intro pins s σ H Q I hq
 refine wpAny_List_spliced (thn (h pos pins s σ H _ I hq) fun us s1 ⟨xs,H1,I1,r,z,q⟩=>⟨by rw [← r.length]; exact z,?_⟩)
 have hf:H1 s1.heap.objs.size=none:=I1.hok.fresh (Nat.le_refl _)
 refine ⟨.ref s1.heap.objs.size,upd H1 s1.heap.objs.size (.lst xs),I1.laid (t':=s1.toks) (fun b u e=>Heap.get?_push_of_some _ e) (Nat.le_refl _) ?_,rfl,q _ hf⟩
 exact ⟨z,us,0,r,Heap.get?_push_size _ rfl⟩
end

noncomputable abbrev Sp:=List V→Hp→VK→XK→Prop
noncomputable abbrev CXT:=List Env→Hp→Shared→XK→Value→Shared→Prop

structure Env0 (P:Program) (w:World) (K:PySem.W.Frag) (mg:Str→Option Value) (base:Heap) (A:Around) (outer:List Env) (s:Shared) (H:Hp):Prop where
 frames:A.frames=some outer
 mod:Mod K mg base
 bs:∀ b o,base.get? b=some o→s.heap.get? b=some o∧H b=none
 bsz:base.objs.size≤s.heap.objs.size
 funs:s.heap.FunFrames base outer
 frf:∀ b∈frs outer,H b=none
 hok:HOk P w H s.heap
 bare:AllBare s.gens
noncomputable def CE (outer:List Env) (P:Program) (w:World) (H:Hp) (s:Shared) (Q:VK) (u:Value) (s':Shared):Prop :=
 ∃ v H',s'.os=s.os∧AllBare s'.gens∧Un (frs outer) [] H H' s.heap s'.heap∧HOk P w H' s'.heap∧RelV v u∧Q v H'
noncomputable def CR (CX:CXT) (outer:List Env) (P:Program) (w:World) (H:Hp) (s:Shared) (Q:VK) (E:XK) (r:Result) (s':Shared):Prop :=
 match r with
 | .ok (.ret u)=>CE outer P w H s Q u s'
 | .ok _=>False
 | .error e=>CX outer H s E e s'
structure FnOk (P:Program) (w:World) (K:PySem.W.Frag) (mg:Str→Option Value) (base:Heap) (CX:CXT) (k:Nat) (f:Addr) (fd:FuncData) (ps:List Str) (sp:Sp):Prop where
 len:∀ vs H Q E,sp vs H Q E→vs.length=ps.length
 run:∀ (A:Around) (outer:List Env) (s:Shared) (H:Hp) (args:Args) (us:List Value) (vs:List V) (Q:VK) (E:XK),Room k A→Env0 P w K mg base A outer s H→BindsTo s fd args (ps.zip us)→Vals vs us→sp vs H Q E →
  codeAny (model P w) A (.call (.ref f) args) (CR CX outer P w H s Q E) s
theorem FnOk.imp {P:Program} {w:World} {K:PySem.W.Frag} {mg:Str→Option Value} {base:Heap} {CX:CXT} {k:Nat} {f:Addr} {fd:FuncData} {ps:List Str} {sp sp':Sp} (F:FnOk P w K mg base CX k f fd ps sp)
  (h:∀ vs H Q E,sp' vs H Q E→sp vs H Q E):FnOk P w K mg base CX k f fd ps sp' :=
 ⟨fun vs H Q E q=>F.len vs H Q E (h _ _ _ _ q),fun A outer s H args us vs Q E hr he hb hv hs=>F.run A outer s H args us vs Q E hr he hb hv (h _ _ _ _ hs)⟩


section
variable {X:Cx} {pins:List (Addr×Obj)} {σ:St} {H:Hp} {s s':Shared}
theorem Inv.env0 (I:Inv X pins σ H s):Env0 X.prog X.w X.K X.mg X.base X.A X.stack s H :=
 ⟨I.ok.frames,I.ok.mod,I.bs,Nat.le_trans I.ok.bsz I.sz,I.stack,I.stkFree,I.hok,I.bare⟩
theorem Inv.after {Q:VK} {u:Value} (I:Inv X pins σ H s) (h:CE X.stack X.prog X.w H s Q u s'):EP X pins σ Q u s':=by
 obtain ⟨v,H',os,bare,un,hok,r,q⟩:=h
 obtain ⟨hh,g,d,t,os'⟩:=s'
 obtain rfl:os'=s.os:=os
 exact ⟨v,H',I.call (h':=hh) (g':=g) (d':=d) (t':=t) (ch:=[]) un hok bare (fun b z=>absurd z (by simp)),r,q⟩
end

noncomputable def qI (sp:Sp) (dvs:List V) (E:XK) (t:TA):TE:=fun σ H Q=>t σ H fun vs H1=>sp (vs++dvs) H1 Q E

noncomputable def Binds (K:PySem.W.Frag) (fd:FuncData) (ps:List Str) (ds:List Value):Prop :=
 ∀ (s:Shared) (us:List Value),K.In s.heap→(us++ds).length=ps.length→BindsTo s fd ⟨us,[]⟩ (ps.zip (us++ds))
theorem Binds.all {K:PySem.W.Frag} {fd:FuncData} {ps:List Str} (h:∀ us:List Value,us.length=ps.length→bindArgs fd ⟨us,[]⟩=pure (ps.zip us)):Binds K fd ps []:=fun s us _ hl=>by
 rw [List.append_nil] at hl ⊢
 exact .of_eq (h us hl)

noncomputable def pA (CX:CXT) (X:Cx) (E:XK):Prop:=∀ (pins:List (Addr×Obj)) (σ:St) (H:Hp) (s:Shared) (e:Value) (s':Shared),Inv X pins σ H s→CX X.stack H s E e s'→X.xe e s'

section
variable {X:Cx} {CX:CXT} {k:Nat} {f C:Addr} {fd:FuncData} {ps:List Str} {sp:Sp} {dvs:List V} {ds:List Value} {E:XK} {x m:Str} {p pos apos:Pos} {e o:Expr} {es:List Expr} {ta:TE} {t:TA}

theorem Cv {pins:List (Addr×Obj)} {σ:St} {H:Hp} {s:Shared} {Q:VK} {us:List Value} {vs:List V} (F:FnOk X.prog X.w X.K X.mg X.base CX k f fd ps sp) (hr:Room k X.A) (hb:Binds X.K fd ps ds) (hd:Vals dvs ds) (hx:pA CX X E)
  (I:Inv X pins σ H s) (r:Vals vs us) (h:sp (vs++dvs) H Q E):wpAny (model X.prog X.w) X.A (call (.ref f) us) (EP X pins σ Q) X.xe s:=by
 have r2:Vals (vs++dvs) (us++ds):=r.append hd
 have hl:(us++ds).length=ps.length:=by rw [← r2.length]; exact F.len _ _ _ _ h
 refine wpAny_call (codeAny_mono (F.run X.A X.stack s H ⟨us,[]⟩ (us++ds) (vs++dvs) Q E hr I.env0 (hb s us I.kIn hl) r2 h) fun r s' hq=>?_)
 cases r with
 | error e=>exact hx pins σ H s e s' I hq
 | ok fl =>
  cases fl with
  | ret u=>exact I.after hq
  | next=>exact False.elim hq
  | brk=>exact False.elim hq
  | cont=>exact False.elim hq

theorem uC (F:FnOk X.prog X.w X.K X.mg X.base CX k f fd ps sp) (hr:Room k X.A) (hg:Gl X x) (hm:X.mg x=some (.ref f)) (hk:PySem.W.keepIn X.K (.ref f)=true) (hb:Binds X.K fd ps ds) (hd:Vals dvs ds) (hx:pA CX X E)
  (ha:PA X (e :: es) t) (hdb:(x == ("__debug__" : Str))=false:=by decide) (he:starEach (e :: es) X.env=(false,eval e X.env) :: starEach es X.env:=by rfl) (hpl:(backTo pos (starEach es X.env)).any (·.1)=false:=by rfl) :
  PE X (.Call (.Name x p) (e :: es) [] pos) (qI sp dvs E t):=by
 intro pins s σ H Q I h
 refine wpAny_Call_Name_kw (iu I hg hm ?_ hdb)
 refine PySem.W.callWith_K (h₀:=X.base) I.ok.mod.kin hk (thn (ha pos pins s σ H _ I h) fun us s1 ⟨vs,H1,I1,r,q⟩=>⟨I1.kIn,?_⟩) he hpl
 exact Cv F hr hb hd hx I1 r q



end

section
variable {X:Cx} {CX:CXT} {k:Nat} {f C:Addr} {fd:FuncData} {ps ks:List Str} {sp:Sp} {E:XK} {x m:Str} {p pos apos kpos:Pos} {e o:Expr} {es:List Expr} {kws:List Keyword} {te ta:TE} {t tk:TA} {nm:Option Str}

variable {g:List Value→List Value→List Value} {gV:List V→List V→List V}
end

structure FnScope (N P:List Str) (sc:Scope):Prop where
 kind:sc.kind=.function
 co:sc.isCoroutine=false
 gen:sc.isGenerator=false
 nd:N.Nodup
 pre:N.take P.length=P
 par:∀ x∈P,sc.names.lookup x=some .local∨sc.names.lookup x=some .cell
 nofree:∀ y∈sc.names,y.2≠.free

theorem nZ {kindOf:Str→Option NameKind} {x:Str}:∀ {binds:List (Str×Value)} {m:Str→Option Value},(∀ v,(x,v) ∉ binds)→bindL kindOf binds m x=m x
 | [],_,_=>rfl
 | (n,v) :: r,m,h=>by
  unfold bindL
  rw [nZ fun w hw=>h w (List.mem_cons_of_mem _ hw)]
  split
  ·have:x≠n:=by rintro rfl; exact h v List.mem_cons_self
   simp [this]
  ·rfl
theorem o6 {kindOf:Str→Option NameKind} {x:Str}:∀ {binds:List (Str×Value)} {m:Str→Option Value},(∀ v,(x,v) ∉ binds)→bindC kindOf binds m x=m x
 | [],_,_=>rfl
 | (n,v) :: r,m,h=>by
  unfold bindC
  rw [o6 fun w hw=>h w (List.mem_cons_of_mem _ hw)]
  split
  ·rfl
  ·have:x≠n:=by rintro rfl; exact h v List.mem_cons_self
   simp [this]
theorem o7 {kindOf:Str→Option NameKind} {x:Str} {v:Value}:∀ {P:List Str} {vs:List Value} {i:Nat} {m:Str→Option Value},P.Nodup→P[i]?=some x→vs[i]?=some v→kindOf x=some .local →
  bindL kindOf (P.zip vs) m x=some v
 | [],_,_,_,_,h,_,_=>by simp at h
 | _ :: _,[],_,_,_,_,h,_=>by simp at h
 | p :: P,w :: vs,0,m,nd,h1,h2,hk=>by
  simp at h1 h2; subst h1; subst h2
  show bindL kindOf ((p,w) :: P.zip vs) m p=_
  unfold bindL
  rw [nZ fun v hv=>(List.nodup_cons.mp nd).1 (List.of_mem_zip hv).1,if_pos hk]
  simp
 | p :: P,w :: vs,i+1,m,nd,h1,h2,hk=>by
  show bindL kindOf ((p,w) :: P.zip vs) m x=_
  unfold bindL
  exact o7 (i:=i) (List.nodup_cons.mp nd).2 (by simpa using h1) (by simpa using h2) hk
theorem o8 {kindOf:Str→Option NameKind} {x:Str} {v:Value}:∀ {P:List Str} {vs:List Value} {i:Nat} {m:Str→Option Value},P.Nodup→P[i]?=some x→vs[i]?=some v→kindOf x≠some .local →
  bindC kindOf (P.zip vs) m x=some v
 | [],_,_,_,_,h,_,_=>by simp at h
 | _ :: _,[],_,_,_,_,h,_=>by simp at h
 | p :: P,w :: vs,0,m,nd,h1,h2,hk=>by
  simp at h1 h2; subst h1; subst h2
  show bindC kindOf ((p,w) :: P.zip vs) m p=_
  unfold bindC
  rw [o6 fun v hv=>(List.nodup_cons.mp nd).1 (List.of_mem_zip hv).1,if_neg hk]
  simp
 | p :: P,w :: vs,i+1,m,nd,h1,h2,hk=>by
  show bindC kindOf ((p,w) :: P.zip vs) m x=_
  unfold bindC
  exact o8 (i:=i) (List.nodup_cons.mp nd).2 (by simpa using h1) (by simpa using h2) hk

noncomputable def start (N:List Str) (vs:List V):St:=vs.map some++List.replicate (N.length - vs.length) none

noncomputable def jB (CX:CXT) (P:Program) (w:World) (K:PySem.W.Frag) (mg:Str→Option Value) (base:Heap) (N:List Str) (qual:Str) (scope:Scope) (f:Addr) (cd:Value) (A:Around) (outer:List Env) (s:Shared) (H:Hp) (E:XK):Cx where
 prog:=P
 w:=w
 K:=K
 mg:=mg
 base:=base
 A:=A.deeper (envOfC qual scope s.heap.objs.size f cd)
 N:=N
 s₀:=s
 H₀:=H
 env:=envOfC qual scope s.heap.objs.size f cd
 outer:=outer
 stack:=envOfC qual scope s.heap.objs.size f cd :: outer
 ex:=[]
 calm:=true
 fn:=fun _=>true
 pn:=[]
 xe:=fun e s'=>wpAny (model P w) (A.deeper (envOfC qual scope s.heap.objs.size f cd)) (leaving (envOfC qual scope s.heap.objs.size f cd) e) (fun _ s''=>CX outer H s E e s'') (fun e' s''=>CX outer H s E e' s'') s'

theorem qJ {sc:Scope} {n:Nat} {x:Str} (h:sc.names.lookup x=some .cell):∃ c,(cellsFrom n sc.names []).lookup x=some c:=by
 have q:=PySem.W.cellsFrom_some sc.names n [] (.inl h)
 exact Option.isSome_iff_exists.mp q

theorem o9 {CX:CXT} {P:Program} {w:World} {K:PySem.W.Frag} {mg:Str→Option Value} {base:Heap} {N ps:List Str} {qual:Str} {scope:Scope} {f:Addr} {cd:Value} {A:Around} {outer:List Env} {s s1:Shared} {H:Hp} {E:XK} {us:List Value} {vs:List V}
  (S:FnScope N ps scope) (hd:A.handled=none) (e0:Env0 P w K mg base A outer s H) (hl:vs.length=ps.length) (r:Vals vs us)
  (x:InCallC s s.heap.objs.size (bindL (envOfC qual scope s.heap.objs.size f cd).kindOf (ps.zip us) fun _=>none) (cellsFrom (s.heap.objs.size+1) scope.names []) (bindC (envOfC qual scope s.heap.objs.size f cd).kindOf (ps.zip us) fun _=>none) s1) :
  Inv (jB CX P w K mg base N qual scope f cd A outer s H E) [] (start N vs) H s1:=by
 have hpl:ps.length≤N.length:=by have:=congrArg List.length S.pre; rw [List.length_take] at this; omega
 obtain ⟨h1,tk,rfl,hk⟩:=x.done
 have noA:∀ b:Addr,b ∉ (jB CX P w K mg base N qual scope f cd A outer s H E).ex:=fun b z=>absurd (show b∈([]:List Addr) from z) (by simp)
 refine ⟨⟨e0.mod,S.kind,rfl,rfl,Nat.le_refl _,fun y z c h1 h2=>?_,fun y hy=>?_,fun y c _ h=>?_,fun _=>hd,Around.frames_deeper e0.frames,.inr ⟨rfl,rfl⟩,fun b z=>absurd z (noA b),e0.bs,e0.bsz,fun b _ _=>noA b,fun b z=>absurd z (noA b),e0.funs,e0.frf⟩,
  rfl,e0.bare,Un.kept hk,⟨_,x.toInCall.ns,fun i y v h1 h2 h3=>?_⟩,fun y c h=>⟨_,x.cell y c h⟩,e0.hok.fresh (Nat.le_refl _),fun y c h=>?_,fun p hp=>absurd (show p∈([]:List (Addr×Obj)) from hp) (by simp),e0.hok.kept hk,?_⟩
 ·exact name_of_addr x.apart (PySem.mem_of_lookup h1) (PySem.mem_of_lookup h2)
 ·have hy:scope.names.lookup y=some .cell∨scope.names.lookup y=some .free:=hy
  rcases hy with hy | hy
  ·exact qJ hy
  ·exact absurd rfl (S.nofree _ (PySem.mem_of_lookup hy))
 ·exact Nat.le_of_lt (x.above y c (PySem.mem_of_lookup h))
 ·have hi:i < vs.length:=by
   unfold start at h2
   by_cases hi:i < vs.length
   ·exact hi
   ·rw [List.getElem?_append_right (by simpa using hi)] at h2
    rw [List.getElem?_replicate] at h2
    split at h2 <;> cases h2
  have ha:vs[i]?=some v:=by
   unfold start at h2
   rw [List.getElem?_append_left (by simpa using hi),List.getElem?_map] at h2
   cases e:vs[i]? with
   | none=>rw [e] at h2; cases h2
   | some a=>rw [e] at h2; cases h2; rfl
  obtain ⟨u,hu,rv⟩:=r.get ha
  have hp:ps[i]?=some y:=by
   rw [← S.pre,List.getElem?_take_of_lt (by omega)]; exact h1
  have ndP:ps.Nodup:=by rw [← S.pre]; exact S.nd.sublist (List.take_sublist _ _)
  refine ⟨u,rv,?_⟩
  rcases S.par y (List.mem_of_getElem? hp) with k | k
  ·exact .inl ⟨k,o7 ndP hp hu k⟩
  ·obtain ⟨c,e⟩:=qJ (n:=s.heap.objs.size+1) k
   refine .inr ⟨.inl k,c,e,?_⟩
   have q:=x.cell y c e
   rw [o8 ndP hp hu (by show scope.names.lookup y≠_; rw [k]; decide)] at q
   exact q
 ·exact e0.hok.fresh (Nat.le_of_lt (x.above y c (PySem.mem_of_lookup h)))
 ·unfold start
  show _=N.length
  rw [List.length_append,List.length_map,List.length_replicate]
  omega

theorem xr {CX:CXT} {P:Program} {w:World} {K:PySem.W.Frag} {mg:Str→Option Value} {base:Heap} {k:Nat} {f:Addr} {name qual:Str} {params:Arguments} {body:List Stmt} {scope:Scope} {dV kV doc pm cdv ct oc:Value} {an od:Option Addr}
  {osl:Array (Option Value)} {N ps:List Str} {sp:Sp} (lk:K.lookup f=some ⟨oc,od,.func (PySem.W.fnOf name qual params body scope dV kV doc pm an cdv ct),osl⟩) (hcd:PySem.W.codeIn K cdv qual=true) (S:FnScope N ps scope)
  (len:∀ vs H Q E,sp vs H Q E→vs.length=ps.length)
  (hbody:∀ (A:Around) (outer:List Env) (s:Shared) (H:Hp) (vs:List V) (Q:VK) (E:XK),Room k (A.deeper (envOfC qual scope s.heap.objs.size f cdv))→sp vs H Q E →
   ∃ t,PSs (jB CX P w K mg base N qual scope f cdv A outer s H E) body t∧t { nx:=fun _ H'=>Q .non H',rt:=Q } (start N vs) H) :
  FnOk P w K mg base CX (k+1) f (PySem.W.fnOf name qual params body scope dV kV doc pm an cdv ct) ps sp:=by
 refine ⟨len,fun A outer s H args us vs Q E hr e0 hb r hsp=>?_⟩
 have hl:=len _ _ _ _ hsp
 have KX:K.In s.heap:=e0.mod.kin.keeps fun b o e=>(e0.bs b o e).1
 have lim:s.heap.NoLimit:=e0.mod.nolimit.keeps fun b o e=>(e0.bs b o e).1
 have hkind:∀ y∈ps.zip us,scope.names.lookup y.1=some .local∨(scope.names.lookup y.1=some .cell∧((cellsFrom (s.heap.objs.size+1) scope.names []).lookup y.1).isSome=true):=fun ⟨n,v⟩ hy=>by
  rcases S.par n (List.of_mem_zip hy).1 with q | q
  ·exact .inl q
  ·exact .inr ⟨q,PySem.W.cellsFrom_some _ _ _ (.inl q)⟩
 refine codeAny_call_function hr.depth (KX _ _ lk) rfl S.co S.gen rfl (PySem.W.codeRec_of KX hcd) (hb _ _ _ _ ?_)
 refine wpAny_newFunctionEnv_cells S.kind hkind fun env he s1 x=>?_
 subst he
 refine ⟨lim.keeps x.toInCall.keep,codeAny_func ?_⟩
 obtain ⟨t,ht,hq⟩:=hbody A outer s H vs Q E (hr.deeper _) hsp
 have I:Inv (jB CX P w K mg base N qual scope f cdv A outer s H E) [] (start N vs) H s1:=o9 S hr.hd e0 hl r x
 refine wpAny_mono (ht [] s1 (start N vs) H _ I hq) (fun fl s' hs=>?_) fun e s' hs=>hs
 have fin:∀ {σ':St} {H':Hp} {v:V} {u:Value},Inv (jB CX P w K mg base N qual scope f cdv A outer s H E) [] σ' H' s'→RelV v u→Q v H'→CE outer P w H s Q u s' :=
  fun {σ' H' v u} J rv q=>⟨v,H',J.os,J.bare,J.base,J.hok,rv,q⟩
 cases fl with
 | ret u =>
  obtain ⟨v,σ',H',J,rv,q⟩:=hs
  exact fin J rv q
 | next =>
  obtain ⟨σ',H',J,q⟩:=hs
  exact fin (v:=V.non) (u:=Value.none) J rfl q
 | brk =>
  obtain ⟨_,_,_,q⟩:=hs
  exact False.elim q
 | cont =>
  obtain ⟨_,_,_,q⟩:=hs
  exact False.elim q
end L2

namespace L2
open PySem PySem.Spec PyProof.Rows
section
variable {X:Cx} {x:Str} {p pos:Pos} {e:Expr} {es:List Expr} {t:TA} {id T:String} {r:List V→Hp→VK→Prop}

noncomputable def tCB (r:List V→Hp→VK→Prop) (t:TA):TE:=fun σ H Q=>t σ H fun vs H1=>r vs H1 Q
theorem aJ (hc:fJ X (.builtin id) r) (hg:Gl X x) (hm:X.mg x=none) (hv:bootBuiltins x=some (.builtin id)) (ha:PA X (e :: es) t) (hn:x≠"__name__" := by decide) (hdb:(x == ("__debug__" : Str))=false:=by decide)
  (he:starEach (e :: es) X.env=(false,eval e X.env) :: starEach es X.env:=by rfl) (hpl:(backTo pos (starEach es X.env)).any (·.1)=false:=by rfl):PE X (.Call (.Name x p) (e :: es) [] pos) (tCB r t):=by
 intro pins s σ H Q I h
 refine wpAny_Call_Name_kw (gQ I hg hm hv ?_ hn hdb)
 exact PyProof.Rows.callWith_builtin1 (thn (ha pos pins s σ H _ I h) fun us s1 ⟨vs,H1,I1,r1,q1⟩=>hc pins s1 σ H1 vs us Q I1 r1 q1) he hpl
theorem dR (hc:fJ X (.type T) r) (hg:Gl X x) (hm:X.mg x=none) (hv:bootBuiltins x=some (.type T)) (ha:PA X (e :: es) t) (hn:x≠"__name__" := by decide) (hdb:(x == ("__debug__" : Str))=false:=by decide)
  (he:starEach (e :: es) X.env=(false,eval e X.env) :: starEach es X.env:=by rfl) (hpl:(backTo pos (starEach es X.env)).any (·.1)=false:=by rfl):PE X (.Call (.Name x p) (e :: es) [] pos) (tCB r t):=by
 intro pins s σ H Q I h
 refine wpAny_Call_Name_kw (gQ I hg hm hv ?_ hn hdb)
 exact PyProof.Rows.callWith_type1 (thn (ha pos pins s σ H _ I h) fun us s1 ⟨vs,H1,I1,r1,q1⟩=>hc pins s1 σ H1 vs us Q I1 r1 q1) he hpl
end
end L2

namespace HT
open PySem PyProof.Rows



section
open PySem.SeqAt
open PySem.AutoSeq1 (wpAny_loadPart')
open PySem.MeetsSeq PySem.MeetsSeq2 PySem.MeetsSeq3

end

section
variable {prog:Program} {w:World} {A:Around} {E:Value→Shared→Prop} {s:Shared}


theorem cat_tup {t b:Addr} {vs ws:List Value} {Q:Value→Shared→Prop} (ht:IsTup s.heap t vs.toArray) (hb:IsTup s.heap b ws.toArray) (hv:vs≠[])
  (h1:ws=[]→Q (.ref t) s) (h2:ws≠[]→Q (.ref s.heap.objs.size) { s with heap:=s.heap.push { cls:=.type "tuple",data:=.seq (vs++ws).toArray } })
  (hsz:vs.length+ws.length≤sizeLine):wpAny (model prog w) A (binaryOp .Add (.ref t) (.ref b)) Q E s:=by
 obtain ⟨⟨cls,dd,data,sl⟩,ho,hc,n,hd⟩:=id ht
 obtain ⟨⟨cls2,dd2,data2,sl2⟩,ho2,hc2,n2,hd2⟩:=id hb
 simp only at hc hd hc2 hd2
 subst hc hd hc2 hd2
 have e:vs.toArray++ws.toArray=(vs++ws).toArray:=by simp
 by_cases hw:ws=[]
 ·exact concat_meets ⟨_,ho,rfl⟩ ⟨_,ho2,rfl⟩ noFill_tuple_add seq_tuple_add PySem.F.slot_tuple_add PySem.F.entry_tuple_add (PySem.F.args_tuple_add_2 _ _)
   (tuple_addW1 t b vs.toArray ws.toArray n n2 dd dd2 sl sl2 (by simpa using hv) (by simp [hw])) ⟨ho,ho2,h1 hw⟩
 ·refine concat_meets ⟨_,ho,rfl⟩ ⟨_,ho2,rfl⟩ noFill_tuple_add seq_tuple_add PySem.F.slot_tuple_add PySem.F.entry_tuple_add (PySem.F.args_tuple_add_2 _ _)
   (tuple_addW2 t b vs.toArray ws.toArray n n2 dd dd2 sl sl2 (by simpa using hv) (by simpa using hw) (by rw [List.size_toArray,List.size_toArray]; exact hsz)) ⟨ho,ho2,?_⟩
  rw [e]
  exact h2 hw

noncomputable def sIx (n d:Nat):Option Int→Nat
 | none=>d
 | some v=>if v < 0 then (v+(n:Int)).toNat else min v.toNat n
theorem sIx_none (n d:Nat):sIx n d none=d:=rfl
theorem sIx_nat (n d k:Nat):sIx n d (some (k:Int))=min k n:=by
 show (if (k:Int) < 0 then ((k:Int)+(n:Int)).toNat else min (k:Int).toNat n)=min k n
 rw [if_neg (by omega),Int.toNat_natCast]
theorem Cw (n d:Nat) (hd:d≤n) (o:Option Int):sIx n d o≤n:=by
 cases o with
 | none=>exact hd
 | some v =>
  show (if v < 0 then (v+(n:Int)).toNat else min v.toNat n)≤n
  by_cases hv:v < 0
  ·rw [if_pos hv]; omega
  ·rw [if_neg hv]; exact Nat.min_le_right _ _
theorem kI (v:Int) (n d:Nat):(if v < 0 then max (v+(n:Int)) 0 else min v (n:Int))=((sIx n d (some v):Nat):Int):=by
 show (if v < 0 then max (v+(n:Int)) 0 else min v (n:Int))=(((if v < 0 then (v+(n:Int)).toNat else min v.toNat n):Nat):Int)
 by_cases hv:v < 0
 ·simp only [if_pos hv]; omega
 ·simp only [if_neg hv]; omega
theorem tU (lo hi:Option Int) (n:Nat):Builtin.Slice.sliceAdjust lo hi 1 (n:Int)=(((sIx n 0 lo:Nat):Int),((sIx n n hi:Nat):Int)):=by
 have h1:¬ ((1:Int) < 0):=by omega
 unfold Builtin.Slice.sliceAdjust
 simp only [h1,if_false]
 refine Prod.ext ?_ ?_
 ·cases lo with
  | none=>rfl
  | some v=>exact kI v n 0
 ·cases hi with
  | none=>rfl
  | some v=>exact kI v n n
theorem tV (i j:Nat):Builtin.Slice.slicePlaces (i:Int) (j:Int) 1=j - i:=by
 unfold Builtin.Slice.slicePlaces
 have h1:(1:Int) > 0:=by omega
 simp only [h1,if_true,Int.ediv_one]
 split <;> omega
theorem lE {v:Value} {o:Option Int} {Q:Option Int→Shared→Prop} (p:IsPart v o) (h:Q o s):wpAny (model prog w) A (Builtin.Slice.slicePartIndex v) Q E s:=by
 cases p with
 | none=>exact slicePart_none h
 | int i t=>exact slicePart_int h
theorem gr {sl:Addr} {vl vu:Value} {lo hi:Option Int} {n:Nat} {Q:Int×Int×Nat→Shared→Prop} (hs:s.heap.IsSliceOf sl vl vu .none) (pl:IsPart vl lo) (pu:IsPart vu hi)
  (h:Q (((sIx n 0 lo:Nat):Int),1,sIx n n hi - sIx n 0 lo) s):wpAny (model prog w) A (Builtin.Slice.sliceApplied (.ref sl) (pure (n:Int))) Q E s:=by
 obtain ⟨os,hos,hcs,hds⟩:=id hs
 unfold Builtin.Slice.sliceApplied Builtin.Slice.sliceFields
 refine wpAny_bind (wpAny_bind (wpAny_field hos hds (x:=vl) rfl (wpAny_bind (wpAny_field hos hds (x:=vu) rfl (wpAny_bind (wpAny_field hos hds (x:=.none) rfl (wpAny_pure ?_)))))))
 refine wpAny_bind (slicePart_none ?_)
 show wpAny _ _ (if ((1:Int) == 0)=true then _ else _) _ _ s
 rw [if_neg (by decide)]
 refine wpAny_bind (lE pl (wpAny_bind (lE pu (wpAny_bind (wpAny_pure ?_)))))
 show wpAny _ _ (match Builtin.Slice.sliceAdjust lo hi 1 (n:Int) with | (lo,hi)=>pure (lo,(1:Int),Builtin.Slice.slicePlaces lo hi 1)) _ _ s
 rw [tU lo hi n]
 show wpAny _ _ (pure (((sIx n 0 lo:Nat):Int),(1:Int),Builtin.Slice.slicePlaces ((sIx n 0 lo:Nat):Int) ((sIx n n hi:Nat):Int) 1)) _ _ s
 rw [tV]
 exact wpAny_pure h
theorem xu (xs:Array Value) (i k:Nat):((List.range k).filterMap fun (m:Nat)=>xs[((i:Int)+(m:Int) * 1).toNat]?).toArray=((xs.toList.drop i).take k).toArray:=by
 have e:(fun (m:Nat)=>xs[((i:Int)+(m:Int) * 1).toNat]?)=fun m=>xs[i+m]?:=by
  funext m
  have:((i:Int)+(m:Int) * 1).toNat=i+m:=by omega
  rw [this]
 rw [e]
 have:=pick_run xs i k
 rw [List.filterMap_map] at this
 have e2:((fun x=>xs[x]?) ∘ fun x=>i+x)=fun m=>xs[i+m]?:=rfl
 rw [e2] at this
 rw [this]

theorem getItem_tuple_cut {t sl:Addr} {items:Array Value} {vl vu:Value} {lo hi:Option Int} {Q:Value→Shared→Prop} (ht:IsTup s.heap t items) (hs:s.heap.IsSliceOf sl vl vu .none) (pl:IsPart vl lo) (pu:IsPart vu hi)
  (hw:¬ (sIx items.size 0 lo=0∧sIx items.size items.size hi=items.size))
  (h:Q (.ref s.heap.objs.size) { s with heap:=s.heap.push { cls:=.type "tuple",data:=.seq ((items.toList.drop (sIx items.size 0 lo)).take (sIx items.size items.size hi - sIx items.size 0 lo)).toArray } })
  (hsz:items.size≤sizeLine):wpAny (model prog w) A (getItem (.ref t) (.ref sl)) Q E s:=by
 have htake:sizeOk (.seq ((items.toList.drop (sIx items.size 0 lo)).take (sIx items.size items.size hi - sIx items.size 0 lo)).toArray):=by
  show ((items.toList.drop (sIx items.size 0 lo)).take (sIx items.size items.size hi - sIx items.size 0 lo)).toArray.size≤sizeLine
  rw [List.size_toArray,List.length_take,List.length_drop,Array.length_toList]
  omega
 have hj:sIx items.size items.size hi≤items.size:=Cw _ _ (Nat.le_refl _) hi
 obtain ⟨os,hos,hcs,hds⟩:=id hs
 have hTs:s.TypeIs (.ref sl) "slice" := ⟨os,hos,hcs⟩
 unfold getItem
 try with_reducible refine wpAny_holding ?_
 first | refine wpAny_bind (wpAny_pure ?_) | skip
 refine wpAny_bind (wpAny_sequenceKey ht.typeIs (by decide) ?_)
 refine wpAny_bind (wpAny_callSpecial?_slot (name:=Str.ofString "__getitem__") ht.typeIs PyProof.Rows.slot_tuple_getitem
  (wpAny_call_entry PyProof.Rows.slot_tuple_getitem ht.typeIs entry_tuple_getitem ?_ (args_tuple_getitem _ _)))
 show wpAny _ _ (Builtin.Tuple.tupleItemsOf (.ref t) >>= _) _ _ s
 refine wpAny_bind (tupleItemsOf_ ht ?_)
 refine wpAny_bind (wpAny_typeOf hTs ?_)
 rw [if_pos (by decide)]
 refine wpAny_bind (gr hs pl pu ?_)
 have hno:¬ ((((sIx items.size 0 lo:Nat):Int) == 0 && (1:Int) == 1 && (sIx items.size items.size hi - sIx items.size 0 lo) == items.size)=true):=by
  intro q
  rw [Bool.and_eq_true,Bool.and_eq_true] at q
  have q1:((sIx items.size 0 lo:Nat):Int)=0:=eq_of_beq q.1.1
  have q2:sIx items.size items.size hi - sIx items.size 0 lo=items.size:=eq_of_beq q.2
  exact hw ⟨by omega,by omega⟩
 show wpAny _ _ (if (((sIx items.size 0 lo:Nat):Int) == 0 && (1:Int) == 1 && (sIx items.size items.size hi - sIx items.size 0 lo) == items.size)=true then _ else _) _ _ s
 rw [if_neg hno,xu]
 first
  | exact wpAny_bind (m:=Builtin.Tuple.tupleExact _) (wpAny_newObj_type (wpAny_pure ⟨_,rfl,wpAny_pure h⟩) htake)
  | exact wpAny_bind (m:=Builtin.Tuple.tupleExact _) (wpAny_newObj_type (wpAny_bind (wpAny_pure (wpAny_pure ⟨_,rfl,wpAny_pure h⟩))) htake)
  | exact wpAny_bind (wpAny_bind (m:=Builtin.Tuple.tupleExact _) (wpAny_newObj_type (wpAny_pure (wpAny_pure ⟨_,rfl,wpAny_pure h⟩)) htake))
  | exact wpAny_bind (wpAny_bind (m:=Builtin.Tuple.tupleExact _) (wpAny_newObj_type (wpAny_pure ⟨_,rfl,wpAny_pure h⟩) htake))
end
end HT

namespace L2
open PySem PySem.Spec PyProof.Rows

noncomputable abbrev TO:=St→Hp→(Option Int→Hp→Prop)→Prop
noncomputable def PO (X:Cx) (e:Option Expr) (t:TO):Prop :=
 ∀ (pins:List (Addr×Obj)) (s:Shared) (σ:St) (H:Hp) (Q:Option Int→Hp→Prop),Inv X pins σ H s→t σ H Q →
  wpAny (model X.prog X.w) X.A (evalPart e X.env) (fun u s'=>∃ o H',Inv X pins σ H' s'∧IsPart u o∧Q o H') X.xe s
noncomputable def zU:TO:=fun _ H Q=>Q none H
noncomputable def Eh (t:TE):TO:=fun σ H Q=>t σ H fun x H1=>∃ i,x=.int i∧Q (some i) H1

theorem intsAre_of {ns:List Int}:∀ {us:List Value},Vals (ns.map V.int) us→IntsAre us ns:=by
 induction ns with
 | nil=>intro us r; rw [List.map_nil] at r; cases r; exact .nil
 | cons n ns ih =>
  intro us r
  rw [List.map_cons] at r
  cases r with
  | cons r1 r2 =>
   obtain ⟨t,e⟩:=r1
   subst e
   exact .cons n t (ih r2)

section
variable {X:Cx} {e:Expr} {te:TE} {lo hi:Option Expr} {tl th:TO} {pos p2:Pos}

theorem zV:PO X none zU:=by
 intro pins s σ H Q I h
 rw [evalPart_none]
 exact wpAny_pure ⟨none,H,I,.none,h⟩
theorem zW (h:PE X e te):PO X (some e) (Eh te):=by
 intro pins s σ H Q I hw
 rw [evalPart_some]
 refine thn (h pins s σ H _ I hw) fun u s1 ⟨x,H1,I1,r1,q1⟩=>?_
 obtain ⟨i,rfl,q⟩:=q1
 obtain ⟨t,rfl⟩:=r1
 exact ⟨some i,H1,I1,.int i t,q⟩

noncomputable def SlR (X:Cx) (r:V→Option Int→Option Int→Hp→VK→Prop):Prop :=
 ∀ (pins:List (Addr×Obj)) (s:Shared) (σ:St) (H:Hp) (x:V) (v vl vu:Value) (lo hi:Option Int) (sl:Addr) (Q:VK),Inv X pins σ H s→RelV x v→s.heap.IsSliceOf sl vl vu .none→IsPart vl lo→IsPart vu hi→r x lo hi H Q →
  ∃ T id,typeLookup (.type T) "__getitem__" = pure (some (.builtin id))∧s.TypeIs v T∧wpAny (model X.prog X.w) X.A (getItem v (.ref sl)) (EP X pins σ Q) X.xe s
noncomputable def tSl (r:V→Option Int→Option Int→Hp→VK→Prop) (te:TE) (tl th:TO):TE:=fun σ H Q=>te σ H fun x H1=>tl σ H1 fun l H2=>th σ H2 fun u H3=>r x l u H3 Q
theorem xx {r:V→Option Int→Option Int→Hp→VK→Prop} (hr:SlR X r) (he:PE X e te) (hl:PO X lo tl) (hu:PO X hi th):PE X (.Subscript e (.Slice lo hi none p2) pos) (tSl r te tl th):=by
 intro pins s σ H Q I h
 refine Subscript_ (thn (he pins s σ H _ I h) fun v s1 ⟨x,H1,I1,r1,q1⟩=>?_)
 refine wpAny_Slice (thn (hl pins s1 σ H1 _ I1 q1) fun vl s2 ⟨l,H2,I2,pl,q2⟩=>thn (hu pins s2 σ H2 _ I2 q2) fun vu s3 ⟨u,H3,I3,pu,q3⟩=>?_)
 rw [evalPart_none]
 refine wpAny_pure ?_
 have I4:Inv X pins σ H3 { s3 with heap:=s3.heap.push { cls:=.type "slice",data:=.fields #[vl,vu,.none] } }:=I3.kept (t':=s3.toks) fun b ob q=>Heap.get?_push_of_some _ q
 obtain ⟨T,id,hT,ht,hg⟩:=hr pins { s3 with heap:=s3.heap.push { cls:=.type "slice",data:=.fields #[vl,vu,.none] } } σ H3 x v vl vu l u s3.heap.objs.size Q I4 r1 (Heap.IsSliceOf.new ..) pl pu q3
 show wpAny (model X.prog X.w) X.A (subscriptTail e (.Slice lo hi none p2) v (.ref s3.heap.objs.size)) (EP X pins σ Q) X.xe { s3 with heap:=s3.heap.push { cls:=.type "slice",data:=.fields #[vl,vu,.none] } }
 exact tail_any (ops:=[.ref s3.heap.objs.size,v]) ht hT hg (by with_unfolding_all rfl)

noncomputable def pB (xs:List V) (lo hi:Option Int):List V:=(xs.drop (HT.sIx xs.length 0 lo)).take (HT.sIx xs.length xs.length hi - HT.sIx xs.length 0 lo)
theorem jT (xs:List V) (lo hi:Option Int):(pB xs lo hi).length≤xs.length:=by
 unfold pB
 rw [List.length_take,List.length_drop]
 omega
noncomputable def FQ (K:PySem.W.Frag):V→Option Int→Option Int→Hp→VK→Prop:=fun x lo hi H Q=>∃ a xs,x=.ref a∧SqT K H a xs ∧
 ¬ (HT.sIx xs.length 0 lo=0∧HT.sIx xs.length xs.length hi=xs.length)∧∀ p,H p=none→Q (.ref p) (upd H p (.tup (pB xs lo hi)))
theorem Cy:SlR X (FQ X.K):=by
 intro pins s σ H x v vl vu lo hi sl Q I rx hs pl pu h
 obtain ⟨a,xs,rfl,hx,hw,q⟩:=h
 cases rx
 obtain ⟨its,r,ht,hz⟩:=I.tuple hx
 have hlen:its.toArray.size=xs.length:=by rw [List.size_toArray]; exact r.length.symm
 refine ⟨"tuple",_,PyProof.Rows.slot_tuple_getitem.lookup,ht.typeIs,?_⟩
 refine HT.getItem_tuple_cut ht hs pl pu (by rw [hlen]; exact hw) ?_ (by rw [hlen]; exact hz)
 rw [hlen]
 refine ⟨.ref s.heap.objs.size,_,I.laid (t':=s.toks) (o:=.tup (pB xs lo hi)) (fun b ob q=>Heap.get?_push_of_some _ q) (Nat.le_refl _) ?_,rfl,q _ (I.hok.fresh (Nat.le_refl _))⟩
 exact ⟨Nat.le_trans (jT xs lo hi) hz,_,(r.drop (HT.sIx xs.length 0 lo)).take (HT.sIx xs.length xs.length hi - HT.sIx xs.length 0 lo),IsTup.new _ _⟩

noncomputable def Ei (K:PySem.W.Frag):R2:=fun x y H Q=>∃ a b xs ys,x=.ref a∧y=.ref b∧SqT K H a xs∧SqT K H b ys∧xs≠[]∧xs.length+ys.length≤sizeLine ∧
 (ys=[]→Q (.ref a) H)∧(ys≠[]→∀ p,H p=none→Q (.ref p) (upd H p (.tup (xs++ys))))
theorem Vals.nil_iff {xs:List V} {us:List Value} (r:Vals xs us):us=[]↔xs=[]:=by
 cases r with
 | nil=>simp
 | cons _ _=>simp
theorem zX:OpR X (binaryOp .Add) (Ei X.K):=by
 intro pins s σ H x y v u Q I rx ry h
 obtain ⟨a,b,xs,ys,rfl,rfl,ha,hb,hx,hz,q1,q2⟩:=h
 cases rx
 cases ry
 obtain ⟨its,r1,p1,_⟩:=I.tuple ha
 obtain ⟨its2,r2,p2,_⟩:=I.tuple hb
 refine HT.cat_tup p1 p2 (fun z=>hx (r1.nil_iff.mp z)) (fun z=>⟨.ref a,H,I,rfl,q1 (r2.nil_iff.mp z)⟩) (fun z=>?_) (by rw [← r1.length,← r2.length]; exact hz)
 refine ⟨.ref s.heap.objs.size,_,I.laid (t':=s.toks) (o:=.tup (xs++ys)) (fun b ob q=>Heap.get?_push_of_some _ q) (Nat.le_refl _) ?_,rfl,q2 (fun w=>z (r2.nil_iff.mpr w)) _ (I.hok.fresh (Nat.le_refl _))⟩
 exact ⟨by rw [List.length_append]; exact hz,_,r1.append r2,IsTup.new _ _⟩
end
end L2

namespace L2
open PySem PySem.Spec PyProof.Rows

noncomputable def ixN (n:Nat) (i:Int):Option Nat:=if 0≤i then (if i < n then some i.toNat else none) else if -(n:Int)≤i then some (i+n).toNat else none
noncomputable def atI {α:Type} (xs:List α) (i:Int):Option α:=(ixN xs.length i).bind fun j=>xs[j]?
theorem pC {n:Nat} {i:Int} {j:Nat} (h:ixN n i=some j):seqIndex? i n=some j∧j < n∧-(n:Int)≤i∧i < n:=by
 unfold ixN at h
 by_cases h0:0≤i
 ·rw [if_pos h0] at h
  by_cases h1:i < n
  ·rw [if_pos h1] at h
   have e:i.toNat=j:=Option.some.inj h
   exact ⟨by rw [seqIndex_of h0 h1,e],by omega,by omega,h1⟩
  ·rw [if_neg h1] at h; cases h
 ·rw [if_neg h0] at h
  by_cases h1:-(n:Int)≤i
  ·rw [if_pos h1] at h
   have e:(i+n).toNat=j:=Option.some.inj h
   exact ⟨by rw [seqIndex_neg (by omega) h1,e],by omega,h1,by omega⟩
  ·rw [if_neg h1] at h; cases h
theorem uD {α:Type} {xs:List α} {i:Int} {v:α} (h:atI xs i=some v):∃ j,seqIndex? i xs.length=some j∧xs[j]?=some v∧j < xs.length∧-(xs.length:Int)≤i∧i < xs.length:=by
 unfold atI at h
 cases e:ixN xs.length i with
 | none=>rw [e] at h; cases h
 | some j =>
  rw [e] at h
  obtain ⟨h1,h2,h3,h4⟩:=pC e
  exact ⟨j,h1,h,h2,h3,h4⟩
theorem gC {α:Type} {xs:List α} {j:Nat} {v:α} (h:xs[j]?=some v):atI xs (j:Int)=some v:=by
 have hj:j < xs.length:=(List.getElem?_eq_some_iff.mp h).1
 have e:ixN xs.length (j:Int)=some j:=by
  unfold ixN
  rw [if_pos (by omega),if_pos (by omega)]; simp
 unfold atI; rw [e]; exact h

noncomputable def uE (b:Expr):Prop:=∀ o i,subscripted b false o i=operate [o,i] (getItem o i)
noncomputable def IxR (X:Cx) (r:R2):Prop :=
 ∀ (value slice:Expr) (pins:List (Addr×Obj)) (s:Shared) (σ:St) (H:Hp) (x y:V) (v u:Value) (Q:VK),Inv X pins σ H s→RelV x v→RelV y u→r x y H Q →
  subscripted slice false v u=operate [v,u] (getItem v u)→wpAny (model X.prog X.w) X.A (subscriptTail value slice v u) (EP X pins σ Q) X.xe s
noncomputable def MtR (X:Cx) (id:String) (r:V→List V→Hp→VK→Prop):Prop :=
 ∀ (pins:List (Addr×Obj)) (s:Shared) (σ:St) (H:Hp) (x:V) (xs:List V) (v:Value) (us:List Value) (Q:VK),Inv X pins σ H s→RelV x v→Vals xs us→r x xs H Q →
  wpAny (model X.prog X.w) X.A (call (.builtin id) (v :: us)) (EP X pins σ Q) X.xe s
section
variable {X:Cx} {a b:Expr} {ta tb:TE} {pos:Pos}
theorem bh {r:R2} (hr:IxR X r) (ha:PE X a ta) (hb:PE X b tb) (hs:uE b):PE X (.Subscript a b pos) (tOp r ta tb):=by
 intro pins s σ H Q I h
 exact Subscript_ (Cu ha hb I h fun v u s2 x y H2 I2 rx ry q=>hr a b pins s2 σ H2 x y v u Q I2 rx ry q (hs _ _))

noncomputable def Ej (K:PySem.W.Frag):R2:=fun x y H Q=>∃ p xs i v,x=.ref p∧y=.int i∧SqL K H p xs∧atI xs i=some v∧Q v H
noncomputable def FT (K:PySem.W.Frag):R2:=fun x y H Q=>∃ p xs i v,x=.ref p∧y=.int i∧SqT K H p xs∧atI xs i=some v∧Q v H
theorem bz:IxR X (Ej X.K):=by
 intro value slice pins s σ H x y v u Q I rx ry h hs
 obtain ⟨p,xs,i,z,rfl,rfl,hq,he,q⟩:=h
 cases rx
 obtain ⟨t,rfl⟩:=ry
 obtain ⟨its,r,pl,hz⟩:=I.list hq
 obtain ⟨j,h1,h2,h3,h4,h5⟩:=uD he
 obtain ⟨w,ew,rw'⟩:=r.get h2
 have hl:=r.length
 have hn:=jz
 have fin:EP X pins σ Q w s:=⟨z,H,I,rw',q⟩
 by_cases h0:0≤i
 ·have hj:i.toNat=j:=by
   rw [seqIndex_of h0 h5] at h1
   exact Option.some.inj h1
  exact item_listR pl.isList h0 (by omega) (by rw [hj]; simpa using ew) fin hs
 ·have hj:(i+(its.toArray.size:Int)).toNat=j:=by
   rw [seqIndex_neg (by omega) h4] at h1
   rw [List.size_toArray,← hl]
   exact Option.some.inj h1
  exact subscriptTail_builtinR (x:=w) pl.isList.typeIs slot_list_getitem.lookup
   (wpAny_getItem_list_neg (Q:=fun r s'=>r=w∧EP X pins σ Q r s') pl.isList (by omega) (by rw [List.size_toArray] <;> omega) (by omega) (by rw [hj]; simpa using ew) ⟨rfl,fin⟩) hs
theorem bx:IxR X (FT X.K):=by
 intro value slice pins s σ H x y v u Q I rx ry h hs
 obtain ⟨p,xs,i,z,rfl,rfl,hq,he,q⟩:=h
 cases rx
 obtain ⟨t,rfl⟩:=ry
 obtain ⟨its,r,pl,hz⟩:=I.tuple hq
 obtain ⟨j,h1,h2,h3,h4,h5⟩:=uD he
 obtain ⟨w,ew,rw'⟩:=r.get h2
 have hl:=r.length
 have hn:=jz
 have fin:EP X pins σ Q w s:=⟨z,H,I,rw',q⟩
 exact subscriptTail_builtinR (x:=w) pl.typeIs slot_tuple_getitem.lookup
  (getItem_tuple (j:=j) (Q:=fun r s'=>r=w∧EP X pins σ Q r s') pl (by omega) (by omega) (by rw [List.size_toArray,← hl]; exact h1) (by simpa using ew) ⟨rfl,fin⟩) hs

theorem tW (its:List Value) (n j:Nat) (u:Value):Obj.mapSeq (·.setIfInBounds j u) { cls:=.type "list",data:=.seq its.toArray n }={ cls:=.type "list",data:=.seq (its.set j u).toArray n }:=by
 simp [Obj.mapSeq]
theorem Inv.lst {pins:List (Addr×Obj)} {σ:St} {H:Hp} {s:Shared} {p:Addr} {xs:List V} (I:Inv X pins σ H s) (h:H p=some (.lst xs)) :
  ∃ (its:List Value) (n:Nat),Vals xs its∧s.heap.get? p=some { cls:=.type "list",data:=.seq its.toArray n }∧xs.length≤sizeLine:=by
 obtain ⟨z,its,n,r,e⟩:=I.hok p _ h
 exact ⟨its,n,r,e,z⟩
theorem Inv.lstUpd {pins:List (Addr×Obj)} {σ:St} {H:Hp} {s:Shared} {p:Addr} {xs ys:List V} {its its':List Value} {n n':Nat} {f:Obj→Obj} (I:Inv X pins σ H s) (h:H p=some (.lst xs))
  (ho:s.heap.get? p=some { cls:=.type "list",data:=.seq its.toArray n }) (hf:f { cls:=.type "list",data:=.seq its.toArray n }={ cls:=.type "list",data:=.seq its'.toArray n' }) (r:Vals ys its') (hz:ys.length≤sizeLine) (t:Nat) :
  Inv X pins σ (upd H p (.lst ys)) { s with heap:=s.heap.update p f,toks:=t }:=by
 have e:(s.heap.update p f).get? p=some { cls:=.type "list",data:=.seq its'.toArray n' }:=by
  rw [Heap.get?_update_self f ho (by rw [hf] <;> rfl),hf]
 refine I.write (x:=p) (e:=p) (by rw [h]; trivial) (.inl rfl) (fun b u hb q=>(Heap.get?_update_other _ _ (Ne.symm hb)).trans q) ⟨_,e⟩ ?_
 exact ⟨hz,its',n',r,e⟩
noncomputable def Ek:V→V→V→Hp→(Hp→Prop)→Prop:=fun o i v H Q=>∃ p xs k j,o=.ref p∧i=.int k∧H p=some (.lst xs)∧ixN xs.length k=some j∧Q (upd H p (.lst (xs.set j v)))
theorem set_list:Cp X Ek:=by
 intro pins s σ H o i v ov iv u Q I ro ri rv h
 obtain ⟨p,xs,k,j,rfl,rfl,hp,hj,q⟩:=h
 cases ro
 obtain ⟨t,rfl⟩:=ri
 obtain ⟨its,n,r,ho,hz⟩:=I.lst hp
 obtain ⟨h1,h2,h3,h4⟩:=pC hj
 have hl:=r.length
 have hn:=jz
 have I':Inv X pins σ (upd H p (.lst (xs.set j v))) { s with heap:=s.heap.update p (Obj.mapSeq (·.setIfInBounds j u)) } :=
  I.lstUpd hp ho (tW its n j u) (r.set rv j) (by rw [List.length_set]; exact hz) s.toks
 by_cases h0:0≤k
 ·have hk:k.toNat=j:=by
   rw [seqIndex_of h0 h4] at h1
   exact Option.some.inj h1
  exact PySem.W.ki_setAt ho h0 (by omega) (by rw [List.size_toArray,← hl]; exact h4) (by rw [hk]; exact ⟨_,I',q⟩)
 ·have hk:(k+(its.toArray.size:Int)).toNat=j:=by
   rw [seqIndex_neg (by omega) h3] at h1
   rw [List.size_toArray,← hl]
   exact Option.some.inj h1
  exact PySem.W.ki_setBack ho (by omega) (by rw [List.size_toArray,← hl]; exact h3) (by omega) (by rw [hk]; exact ⟨_,I',q⟩)

theorem pF (lo hi:Option Int) (n:Nat):(sliceBounds lo hi none n).1=((HT.sIx n 0 lo:Nat):Int)∧(sliceBounds lo hi none n).2.1=((HT.sIx n n hi:Nat):Int)∧(sliceBounds lo hi none n).2.2=1:=by
 refine ⟨?_,?_,rfl⟩
 ·cases lo with
  | none=>simp [sliceBounds,HT.sIx]
  | some i =>
   simp only [sliceBounds,HT.sIx,Option.getD_none,show (1:Int) > 0 by decide,if_true]
   by_cases h:i < 0
   ·simp only [h,if_true] <;> omega
   ·simp only [h,if_false] <;> omega
 ·cases hi with
  | none=>simp [sliceBounds,HT.sIx]
  | some i =>
   simp only [sliceBounds,HT.sIx,Option.getD_none,show (1:Int) > 0 by decide,if_true]
   by_cases h:i < 0
   ·simp only [h,if_true] <;> omega
   ·simp only [h,if_false] <;> omega
theorem mW (its:List Value) (lo hi:Option Int):slicePick its.toArray lo hi none=((its.drop (HT.sIx its.length 0 lo)).take (HT.sIx its.length its.length hi - HT.sIx its.length 0 lo)).toArray:=by
 obtain ⟨h1,h2,h3⟩:=pF lo hi its.toArray.size
 unfold slicePick
 rw [h1,h2,h3]
 simp only [sliceRange_one,pick_run,List.size_toArray] <;> rfl
noncomputable def FW (K:PySem.W.Frag):V→Option Int→Option Int→Hp→VK→Prop:=fun x lo hi H Q=>∃ a xs,x=.ref a∧SqL K H a xs∧∀ p,H p=none→Q (.ref p) (upd H p (.lst (pB xs lo hi)))
theorem Ft:SlR X (FW X.K):=by
 intro pins s σ H x v vl vu lo hi sl Q I rx hs pl pu h
 obtain ⟨a,xs,rfl,hx,q⟩:=h
 cases rx
 obtain ⟨its,r,ht,hz⟩:=I.list hx
 have hlen:=r.length
 refine ⟨"list",_,slot_list_getitem.lookup,ht.isList.typeIs,?_⟩
 refine wpAny_getItem_list_slice ht.isList hs pl pu .none (by simp) ?_ (by rw [List.size_toArray] <;> omega)
 rw [mW,← hlen]
 refine ⟨.ref s.heap.objs.size,_,I.laid (t':=s.toks) (o:=.lst (pB xs lo hi)) (fun b ob q=>Heap.get?_push_of_some _ q) (Nat.le_refl _) ?_,rfl,q _ (I.hok.fresh (Nat.le_refl _))⟩
 exact ⟨Nat.le_trans (jT xs lo hi) hz,_,0,(r.drop (HT.sIx xs.length 0 lo)).take (HT.sIx xs.length xs.length hi - HT.sIx xs.length 0 lo),Heap.get?_push_size _ rfl⟩


theorem aQ:fJ X (.builtin "len") (fun xs H Q=>∃ p ys,xs=[.ref p]∧(SqL X.K H p ys∨SqT X.K H p ys)∧Q (.int ys.length) H):=by
 intro pins s σ H xs us Q I r h
 obtain ⟨p,ys,rfl,hq,q⟩:=h
 obtain ⟨u,rfl,rx⟩:=vals1 r
 cases rx
 have hn:=jz
 rcases hq with hq | hq
 ·obtain ⟨its,r',pl,hz⟩:=I.list hq
  have hlen:=r'.length
  exact Calls.call_len_list pl.isList (by simp only [List.size_toArray] <;> omega) ⟨.int ys.length,H,I.tok _,⟨s.toks+1,by rw [List.size_toArray,hlen]⟩,q⟩
 ·obtain ⟨its,r',pl,hz⟩:=I.tuple hq
  have hlen:=r'.length
  exact len_tuple pl (by simp only [List.size_toArray] <;> omega) ⟨.int ys.length,H,I.tok _,⟨s.toks+1,by rw [List.size_toArray,hlen]⟩,q⟩
theorem dX:fJ X (.type "tuple") (fun xs H Q=>∃ p ys,xs=[.ref p]∧((SqL X.K H p ys∧∀ l,H l=none→Q (.ref l) (upd H l (.tup ys)))∨(SqT X.K H p ys∧Q (.ref p) H))):=by
 intro pins s σ H xs us Q I r h
 obtain ⟨p,ys,rfl,h⟩:=h
 obtain ⟨u,rfl,rx⟩:=vals1 r
 cases rx
 rcases h with ⟨hq,q⟩ | ⟨hq,q⟩
 ·obtain ⟨its,r',pl,hz⟩:=I.list hq
  have hlen:=r'.length
  refine call_tuple_list pl.isList (fun h' kp=>?_) (by simp only [List.size_toArray] <;> omega)
  have I1:Inv X pins σ H { s with heap:=h' }:=I.kept (t':=s.toks) kp
  have I2:Inv X pins σ (upd H h'.objs.size (.tup ys)) { s with heap:=h'.push { cls:=.type "tuple",data:=.seq its.toArray } } :=
   I1.laid (t':=s.toks) (fun b o e=>Heap.get?_push_of_some _ e) (Nat.le_refl _) (show ObjOk X.prog X.w _ _ _ (.tup ys) from ⟨hz,its,r',IsTup.new _ _⟩)
  exact ⟨.ref h'.objs.size,_,I2,rfl,q _ (I1.hok.fresh (Nat.le_refl _))⟩
 ·obtain ⟨its,r',pl,hz⟩:=I.tuple hq
  exact call_tuple_same pl ⟨.ref p,H,I,rfl,q⟩

noncomputable def tyV (K:PySem.W.Frag) (T:String) (x:V) (H:Hp):Prop:=match x with
 | .str _=>T="str"
 | .int _=>T="int"
 | .ref p=>(T="list" ∧ ∃ xs,SqL K H p xs)∨(T="tuple" ∧ ∃ o,K.lookup p=some o∧o.cls=.type "tuple" ∧ o.dict=none) ∨
   (T="dict" ∧ ((∃ kvs,H p=some (.dK kvs))∨∃ kvs,H p=some (.dT kvs)))∨(T="set" ∧ ∃ S n,H p=some (.set S n))
 | _=>False
theorem Cz {pins:List (Addr×Obj)} {σ:St} {H:Hp} {s:Shared} {T:String} {x:V} {v:Value} (I:Inv X pins σ H s) (r:RelV x v) (ty:tyV X.K T x H) :
  s.TypeIs v T∧∀ a,v=.ref a→∃ ob,s.heap.get? a=some ob∧ob.dict=none:=by
 cases x with
 | str z =>
  obtain ⟨t,rfl⟩:=r
  cases (show T="str" from ty)
  exact ⟨typeIs_str s z t,fun _ e=>nomatch e⟩
 | int i =>
  obtain ⟨t,rfl⟩:=r
  cases (show T="int" from ty)
  exact ⟨typeIs_int s i t,fun _ e=>nomatch e⟩
 | ref p =>
  cases r
  rcases ty with ⟨rfl,xs,hq⟩ | ⟨rfl,o,hk,hc,hd⟩ | ⟨rfl,hk⟩ | ⟨rfl,S,n,hk⟩
  ·obtain ⟨its,_,pl,_⟩:=I.list hq
   refine ⟨pl.isList.typeIs,fun a e=>?_⟩
   cases e
   obtain ⟨o,n,e,c,hd,_⟩:=pl
   exact ⟨o,e,hd⟩
  ·refine ⟨⟨o,I.kIn p o hk,hc⟩,fun a e=>?_⟩
   cases e
   exact ⟨o,I.kIn _ o hk,hd⟩
  ·have z:∃ o,s.heap.get? p=some o∧o.ExactDict:=by
    rcases hk with ⟨kvs,hk⟩ | ⟨kvs,hk⟩
    ·obtain ⟨_,_,_,_,o,_,_,e,ex,_⟩:=I.hok p _ hk
     exact ⟨o,e,ex⟩
    ·obtain ⟨_,_,_,_,o,_,_,e,ex,_⟩:=I.hok p _ hk
     exact ⟨o,e,ex⟩
   obtain ⟨o,e,ex⟩:=z
   refine ⟨⟨o,e,ex.1⟩,fun a e2=>?_⟩
   cases e2
   exact ⟨o,e,ex.2.1⟩
  ·obtain ⟨o,_,_,_,e,ex,_⟩:=I.hok p _ hk
   refine ⟨⟨o,e,ex.1⟩,fun a e2=>?_⟩
   cases e2
   exact ⟨o,e,ex.2.1⟩
 | _=>exact False.elim ty
noncomputable def tBM (K:PySem.W.Frag) (T:String) (r:V→List V→Hp→VK→Prop) (to:TE) (t:TA):TE:=fun σ H Q=>to σ H fun x H1=>tyV K T x H1∧t σ H1 fun xs H2=>r x xs H2 Q
variable {o e:Expr} {es:List Expr} {to:TE} {t:TA} {name:Str} {apos cpos:Pos} {T id:String} {r:V→List V→Hp→VK→Prop}
theorem iK (pa:PlainAttrs T) (slot:Slot T name id) (hty:typeOf (.builtin id)=pure (.type "method_descriptor")) (hm:MtR X id r) (ho:PE X o to) (ha:PA X (e :: es) t)
  (hbase:attributeBase o name X.env (eval o X.env)=eval o X.env:=by rfl)
  (hfew:((backTo cpos (starEach (e :: es) X.env)).all (fun x=>!x.1) && (backToKw cpos (keywordEach [] X.env)).all (fun x=>x.1.isSome)
   && decide ((e :: es).length+([]:List Keyword).length+(if ([]:List Keyword).isEmpty then 0 else 1) < 30))=true:=by rfl)
  (hline:(apos.endLine == cpos.line)=true:=by rfl) (hs:starEach (e :: es) X.env=(false,eval e X.env) :: starEach es X.env:=by rfl) (hplain:(backTo cpos (starEach es X.env)).any (·.1)=false:=by rfl) :
  PE X (.Call (.Attribute o name apos) (e :: es) [] cpos) (tBM X.K T r to t):=by
 intro pins s σ H Q I h
 refine wpAny_Call_method_late hbase hfew hline rfl (thn (ho pins s σ H _ I h) fun v s1 ⟨x,H1,I1,r1,ty,q1⟩=>?_)
 obtain ⟨h1,h2⟩:=Cz I1 r1 ty
 refine ⟨T,id,pa,slot,hty,h1,h2,?_⟩
 have hA:=ha cpos pins s1 σ H1 _ I1 q1
 rw [hs] at hA ⊢
 refine Calls.callWith_builtin (by show (false || (backTo cpos (starEach es X.env)).any (·.1))=false; rw [hplain] <;> rfl) (Calls.evalArgs_plain ?_)
 exact thn hA fun us s2 ⟨vs,H2,I2,r2,q2⟩=>hm pins s2 σ H2 x vs v us Q I2 r1 r2 q2
/- xs.append(e),list.index on a module's tuple .. are MtR facts of 06m -/
end
end L2

namespace L2
open PySem PySem.Spec PyProof.Rows

noncomputable def MtM (X:Cx) (id:String) (r:V→List V→Hp→VK→Prop):Prop :=
 ∀ (pins:List (Addr×Obj)) (s:Shared) (σ:St) (H:Hp) (x:V) (xs:List V) (v:Value) (us:List Value) (Q:VK),Inv X pins σ H s→RelV x v→Vals xs us→r x xs H Q →
  wpAny (model X.prog X.w) X.A (call (.builtin id) (v :: us)) (EP X pins σ Q) X.xe s

theorem Vals.one:∀ {x:V} {us:List Value},Vals [x] us→∃ u,us=[u]∧RelV x u
 | _,_,.cons r .nil=>⟨_,rfl,r⟩
theorem Vals.two {x y:V} {us:List Value} (r:Vals [x,y] us):∃ u v,us=[u,v]∧RelV x u∧RelV y v :=
 vals2 r
theorem Vals.zero:∀ {us:List Value},Vals [] us→us=[]
 | _,.nil=>rfl
theorem Vals.eraseIdx:∀ {xs:List V} {us:List Value} (i:Nat),Vals xs us→Vals (xs.eraseIdx i) (us.eraseIdx i)
 | _,_,_,.nil=>.nil
 | _,_,0,.cons _ t=>t
 | _,_,i+1,.cons r t=>.cons r (Vals.eraseIdx i t)
theorem Vals.rep {xs:List V} {us:List Value} (h:Vals xs us):∀ k:Nat,Vals (List.replicate k xs).flatten (List.replicate k us).flatten
 | 0=>.nil
 | k+1=>by
  rw [List.replicate_succ,List.replicate_succ,List.flatten_cons,List.flatten_cons]
  exact Vals.append h (Vals.rep h k)
theorem jC {α:Type}:∀ (l:List α) (i:Nat),(l.eraseIdx i).length≤l.length
 | [],_=>Nat.le_refl _
 | _ :: _,0=>Nat.le_succ _
 | _ :: r,i+1=>Nat.succ_le_succ (jC r i)
theorem foldl_rep (its:List Value):∀ (k:Nat) (acc:List Value),
  List.foldl (fun x1 x2=>x1++x2) acc.toArray (List.replicate k its.toArray)=(acc++(List.replicate k its).flatten).toArray
 | 0,acc=>by simp
 | k+1,acc=>by
  have e:acc.toArray++its.toArray=(acc++its).toArray:=by simp
  have e2:(acc++its)++(List.replicate k its).flatten=acc++(List.replicate (k+1) its).flatten:=by
   rw [List.replicate_succ,List.flatten_cons,List.append_assoc]
  rw [← e2,← foldl_rep its k (acc++its),← e,List.replicate_succ,List.foldl_cons]

section
variable {X:Cx} {pins:List (Addr×Obj)} {σ:St} {H:Hp} {s:Shared} {l b:Addr} {xs ys zs:List V}

theorem Inv.lset {its its':List Value} {n:Nat} {f:Array Value→Array Value} {t':Nat} (I:Inv X pins σ H s) (hH:H l=some (.lst xs))
  (e:s.heap.get? l=some { cls:=.type "list",data:=.seq its.toArray n }) (hf:f its.toArray=its'.toArray) (hv:Vals ys its') (hz:ys.length≤sizeLine) :
  Inv X pins σ (upd H l (.lst ys)) { s with heap:=s.heap.update l (Obj.mapSeq f),toks:=t' }:=by
 have q:=PySem.IsL.update e f
 rw [hf] at q
 refine I.write (x:=l) (e:=l) (by rw [hH]; exact trivial) (.inl rfl) (fun b' u hb hu=>(Heap.get?_update_other s.heap (Obj.mapSeq f) (Ne.symm hb)).trans hu) ⟨_,q⟩ ?_
 exact ⟨hz,its',_,hv,q⟩
theorem Inv.lnew {its:List Value} {t':Nat} (I:Inv X pins σ H s) (hv:Vals ys its) (hz:ys.length≤sizeLine) :
  Inv X pins σ (upd H s.heap.objs.size (.lst ys)) { s with heap:=s.heap.push { cls:=.type "list",data:=.seq its.toArray },toks:=t' } :=
 I.laid (fun _ _ q=>Heap.get?_push_of_some _ q) (Nat.le_refl _) ⟨hz,its,0,hv,Heap.get?_push_size _ rfl⟩
theorem Inv.fresh (I:Inv X pins σ H s):H s.heap.objs.size=none:=I.hok.fresh (Nat.le_refl _)
theorem Inv.lstM (I:Inv X pins σ H s) (hH:H l=some (.lst xs)):xs.length≤sizeLine∧∃ (its:List Value) (n:Nat),Vals xs its∧xs.length=its.length∧s.heap.get? l=some { cls:=.type "list",data:=.seq its.toArray n }:=by
 obtain ⟨z,its,n,r,e⟩:=I.hok l _ hH
 exact ⟨z,its,n,r,r.length,e⟩

theorem qK {n:Nat} (h:n≤sizeLine):Builtin.List.listTooLong n=false:=by
 unfold Builtin.List.listTooLong
 exact decide_eq_false (by omega)
end

section
variable {X:Cx}

noncomputable def zY:V→List V→Hp→VK→Prop:=fun x vs H Q=>∃ l xs y,x=.ref l∧vs=[y]∧H l=some (.lst xs)∧xs.length < sizeLine∧Q .non (upd H l (.lst (xs++[y])))
theorem iy:MtM X "list.append" zY:=by
 intro pins s σ H x vs v us Q I rx rv h
 obtain ⟨l,xs,y,rfl,rfl,hH,hz,q⟩:=h
 cases rx
 obtain ⟨u,rfl,ru⟩:=rv.one
 obtain ⟨z,its,n,r,hl,e⟩:=I.lstM hH
 refine call_meets F.slot_list_append ⟨_,e,rfl⟩ F.entry_list_append (F.args_list_append_2 _ _) (PySem.list_append l its.toArray n u (by rw [List.size_toArray]; omega)) ⟨e,?_⟩
 refine ⟨.non,_,I.lset (its':=its++[u]) hH e (by simp) (r.append (.cons ru .nil)) ?_,rfl,q⟩
 rw [List.length_append,List.length_singleton]
 omega

noncomputable def zZ:V→List V→Hp→VK→Prop:=fun x vs H Q=>∃ l b xs zs,x=.ref l∧vs=[.ref b]∧H l=some (.lst xs)∧H b=some (.lst zs)∧xs.length+zs.length≤sizeLine∧Q .non (upd H l (.lst (xs++zs)))
theorem DK:MtM X "list.extend" zZ:=by
 intro pins s σ H x vs v us Q I rx rv h
 obtain ⟨l,b,xs,zs,rfl,rfl,hH,hB,hz,q⟩:=h
 cases rx
 obtain ⟨u,rfl,ru⟩:=rv.one
 cases ru
 obtain ⟨z,its,n,r,hl,e⟩:=I.lstM hH
 obtain ⟨z2,its2,n2,r2,hl2,e2⟩:=I.lstM hB
 have hsz:its.toArray.size+its2.toArray.size≤sizeLine:=by rw [List.size_toArray,List.size_toArray]; omega
 have hlong:¬ (!its.toArray.isEmpty && Builtin.List.listTooLong (its.toArray.size+its2.toArray.size))=true:=by
  rw [qK hsz,Bool.and_false]
  exact Bool.false_ne_true
 refine call_meets F.slot_list_extend ⟨_,e,rfl⟩ F.entry_list_extend (F.args_list_extend_2 _ _)
  (AutoSeq1.list_extend_list_list_0 l its.toArray n b its2.toArray n2 hlong (by rw [List.size_toArray]; omega) (by omega)) ⟨e,e2,?_⟩
 refine ⟨.non,_,I.lset (its':=its++its2) hH e (by simp) (r.append r2) ?_,rfl,q⟩
 rw [List.length_append]
 omega


noncomputable def CG:V→List V→Hp→VK→Prop:=fun x vs H Q=>∃ l xs i k y,x=.ref l∧vs=[.int i]∧H l=some (.lst xs)∧-(2 ^ 63)≤i∧i < 2 ^ 63∧seqIndex? i xs.length=some k∧xs[k]?=some y∧Q y (upd H l (.lst (xs.eraseIdx k)))
theorem qL:MtM X "list.pop" CG:=by
 intro pins s σ H x vs v us Q I rx rv h
 obtain ⟨l,xs,i,k,y,rfl,rfl,hH,h1,h2,hk,hy,q⟩:=h
 cases rx
 obtain ⟨u,rfl,ru⟩:=rv.one
 obtain ⟨t,rfl⟩:=ru
 obtain ⟨z,its,n,r,hl,e⟩:=I.lstM hH
 obtain ⟨w,hw,rw'⟩:=r.get hy
 refine call_meets F.slot_list_pop ⟨_,e,rfl⟩ F.entry_list_pop (F.args_list_pop_2 _ _)
  (MeetsSeq.list_pop_at l its.toArray n i t k w (fitsIndex_both h1 h2) (by rw [List.size_toArray,← hl]; exact hk) (by rw [← Array.getElem?_toList]; exact hw) (by rw [List.size_toArray]; omega)) ⟨e,?_⟩
 refine ⟨y,_,I.lset (its':=its.eraseIdx k) hH e ?_ (r.eraseIdx k) ?_,rw',q⟩
 ·show its.toArray.eraseIdxIfInBounds k=(its.eraseIdx k).toArray
  rw [List.eraseIdxIfInBounds_toArray]
 ·have:=jC xs k
  omega



noncomputable def FZ:R2:=fun x y H Q=>∃ l b xs zs,x=.ref l∧y=.ref b∧H l=some (.lst xs)∧H b=some (.lst zs)∧xs.length+zs.length≤sizeLine∧∀ p,H p=none→Q (.ref p) (upd H p (.lst (xs++zs)))
theorem jD:OpR X (binaryOp .Add) FZ:=by
 intro pins s σ H x y v u Q I rx ry h
 obtain ⟨l,b,xs,zs,rfl,rfl,hH,hB,hz,q⟩:=h
 cases rx
 cases ry
 obtain ⟨z,its,n,r,hl,e⟩:=I.lstM hH
 obtain ⟨z2,its2,n2,r2,hl2,e2⟩:=I.lstM hB
 refine PySem.P.add_list e e2 ?_ (by rw [List.size_toArray,List.size_toArray]; omega)
 have ea:its.toArray++its2.toArray=(its++its2).toArray:=by simp
 rw [ea]
 exact ⟨.ref _,_,I.lnew (t':=s.toks) (r.append r2) (by rw [List.length_append]; omega),rfl,q _ I.fresh⟩
noncomputable def G3:R2:=fun x y H Q=>∃ l k xs,x=.ref l∧y=.int k∧H l=some (.lst xs)∧-(2 ^ 63)≤k∧k < 2 ^ 63∧xs.length * k.toNat≤sizeLine ∧
 ∀ p,H p=none→Q (.ref p) (upd H p (.lst (List.replicate k.toNat xs).flatten))
theorem len_rep {α:Type} (xs:List α) (k:Nat):(List.replicate k xs).flatten.length=k * xs.length:=by
 induction k with
 | zero=>simp
 | succ k ih=>rw [List.replicate_succ,List.flatten_cons,List.length_append,ih,Nat.succ_mul,Nat.add_comm]
theorem CJ:OpR X (binaryOp .Mult) G3:=by
 intro pins s σ H x y v u Q I rx ry h
 obtain ⟨l,k,xs,rfl,rfl,hH,h1,h2,hz,q⟩:=h
 cases rx
 obtain ⟨t,rfl⟩:=ry
 obtain ⟨z,its,n,r,hl,e⟩:=I.lstM hH
 have hlen:its.toArray.size * k.toNat≤sizeLine:=by rw [List.size_toArray,← hl]; exact hz
 have hcap:¬ its.toArray.size * k.toNat > (2 ^ 63 - 1) / 8:=by
  have:(sizeLine:Nat)≤(2 ^ 63 - 1) / 8:=by decide
  omega
 have hfit:¬ (!Builtin.List.listFitsIndex k)=true:=by
  rw [fitsIndex_both h1 h2]
  exact Bool.false_ne_true
 have hlong:¬ Builtin.List.listTooLong (its.toArray.size * k.toNat)=true:=by
  rw [qK hlen]
  exact Bool.false_ne_true
 have hnew:List.foldl (fun x1 x2=>x1++x2) #[] (List.replicate (if its.toArray.isEmpty=true then 0 else k.toNat) its.toArray)=(List.replicate k.toNat its).flatten.toArray:=by
  have f0:∀ m:Nat,List.foldl (fun x1 x2=>x1++x2) #[] (List.replicate m its.toArray)=(List.replicate m its).flatten.toArray:=fun m=>by
   have:=foldl_rep its m []
   rw [List.nil_append] at this
   exact this
  rw [f0]
  cases its with
  | nil=>simp
  | cons a r'=>rw [if_neg (by simp)]
 refine wpAny_binaryOp_repeat_ref (T:="list") (U:="int") (by decide) ⟨_,e,rfl⟩ (fun s'=>typeIs_int s' k t) noFill_list_mul F.fills_int_mul F.slot_int_rmul repeat_list F.slot_int_index.lookup
  (call_meets F.slot_int_rmul (typeIs_int s k t) F.entry_int_rmul (F.args_int_rmul_2 _ _) (int___rmul___int_list k t l its.toArray n)
   ⟨e,rfl,⟨_,e,rfl⟩,call_meets F.slot_list_mul ⟨_,e,rfl⟩ F.entry_list_mul (F.args_list_mul_2 _ _) (AutoListH.list___mul___list_int_3 l its.toArray n k t hfit hcap hlong) ⟨e,?_⟩⟩)
 rw [hnew]
 exact ⟨.ref _,_,I.lnew (t':=s.toks) (r.rep k.toNat) (by rw [len_rep,Nat.mul_comm]; exact hz),rfl,q _ I.fresh⟩

end

section
variable {prog:Program} {w:World} {A:Around} {E:Value→Shared→Prop} {s:Shared}
end

section
variable {X:Cx}
end
end L2

namespace Att
open PySem PySem.W PySem.Calls PyProof.Rows

theorem jY {P:Params} {h:Heap}:∀ (ns:List Int) (vs:List Value),WellAll P h vs (ns.map WData.int)→IntsAre vs ns:=by
 intro ns
 induction ns with
 | nil =>
  intro vs w
  rw [List.map_nil] at w
  cases w
  exact .nil
 | cons n ns ih =>
  intro vs w
  rw [List.map_cons] at w
  cases w with
  | cons a b =>
   cases a
   exact .cons _ _ (ih _ b)

theorem vQ {l:OpenLaw} {n:Nat} (hn:l.most=some n) {P:Params} {h:Heap} {args:List WData} {vals:List Value}
  (hpre:l.row.toRowW.claim.pre args=true) (hwl:WellAll P h vals args) :
  ∃ a vs ns,vals=[Value.ref a]∧args=[WData.list (ns.map WData.int)]∧h.get? a=some { cls:=.type "list",data:=.seq vs.toArray }∧IntsAre vs ns∧ns.length≤n:=by
 have hsh:WShape.hasAll [] args [.list .int]=true:=(pre_splitW hpre).1
 have hc:l.pre.holds [] { args:=args }=true:=(pre_splitW hpre).2
 obtain ⟨d,r,rfl,h1,h2⟩:=hasAllW_cons hsh
 obtain rfl:=hasAllW_nil h2
 obtain ⟨xs,rfl,h3⟩:=hasW_list h1
 obtain ⟨ns,rfl⟩:=items_int h3
 have hlen:ns.length≤n:=by
  unfold OpenLaw.pre at hc
  have h4:(WTm.not (.lt (.lit (.int (n:Int))) (.len (.arg 0)))).holds [] { args:=[.list (ns.map .int)] }=true:=by
   have h4:=(holds_andW hc).1
   rw [hn] at h4
   exact h4
  have h5:=condW_of h4 (w_not (w_lt w_lit (w_len_list (w_arg rfl))))
  rw [List.length_map] at h5
  refine Nat.le_of_not_lt fun q=>?_
  have q':(n:Int) < ((ns.length:Nat):Int):=by omega
  first
   | (rw [decide_eq_true q'] at h5; exact absurd h5 (by decide))
   | (simp at h5; omega)
 cases hwl with
 | cons w1 w2 =>
  cases w2
  cases w1 with
  | list ho hall=>exact ⟨_,_,ns,rfl,rfl,ho,jY ns _ hall,hlen⟩

theorem vR (l:OpenLaw) (args:List WData):l.row.toRowW.claim.post args (.bool true) args=true :=
 postW_of (r:=l.row.toRowW) (X:=(true == true))
  (show WShape.has [] (.bool true) .bool=true by first | rfl | decide | simp [WShape.has,WShape.arms,WShape.armsAll])
  (show (WTm.eq .res (.lit (.bool true))).value [] { args:=args,res:=some (.bool true),after:=args }=some (.bool (true == true)) from w_eq_bool (w_res rfl) w_lit) rfl


theorem attach_call {l:OpenLaw} {n:Nat} {q:Program} {loose:List Str} {XP:(Str→Option Value)→Heap→Prop} {YP:World→Heap→Prop} {d:DefRec}
  (hn:l.most=some n) (hdf:d.params.defaults=[])
  (call:∀ (w:World) (s₀ s₁:Shared) (mg mb:Str→Option Value) (fa:Addr) (o:Obj) (pm cd doc:Value) (a:Addr) (vs:List Value) (ns:List Int),
   Ground q loose [] XP w s₀ mg mb s₁.heap→YP w s₁.heap →
   s₁.heap.get? fa=some o→o.data=.func (docDef d.name d.params d.body d.scope pm cd doc)→s₁.heap.CodeRec cd d.name→mg d.name=some (.ref fa) →
   s₁.heap.get? a=some { cls:=.type "list",data:=.seq vs.toArray }→IntsAre vs ns→ns.length≤n→s₁.gens=#[] →
   codeAny (model l.prog w) callerA (.call (.ref fa) ⟨[.ref a],[]⟩) (fun r s'=>r=.ok (.ret (.bool true))∧OldK s₁.heap s'.heap∧s'.os=s₁.os∧AllBare s'.gens) s₁) :
  WalkO q loose XP YP l.row.toRowW d [] (fun f vs=>PySem.call f vs):=by
 intro w s₀ s₁ mg mb G Y fa o pm cd doc dV kV ho hd hcd hD hmg hg args vals as hpre hlay hrd hwl hlo
 obtain rfl:dV=.none:=Dflts.none hD hdf
 obtain rfl:kV=.none:=Dflts.noKw hD
 obtain ⟨a,vs,ns,rfl,rfl,hobj,hints,hlen⟩:=vQ hn hpre hwl
 refine enter_call (codeAny_mono (call w s₀ s₁ mg mb fa o pm cd doc a vs ns G Y ho (fd_plain hd) hcd hmg hobj hints hlen hg) fun r s' hq=>?_)
 obtain ⟨rfl,h2,h3,h4⟩:=hq
 exact ⟨.inl ⟨.bool true,.bool true,[],rfl,fun _=>rfl,.bool true,vR l _,fun _=>⟨List.Pairwise.nil,fun _ hm=>(nomatch hm)⟩⟩,h2,h3,h4⟩


section
variable {prog:Program} {w:World} {A:Around} {E:Value→Shared→Prop} {s:Shared} {K:Frag}






end
end Att

namespace L2
open PySem PySem.Spec PyProof.Rows

theorem jE:∀ {vs:List Value} {ns:List Int},IntsAre vs ns→Vals (ns.map V.int) vs
 | _,_,.nil=>.nil
 | _,_,.cons n t h=>.cons ⟨t,rfl⟩ (jE h)


end L2

namespace L2
open PySem PySem.Spec PyProof.Rows


end L2

/- THE LAST THEOREM (shape; LID,My.* are yours):
   My.Adr: a structure of the addresses that your layer names (classes,functions); My.Txt K t: a structure (Prop) of the equations over K;
   My.txt_mk:{K} {implicit addresses ..} (e1:nsIn K mainGlobals "law" = some (some (.ref f))) (e2:K.lookup f=some ⟨oc,od,.func (fnOf "law" "law" params body scope dV kV doc pm an cdv ct),sl⟩) (e3:codeIn K cdv "law" = true) ..:∃ t,My.Txt K t

set_option maxRecDepth 100000 in
set_option maxHeartbeats 0 in
theorem PySem.Challenge.cw_LID_holds : PySem.Challenge.rw_LID.Holds := by
 w_on; o_law; k_head; (case hw=>w_witness2)
 k_fill
 refine L2.walk_of (l:=PySem.Challenge.rw_LID) (n:=63) (k:=40) (x:="script") (CX:=fun w=>..) (sp:=fun _=>My.sp_law) rfl (by decide) rfl ⟨rfl,by decide,by decide⟩ (fun w h Y=>PySem.W.kIn_of Y) ?F ?S ?C
 case F =>
  intro w mg fa h KX G hmg
  have T:∃ t,My.Txt (L2.KOf KX) t:=by
   dsimp only [L2.KOf]                          -- K must stand as «<heap const> w.params» for k_is
   refine' My.txt_mk ?e1 ?e2 ?e3 ..
   (case e1=>PySem.W.k_is)                    -- in the order: a name -> its address -> its object -> its parts
   (case e2=>PySem.W.k_is)
   ..
  obtain ⟨t,T⟩:=T
  have e0:=hmg.symm.trans (PySem.W.mg_of KX G T.law)
  cases e0                                       -- fa is the law's own address
  exact ⟨_,fun s u=>.of_eq rfl,fun base kb nb=>My.law_fn T kb nb⟩     -- if «.of_eq rfl» comes too early: refine' ⟨_,?b,fun base kb nb=>My.law_fn T kb nb⟩; exact fun s u=>.of_eq rfl
 case S=>exact fun w H a ns hl hO hS=>..
 case C=>exact ..
(the tactic k_is has no namespace: write k_is) -/

namespace L2
open PySem PySem.Spec PyProof.Rows

noncomputable def fU (s:Stmt):Arguments:=match s with
 | .FunctionDef _ a _ _ _ _ _ _ _ _=>a
 | _=>{ posonlyargs:=[],args:=[],vararg:=none,kwonlyargs:=[],kw_defaults:=[],kwarg:=none,defaults:=[] }
noncomputable def cZ (s:Stmt):List Stmt:=match s with
 | .FunctionDef _ _ b _ _ _ _ _ _ _=>b
 | _=>[]
noncomputable def aD (s:Stmt):Scope:=match s with
 | .FunctionDef _ _ _ _ _ _ sc _ _ _=>sc
 | _=>{ kind:=.function,names:=[],isGenerator:=false,isCoroutine:=false }

noncomputable abbrev CX0:CXT:=fun _ _ _ _ _ _=>False
noncomputable abbrev E0:XK:=fun _ _ _=>False
theorem El {X:Cx}:pA CX0 X E0:=fun _ _ _ _ _ _ _ h=>h.elim

structure Fun (K:PySem.W.Frag) (x qual:Str) (st:Stmt) (f:Addr) (fd:FuncData):Prop where
 ex:∃ (oc:Value) (od:Option Addr) (kV doc pm:Value) (an:Option Addr) (cdv ct:Value) (osl:Array (Option Value)),
  fd=PySem.W.fnOf x qual (fU st) (cZ st) (aD st) .none kV doc pm an cdv ct∧K.lookup f=some ⟨oc,od,.func fd,osl⟩∧PySem.W.codeIn K cdv qual=true
 kp:PySem.W.keepIn K (.ref f)=true
section
variable {P:Program} {w:World} {K:PySem.W.Frag} {mg:Str→Option Value} {base:Heap}
theorem Fun.ok {x qual:Str} {st:Stmt} {f:Addr} {fd:FuncData} {N ps:List Str} {k:Nat} {sp:Sp} (F:Fun K x qual st f fd) (S:FnScope N ps (aD st)) (len:∀ vs H Q E,sp vs H Q E→vs.length=ps.length)
  (hbody:∀ (cdv:Value) (A:Around) (outer:List Env) (s:Shared) (H:Hp) (vs:List V) (Q:VK) (E:XK),Room k (A.deeper (envOfC qual (aD st) s.heap.objs.size f cdv))→sp vs H Q E →
   ∃ t,PSs (jB CX0 P w K mg base N qual (aD st) f cdv A outer s H E).nox (cZ st) t∧t { nx:=fun _ H'=>Q .non H',rt:=Q } (start N vs) H):FnOk P w K mg base CX0 (k+1) f fd ps sp:=by
 obtain ⟨oc,od,kV,doc,pm,an,cdv,ct,osl,rfl,lk,hcd⟩:=F.ex
 refine xr lk hcd S len fun A outer s H vs Q E hr hsp=>?_
 obtain ⟨t,h,q⟩:=hbody cdv A outer s H vs Q E hr hsp
 exact ⟨t,h.nox,q⟩
theorem Fun.binds {x qual:Str} {st:Stmt} {f:Addr} {fd:FuncData} {ps:List Str} (F:Fun K x qual st f fd)
  (h:∀ (kV doc pm:Value) (an:Option Addr) (cdv ct:Value) (us:List Value),us.length=ps.length→bindArgs (PySem.W.fnOf x qual (fU st) (cZ st) (aD st) .none kV doc pm an cdv ct) ⟨us,[]⟩=pure (ps.zip us)):Binds K fd ps []:=by
 obtain ⟨oc,od,kV,doc,pm,an,cdv,ct,osl,rfl,lk,hcd⟩:=F.ex
 exact .all (h kV doc pm an cdv ct)
theorem xF {x qual:Str} {st:Stmt} {f:Addr} {oc:Value} {od an:Option Addr} {osl:Array (Option Value)} {kV doc pm cdv ct:Value} (l:K.lookup f=some ⟨oc,od,.func (PySem.W.fnOf x qual (fU st) (cZ st) (aD st) .none kV doc pm an cdv ct),osl⟩)
  (c:PySem.W.codeIn K cdv qual=true) (k:PySem.W.keepIn K (.ref f)=true):Fun K x qual st f (PySem.W.fnOf x qual (fU st) (cZ st) (aD st) .none kV doc pm an cdv ct):=⟨⟨oc,od,kV,doc,pm,an,cdv,ct,osl,rfl,l,c⟩,k⟩
end
theorem gU {A:Around} {k:Nat} (hr:Room k A):A.units+1 < cLine:=Nat.lt_of_le_of_lt (Nat.add_le_add_left (by decide:1≤64) _) hr.units

section
variable {X:Cx}
theorem pv (i:Nat) {x:Str} {pos:Pos} (hN:X.N[i]?=some x:=by rfl) (hv:Vis X.env.scope x:=by first | exact Or.inl rfl | exact Or.inr (Or.inl rfl) | exact Or.inr (Or.inr rfl)) (hd:(x == ("__debug__" : Str))=false:=by decide)
  (hcd:(x == ("__classdict__" : Str))=false:=by decide):PE X (.Name x pos) (vL i):=tG hN hv hd hcd
end

theorem bf {A B:Prop} (h:B):if false=true then A else B:=by
 rw [if_neg Bool.false_ne_true]
 exact h
theorem aY {A B:Prop} (h:A):if true=true then A else B:=by
 rw [if_pos rfl]
 exact h
theorem mX {c A B:Prop} [Decidable c] (h1:c→A) (h2:¬ c→B):if c then A else B:=by
 by_cases h:c
 ·rw [if_pos h]
  exact h1 h
 ·rw [if_neg h]
  exact h2 h
theorem xG {c A B:Prop} [Decidable c] (hc:c) (h:B):if (!decide c)=true then A else B:=by
 rw [decide_eq_true hc]
 exact bf h

noncomputable def Same (H H':Hp):Prop:=∀ b o,H b=some o→H' b=some o
theorem Same.refl (H:Hp):Same H H:=fun _ _ h=>h
theorem Same.trans {H H1 H2:Hp} (a:Same H H1) (b:Same H1 H2):Same H H2:=fun c o h=>b c o (a c o h)
theorem Same.free {H H':Hp} (e:Same H H') {l:Addr} (h:H' l=Option.none):H l=Option.none:=by
 cases q:H l with
 | none=>rfl
 | some o =>
  rw [e l o q] at h
  cases h

end L2

set_option Elab.async false
set_option linter.all false
set_option maxRecDepth 100000
namespace L2
open PySem PySem.Spec PyProof.Rows

noncomputable def cu (cells:List (Str×Addr)):List (Str×NameKind)→List (Str×Addr)→List (Str×Addr)
 | [],acc=>acc
 | (n,k) :: r,acc=>cu cells r (if k=.free then (n,(cells.lookup n).getD 0) :: acc else acc)
theorem oh {env:Env}:∀ (l:List (Str×NameKind)) (acc:List (Str×Addr)),(∀ p∈l,p.2=NameKind.free→(env.cells.lookup p.1).isSome=true) →
  (forIn l acc fun (x:Str×NameKind) (r:List (Str×Addr))=>(if (x.2 == NameKind.free)=true then do let a ← cellOf env x.1; pure (ForInStep.yield ((x.1,a) :: r)) else pure (ForInStep.yield r):Sem (ForInStep (List (Str×Addr)))))=pure (cu env.cells l acc)
 | [],acc,_=>rfl
 | (n,k) :: r,acc,h=>by
  rw [List.forIn_cons]
  have ih:=fun a=>oh (env:=env) r a fun p hp=>h p (List.mem_cons_of_mem _ hp)
  by_cases hk:k=.free
  ·subst hk
   have hs:=h (n,.free) List.mem_cons_self rfl
   obtain ⟨c,hc⟩:=Option.isSome_iff_exists.mp hs
   have e1:cellOf env n=pure c:=by unfold cellOf; rw [show env.cells.lookup n=some c from hc]
   have e2:cu env.cells ((n,.free) :: r) acc=cu env.cells r ((n,c) :: acc):=by
    show cu env.cells r (if NameKind.free=NameKind.free then (n,(env.cells.lookup n).getD 0) :: acc else acc)=_
    rw [if_pos rfl,show env.cells.lookup n=some c from hc]
    rfl
   rw [e2]
   simp only [beq_self_eq_true,if_true,e1,pure_bind]
   exact ih _
  ·have hb:(k == NameKind.free)=false:=by simpa using hk
   have e2:cu env.cells ((n,k) :: r) acc=cu env.cells r acc:=by
    show cu env.cells r (if k=NameKind.free then _ else acc)=_
    rw [if_neg hk]
   rw [e2]
   simp only [hb,Bool.false_eq_true,if_false,pure_bind]
   exact ih _
theorem kJ {scope:Scope} {env:Env} (h:∀ p∈scope.names,p.2=NameKind.free→(env.cells.lookup p.1).isSome=true):closureFor scope env=pure (cu env.cells scope.names []):=by
 have e:=oh (env:=env) scope.names [] h
 unfold closureFor
 simp only [bind_pure]
 exact e
theorem gW {cells:List (Str×Addr)} {x:Str} {c:Addr}:∀ (l:List (Str×NameKind)) (acc:List (Str×Addr)),(∀ p∈l,p.2=NameKind.free→(cells.lookup p.1).isSome=true)→(cu cells l acc).lookup x=some c →
  acc.lookup x=some c∨cells.lookup x=some c
 | [],_,_,h=>.inl h
 | (n,k) :: r,acc,hf,h=>by
  have h':(cu cells r (if k=.free then (n,(cells.lookup n).getD 0) :: acc else acc)).lookup x=some c:=h
  rcases gW r _ (fun p hp=>hf p (List.mem_cons_of_mem _ hp)) h' with e | e
  ·by_cases hk:k=.free
   ·rw [if_pos hk] at e
    obtain ⟨d,hd⟩:=Option.isSome_iff_exists.mp (hf (n,k) List.mem_cons_self hk)
    rw [show cells.lookup n=some d from hd] at e
    rw [List.lookup_cons] at e
    cases hx:x == n with
    | true =>
     rw [hx] at e
     have:x=n:=by simpa using hx
     subst this
     exact .inr (hd.trans (by simpa using e))
    | false =>
     rw [hx] at e
     exact .inl e
   ·rw [if_neg hk] at e
    exact .inl e
  ·exact .inr e
theorem jd {cells:List (Str×Addr)} {x:Str}:∀ (l:List (Str×NameKind)) (acc:List (Str×Addr)),((∃ k,(x,k)∈l∧k=NameKind.free)∨(∃ c,acc.lookup x=some c))→∃ c,(cu cells l acc).lookup x=some c
 | [],_,h=>by
  rcases h with ⟨k,hk,_⟩ | h
  ·exact absurd hk (by simp)
  ·exact h
 | (n,k) :: r,acc,h=>by
  show ∃ c,(cu cells r (if k=.free then (n,(cells.lookup n).getD 0) :: acc else acc)).lookup x=some c
  refine jd r _ ?_
  rcases h with ⟨k',hk,e⟩ | ⟨c,hc⟩
  ·rcases List.mem_cons.mp hk with z | z
   ·cases z
    refine .inr ?_
    rw [if_pos e]
    exact ⟨_,by rw [List.lookup_cons,beq_self_eq_true]⟩
   ·exact .inl ⟨k',z,e⟩
  ·refine .inr ?_
   by_cases hk:k=.free
   ·rw [if_pos hk,List.lookup_cons]
    cases hx:x == n with
    | true=>exact ⟨_,rfl⟩
    | false=>exact ⟨c,hc⟩
   ·rw [if_neg hk]
    exact ⟨c,hc⟩
theorem jU {scope:Scope} {env:Env} {x:Str} {k:NameKind} (hc:∀ p∈scope.names,p.2≠NameKind.cell) (h:(relabel scope env).names.lookup x=some k) (hk:k=.cell∨k=.free):∃ k',(x,k')∈scope.names∧k'=NameKind.free:=by
 have m:=PySem.mem_of_lookup h
 obtain ⟨⟨n,k0⟩,hm,e⟩:=List.mem_map.mp m
 dsimp only at e
 split at e
 ·rename_i c
  cases e
  have:(k0 == NameKind.free)=true:=by
   cases q:(k0 == NameKind.free) with
   | true=>rfl
   | false=>rw [q] at c; simp at c
  exact ⟨k0,hm,by simpa using this⟩
 ·cases e
  rcases hk with z | z
  ·exact absurd z (hc _ hm)
  ·exact ⟨_,hm,z⟩

noncomputable def cxC (X:Cx) (scope:Scope) (Nc:List Str) (C:Addr) (fp:List Addr) (pins:List (Addr×Obj)) (s₂:Shared) (H₂:Hp):Cx where
 prog:=X.prog
 w:=X.w
 K:=X.K
 mg:=X.mg
 base:=X.base
 A:=X.A
 N:=Nc
 s₀:=s₂
 H₀:=H₂
 env:=compEnvC scope (cu X.env.cells scope.names []) C X.env
 outer:=X.stack
 stack:=X.stack
 ex:=fp
 fn:=fun _=>false
 calm:=X.calm
 pn:=X.pn++pins
 xe:=fun _ _=>False
noncomputable def Caps (X:Cx) (env':Env):List Str→List (Option Nat)→Prop
 | [],[]=>True
 | _ :: N,none :: r=>Caps X env' N r
 | x :: N,some i :: r=>(X.N[i]?=some x∧(X.env.kindOf x=some .cell∨X.env.kindOf x=some .free)∧env'.cells.lookup x=X.env.cells.lookup x∧(env'.kindOf x=some .cell∨env'.kindOf x=some .free))∧Caps X env' N r
 | _,_=>False
noncomputable def capσ (σ:St) (src:List (Option Nat)):St:=src.map fun o=>match o with | none=>none | some i=>(σ[i]?).join
theorem Caps.len {X:Cx} {env':Env}:∀ {N:List Str} {src:List (Option Nat)},Caps X env' N src→src.length=N.length
 | [],[],_=>rfl
 | [],_ :: _,h=>h.elim
 | _ :: _,[],h=>h.elim
 | _ :: N,none :: r,h=>by
  have h':Caps X env' N r:=h
  have:=Caps.len (N:=N) (src:=r) h'
  simp [this]
 | _ :: N,some _ :: r,h=>by
  have:=Caps.len (N:=N) (src:=r) h.2
  simp [this]
theorem Caps.get {X:Cx} {env':Env} {x:Str}:∀ {N:List Str} {src:List (Option Nat)} {j i:Nat},Caps X env' N src→N[j]?=some x→src[j]?=some (some i) →
  X.N[i]?=some x∧(X.env.kindOf x=some .cell∨X.env.kindOf x=some .free)∧env'.cells.lookup x=X.env.cells.lookup x∧(env'.kindOf x=some .cell∨env'.kindOf x=some .free)
 | [],[],_,_,_,e,_=>by simp at e
 | [],_ :: _,_,_,h,_,_=>h.elim
 | _ :: _,[],_,_,h,_,_=>h.elim
 | _ :: _,none :: _,0,_,_,_,e=>by simp at e
 | _ :: N,none :: r,j+1,_,h,e1,e2=>by
  have h':Caps X env' N r:=h
  exact Caps.get (N:=N) (src:=r) (j:=j) h' (by simpa using e1) (by simpa using e2)
 | _ :: _,some _ :: _,0,_,h,e1,e2=>by
  simp at e1 e2
  subst e1 e2
  exact h.1
 | _ :: _,some _ :: _,j+1,_,h,e1,e2=>Caps.get (j:=j) h.2 (by simpa using e1) (by simpa using e2)

structure CScope (X:Cx) (scope:Scope):Prop where
 kind:scope.kind=.function
 cell:scope.names.all (fun p=>p.2 != .cell)=true
 names:scope.names.all (fun p=>p.2 != .local || scope.names.lookup p.1 == some .local)=true
 free:scope.names.all (fun p=>p.2 != .free || (X.env.cells.lookup p.1).isSome)=true
section
variable {X:Cx} {scope:Scope}
theorem CScope.hcell (S:CScope X scope):∀ p∈scope.names,p.2≠NameKind.cell:=fun p hp=>by
 have:=List.all_eq_true.mp S.cell p hp
 simpa using this
theorem CScope.hnames (S:CScope X scope):∀ p∈scope.names,p.2=.local→scope.names.lookup p.1=some .local:=fun p hp e=>by
 have:=List.all_eq_true.mp S.names p hp
 simpa [e] using this
theorem CScope.hfree (S:CScope X scope):∀ p∈scope.names,p.2=NameKind.free→(X.env.cells.lookup p.1).isSome=true:=fun p hp e=>by
 have:=List.all_eq_true.mp S.free p hp
 simpa [e] using this
end

noncomputable def PTs (X:Cx) (ifs:List Expr) (t:TT):Prop :=
 ∀ (pins:List (Addr×Obj)) (s:Shared) (σ:St) (H:Hp) (Q:Bool→Hp→Prop),Inv X pins σ H s→t σ H Q →
  wpAny (model X.prog X.w) X.A (forIn ifs true fun c r=>if r=true then do let ok ← isTrue c X.env (eval c X.env); pure (ForInStep.yield ok) else pure (ForInStep.yield r)) (TP X pins σ Q) X.xe s
noncomputable def xH:TT:=fun _ H Q=>Q true H
theorem cJ {X:Cx}:PTs X [] xH:=fun _ _ _ H _ I h=>wpAny_tests_nil ⟨H,I,h⟩
theorem uF {X:Cx} {c:Expr} {t:TT} (h:PT X c t):PTs X [c] t:=fun pins s σ H Q I q=>wpAny_tests_one (h pins s σ H Q I q)

theorem pG {prog:Program} {w:World} {A:Around} {R:Result→Shared→Prop} {s:Shared} {elt target iter:Expr} {ifs:List Expr} {scope:Scope} {pos:Pos} {it acc:Value} {env:Env} (I:Nat→Shared→Prop)
  (turn:∀ n s,I n s→wpAny (model prog w) A (pyNext it) (fun r s₁=>match r with
   | none=>R (.ok .next) s₁
   | some v=>wpAny (model prog w) A (letOwnedTupleGo target it v) (fun _ s₁'=>wpAny (model prog w) A (assign target env v) (fun _ s₂ =>
     wpAny (model prog w) A (forIn ifs true fun c r=>if r=true then do let ok ← isTrue c env (eval c env); pure (ForInStep.yield ok) else pure (ForInStep.yield r)) (fun ok s₃ =>
      if ok=true then wpAny (model prog w) A (eval elt env) (fun x s₄ =>
       wpAny (model prog w) A (call (.builtin "list.append") [acc,x]) (fun _ s₅=>∃ m,m < n∧I m s₅) (fun _ _=>False) s₄) (fun _ _=>False) s₃
      else ∃ m,m < n∧I m s₃) (fun _ _=>False) s₂) (fun _ _=>False) s₁') (fun _ _=>False) s₁) (fun _ _=>False) s)
  (n:Nat) (h:I n s) :
  codeAny (model prog w) A (.compLoop (.ListComp elt [⟨target,iter,ifs,0⟩] scope pos) 0 it acc env) R s:=by
 refine codeAny_loop rfl I (fun n s hI=>?_) n h
 show wpAny _ A ((compTurn (.ListComp elt [⟨target,iter,ifs,0⟩] scope pos) 0 it acc env).onRaise (fun x=>do noteFrame x env; theTreesLotGoes x)) _ _ s
 refine wpAny_noted ?_
 rw [compTurn_list]
 refine wpAny_bind (wpAny_standAt (wpAny_bind (wpAny_mono (turn n s hI) (fun r s₁ h₁=>?_) fun _ _ h'=>h'.elim)))
 cases r with
 | none=>exact wpAny_pure h₁
 | some v =>
  refine wpAny_bind (wpAny_mono h₁ (fun _ s₁' h₁'=>?_) fun _ _ h'=>h'.elim)
  refine wpAny_bind (wpAny_mono h₁' (fun _ s₂ h₂=>wpAny_bind (wpAny_mono h₂ (fun ok s₃ h₃=>?_) fun _ _ h'=>h'.elim)) fun _ _ h'=>h'.elim)
  cases ok with
  | false=>exact wpAny_pure ⟨rfl,h₃⟩
  | true =>
   exact wpAny_bind (wpAny_bind (wpAny_mono h₃ (fun x s₄ h₄=>wpAny_bind (wpAny_mono h₄ (fun _ s₅ h₅=>wpAny_pure (wpAny_pure ⟨rfl,h₅⟩)) fun _ _ h'=>h'.elim)) fun _ _ h'=>h'.elim))

noncomputable def lF (J:It) (g:TG) (tt:TT) (te:TE) (Fin:List V→Hp→Prop) (σ0:St) (H0:Hp):Prop :=
 ∃ W:Nat→Nat→List V→St→Hp→Prop,(∃ m,W 0 m [] σ0 H0)∧∀ i m ys σ H,W i m ys σ H→ys.length < sizeLine ∧
  ((J.stop i H∧Fin ys H)∨(J.go i H∧∀ x H',J.yld i H x H'→g x σ H' fun σ2 H2=>tt σ2 H2 fun b H3 =>
   if b=true then te σ2 H3 fun y H4=>∃ m',m' < m∧W (i+1) m' (ys++[y]) σ2 H4 else ∃ m',m' < m∧W (i+1) m' ys σ2 H3))

theorem ou {X:Cx} {tg iter elt:Expr} {ifs:List Expr} {scope:Scope} {pos:Pos} {Nc:List Str} {src:List (Option Nat)} {g:TG} {tt:TT} {te:TE} (hc:X.calm=true) (S:CScope X scope)
  (hcaps:∀ C,Caps X (compEnvC scope (cu X.env.cells scope.names []) C X.env) Nc src)
  (hb:∀ C fp pins s₂ H₂,PG (cxC X scope Nc C fp pins s₂ H₂) tg g∧PTs (cxC X scope Nc C fp pins s₂ H₂) ifs tt∧PE (cxC X scope Nc C fp pins s₂ H₂) elt te)
  {pins:List (Addr×Obj)} {s₂:Shared} {σ:St} {H₂:Hp} {it:Addr} {fp:List Addr} {tn:Nat→Heap→Prop} {J:It} (I₂:Inv X pins σ H₂ s₂) (T:Turn X.prog X.w X.K tg J fp it tn) (st:tn 0 s₂.heap) (hf:∀ b∈fp,pq X pins H₂ b)
  {Fin:List V→Hp→Prop} (hW:lF J g tt te Fin (capσ σ src) H₂) {RR:Value→Addr→Result→Shared→Prop} {E:Value→Shared→Prop}
  (hRR:∀ D C s' ys H' m,Fin ys H'→H' D=none→Inv X pins σ (upd H' D (.lst ys)) s'→s'.heap.Ns C m→pq X pins (upd H' D (.lst ys)) C→RR (.ref D) C (.ok .next) s') :
  wpAny (model X.prog X.w) X.A (newList []) (fun acc s₃=>wpAny (model X.prog X.w) X.A (newFunctionEnv scope X.env.globals (cu X.env.cells scope.names []) [] X.env.qual none .none (some X.env)) (fun cenv s₄ =>
   codeAny (model X.prog X.w) X.A (.compStart (.ListComp elt [⟨tg,iter,ifs,0⟩] scope pos) 0 (.ref it) acc { cenv with scope:=relabel scope X.env }) (RR acc cenv.locals) s₄) E s₃) E s₂:=by
 refine wpAny_newObj_type (wpAny_newFunctionEnv S.hcell (by intro y hy; simp at hy) (fun h₁ hns₁ hsb₁=>?_) S.kind)
 dsimp only at hns₁ hsb₁ ⊢
 generalize hH2:s₂.heap.push { cls:=.type "list",dict:=none,data:=.seq ([]:List Value).toArray }=HH at hns₁ hsb₁ ⊢
 generalize hDD:s₂.heap.objs.size=D at hns₁ hsb₁ ⊢
 have hC:HH.objs.size=D+1:=by rw [← hH2,Heap.size_push,hDD]
 generalize hCC:HH.objs.size=C at hns₁ hsb₁ hC ⊢
 have hDC:D≠C:=by omega
 have below:∀ b,b < s₂.heap.objs.size→b≠C∧b≠D:=fun b hb=>by rw [hDD] at hb; exact ⟨by rw [hC]; exact Nat.ne_of_lt (Nat.lt_succ_of_lt hb),Nat.ne_of_lt hb⟩
 have belowO:∀ {b o},s₂.heap.get? b=some o→b≠C∧b≠D:=fun {b o} e=>below b (Heap.lt_size e)
 have old:∀ b o,s₂.heap.get? b=some o→h₁.get? b=some o:=fun b o e=>hsb₁.extBut b o (belowO e).1 (Heap.get?_push_of_some _ (hH2 ▸ Heap.get?_push_of_some _ e))
 have hacc:h₁.get? D=some { cls:=.type "list",data:=.seq ([]:List Value).toArray }:=hsb₁.extBut _ _ hDC (Heap.get?_push_of_some _ (hH2 ▸ hDD ▸ Heap.get?_push_size _ rfl))
 have fpO:∀ b∈fp,∃ o,s₂.heap.get? b=some o:=fun b hb=>let ⟨o,e,_⟩:=T.obj _ _ st b hb; ⟨o,e⟩
 have fpC:∀ b∈fp,b≠C∧b≠D:=fun b hb=>let ⟨o,e⟩:=fpO b hb; belowO e
 have sub:∀ {x c},(cu X.env.cells scope.names []).lookup x=some c→X.env.cells.lookup x=some c:=fun {x c} e=>by
  rcases gW scope.names [] S.hfree e with z | z
  ·simp at z
  ·exact z
 have ltD:∀ {b o},s₂.heap.get? b=some o→b < D:=fun {b o} e=>by rw [← hDD]; exact Heap.lt_size e
 have fresh:∀ a,D≤a→H₂ a=none:=fun a ha=>I₂.hok.fresh (by rw [hDD]; exact ha)
 have cellO:∀ {x c},X.env.cells.lookup x=some c→∃ o,s₂.heap.get? c=some o:=fun {x c} e=>let ⟨v,o,ho,_⟩:=I₂.cell x c e; ⟨o,ho⟩
 have stkC:∀ b∈frs X.stack,∃ o,s₂.heap.get? b=some o:=fun b hb=>by
  rcases List.mem_cons.mp (I₂.stkSub b hb) with e | hb
  ·rw [e]
   obtain ⟨m,⟨o,_,_,ho,_⟩,_⟩:=I₂.loc
   exact ⟨o,ho⟩
  ·obtain ⟨_,o,ho,_⟩:=I₂.funs.mem hb
   exact ⟨o,ho⟩
 have nstk:∀ a,D≤a→a ∉ frs X.stack:=fun a ha hb=>by
  obtain ⟨o,e⟩:=stkC a hb
  exact absurd (Nat.lt_of_lt_of_le (ltD e) ha) (Nat.lt_irrefl _)
 have fpS:∀ b∈fp,b ∉ frs X.stack:=fun b hb z=>by
  obtain ⟨_,f1,f2,_⟩:=hf b hb
  rcases List.mem_cons.mp (I₂.stkSub b z) with e | e
  ·exact f1 e
  ·exact f2 e
 generalize hX':cxC X scope Nc C fp pins s₂ H₂=X'
 obtain ⟨hg,ht,he⟩:=hb C fp pins s₂ H₂
 rw [hX'] at hg ht he
 have ok':X'.Ok:=by
  subst hX'
  refine ⟨I₂.ok.mod,S.kind,I₂.ok.glob,I₂.ok.blt,?_,?_,?_,?_,I₂.ok.hd,I₂.ok.frames,.inl rfl,?_,I₂.bs,Nat.le_trans I₂.ok.bsz I₂.sz,?_,fpS,I₂.stack,I₂.stkFree⟩
  ·show s₂.heap.objs.size≤C
   omega
  ·exact fun x y c e1 e2=>I₂.ok.inj x y c (sub e1) (sub e2)
  ·intro x hx
   have hx:(relabel scope X.env).names.lookup x=some .cell∨(relabel scope X.env).names.lookup x=some .free:=hx
   have:∃ k',(x,k')∈scope.names∧k'=NameKind.free:=by
    rcases hx with z | z
    ·exact jU S.hcell z (.inl rfl)
    ·exact jU S.hcell z (.inr rfl)
   exact jd scope.names [] (.inl this)
  ·intro x c z
   exact absurd z (by show ¬ (false=true); simp)
  ·intro b hb
   exact ⟨(fpC b hb).1,fun x c e=>(hf b hb).2.2.2.2.1 x c (sub e)⟩
  ·intro b o e hb
   obtain ⟨_,_,_,f3,_⟩:=hf b hb
   rcases f3 with z | z
   ·exact I₂.ok.noex b o e z
   ·exact absurd (Nat.lt_of_lt_of_le (Heap.lt_size (I₂.ok.bs b o e).1) z) (Nat.lt_irrefl _)
 have eP:X'.prog=X.prog:=by subst hX'; rfl
 have ew:X'.w=X.w:=by subst hX'; rfl
 have eK:X'.K=X.K:=by subst hX'; rfl
 have eA:X'.A=X.A:=by subst hX'; rfl
 have eE:X'.xe=fun _ _=>False:=by subst hX'; rfl
 have eL:X'.env.locals=C:=by subst hX'; rfl
 have eN:X'.env=compEnvC scope (cu X.env.cells scope.names []) C X.env:=by subst hX'; rfl
 have ec:X'.calm=true:=by subst hX'; exact hc
 have eS:X'.s₀=s₂:=by subst hX'; rfl
 have eH:X'.H₀=H₂:=by subst hX'; rfl
 have ef:X'.fs=frs X.stack:=by subst hX'; rfl
 have ex:X'.ex=fp:=by subst hX'; rfl
 have ep:X'.pn=X.pn++pins:=by subst hX'; rfl
 have I0:Inv X' [] (capσ σ src) H₂ { s₂ with heap:=h₁,toks:=s₂.toks+([]:List (Str×Value)).length }:=by
  refine ⟨ok',by rw [eS],I₂.bare,by rw [eS,eH]; exact Un.kept old,⟨_,by rw [eL]; exact hns₁,?_⟩,?_,by rw [eL]; exact fresh _ (by omega),?_,?_,by rw [eP,ew]; exact I₂.hok.kept old,?_⟩
  ·intro j x v e1 e2 e3
   have e1:Nc[j]?=some x:=by subst hX'; exact e1
   have e4:∃ i,src[j]?=some (some i)∧(σ[i]?).join=some v:=by
    unfold capσ at e2
    rw [List.getElem?_map] at e2
    cases q:src[j]? with
    | none=>rw [q] at e2; cases e2
    | some o =>
     rw [q] at e2
     cases o with
     | none=>simp at e2
     | some i=>exact ⟨i,rfl,by simpa using e2⟩
   obtain ⟨i,e5,e6⟩:=e4
   obtain ⟨c1,c2,c3,c4⟩:=(hcaps C).get e1 e5
   have e7:σ[i]?=some (some v):=by
    cases q:σ[i]? with
    | none=>rw [q] at e6; simp at e6
    | some o=>rw [q] at e6; simp at e6; rw [e6]
   obtain ⟨m,_,hl⟩:=I₂.loc
   obtain ⟨u,r,l⟩:=hl i x v c1 e7 (.inr (by rcases c2 with z | z; exact .inl z; exact .inr z))
   refine ⟨u,r,?_⟩
   rcases l with ⟨k,_⟩ | ⟨_,c,e,z⟩
   ·rcases c2 with c2 | c2 <;> (rw [k] at c2; cases c2)
   ·refine .inr ⟨by rw [eN]; exact c4,c,by rw [eN]; exact c3.trans e,?_⟩
    obtain ⟨o,ho,hd⟩:=z
    exact ⟨o,old c o ho,hd⟩
  ·intro x c e
   rw [eN] at e
   obtain ⟨v,o,ho,hd⟩:=I₂.cell x c (sub e)
   exact ⟨v,o,old c o ho,hd⟩
  ·intro x c e
   rw [eN] at e
   exact I₂.freeC x c (sub e)
  ·intro p hp
   rw [ep,List.append_nil] at hp
   obtain ⟨e,n,ne,nf,d⟩:=I₂.pin p hp
   refine ⟨old _ _ e,n,by rw [eL]; exact (belowO e).1,?_,d⟩
   rw [ef]
   intro z
   rcases List.mem_cons.mp (I₂.stkSub _ z) with q | q
   ·exact ne q
   ·exact nf q
  ·have:=(hcaps C).len
   subst hX'
   show (capσ σ src).length=Nc.length
   unfold capσ
   rw [List.length_map,this]
 have pnD:∀ p∈X'.pn,p.1≠D:=fun p hp=>by
  rw [ep] at hp
  exact (belowO (I₂.pin p hp).1).2
 have cellD:∀ x c,X'.env.cells.lookup x=some c→c≠D:=fun x c e=>by
  rw [eN] at e
  obtain ⟨o,ho⟩:=cellO (sub e)
  exact (belowO ho).2
 have fpk:∀ {P:List (Addr×Obj)} {H:Hp},(∀ p∈P,p.1=D)→(∀ b∈fp,H b=none)→∀ b∈fp,pq X' P H b:=fun {P H} hP hn b hb=>by
  refine ⟨hn b hb,by rw [eL]; exact (fpC b hb).1,by rw [ef]; exact fpS b hb,.inl (by rw [ex]; exact hb),fun x c e=>?_,fun p hp=>?_⟩
  ·rw [eN] at e
   exact (hf b hb).2.2.2.2.1 x c (sub e)
  ·rcases List.mem_append.mp hp with z | z
   ·rw [ep] at z
    exact (hf b hb).2.2.2.2.2 p z
   ·rw [hP p z]
    exact (fpC b hb).2.symm
 obtain ⟨W,⟨m0,w0⟩,step⟩:=hW
 have loop:∀ s₃:Shared,s₃={ s₂ with heap:=h₁,toks:=s₂.toks+([]:List (Str×Value)).length } →
   codeAny (model X.prog X.w) X.A (.compLoop (.ListComp elt [⟨tg,iter,ifs,0⟩] scope pos) 0 (.ref it) (.ref D) (compEnvC scope (cu X.env.cells scope.names []) C X.env)) (RR (.ref D) C) s₃:=by
  rintro s₃ rfl
  refine pG (fun n s'=>∃ i ys us k σ' H',Inv X' [] σ' H' s'∧tn i s'.heap∧(∀ b∈fp,H' b=none)∧H' D=none∧s'.heap.get? D=some { cls:=.type "list",data:=.seq (List.toArray us) k }∧Vals ys us∧W i n ys σ' H') ?_ m0
   ⟨0,[],[],_,_,_,I0,T.keep _ _ _ st fun b _ o e=>old b o e,fun b hb=>(hf b hb).1,fresh _ (Nat.le_refl _),hacc,.nil,w0⟩
  rintro n s3 ⟨i,ys,us,k,σ3,H3,I3,st3,fr3,nD3,oD3,rv3,w3⟩
  obtain ⟨hsz,cases3⟩:=step i n ys σ3 H3 w3
  have I3':Inv X' [(D,{ cls:=.type "list",data:=.seq us.toArray k })] σ3 H3 s3:=I3.pins_of fun p hp=>by
   rw [List.mem_singleton.mp hp]
   exact ⟨oD3,nD3,by rw [eL]; exact hDC,by rw [ef]; exact nstk _ (Nat.le_refl _),fun v z=>by cases z⟩
  have oneD:∀ p∈[(D,({ cls:=.type "list",data:=.seq us.toArray k }:Obj))],p.1=D:=fun p hp=>by rw [List.mem_singleton.mp hp]
  rcases cases3 with ⟨stop,fin⟩ | ⟨go,turn⟩
  ·-- the end
   have hd:=T.done X' eP ew eK ec i _ s3 σ3 H3 (fun _ _=>False) I3' (fpk oneD fr3) st3 stop
   rw [eA] at hd
   refine thn hd fun r s4 ⟨hr,I4⟩=>?_
   subst hr
   have pD:=I4.pin (D,{ cls:=.type "list",data:=.seq us.toArray k }) (List.mem_append_right _ (List.mem_singleton.mpr rfl))
   obtain ⟨mC,hnC,_⟩:=I4.loc
   rw [eL] at hnC
   have un4:=I4.base
   rw [eS,eH,ef,ex] at un4
   have hlen:ys.length≤sizeLine:=Nat.le_of_lt hsz
   have hok4:HOk X.prog X.w (upd H3 D (.lst ys)) s4.heap:=fun b u e=>by
    by_cases hb:b=D
    ·subst hb
     rw [ak] at e
     cases e
     exact ⟨hlen,us,k,rv3,pD.1⟩
    ·rw [az hb] at e
     have z:=I4.hok b u e
     rw [eP,ew] at z
     exact z.stay (fun c v _ q=>q) (fun c q=>by rw [az (aG q nD3)]; exact q) fun c xs q=>by rw [az (aG q nD3)]; exact q
   have un:Un (frs X.stack) fp H₂ (upd H3 D (.lst ys)) s₂.heap s4.heap:=⟨un4.keep,un4.slot,fun b o e n hx=>by rw [az (belowO e).2]; exact un4.free b o e n hx,un4.there,
    fun b xs e=>by
     have z:=un4.tups b xs e
     rw [az (aG z nD3)]; exact z,
    fun b o u e=>by
     have z:=un4.frzs b o u e
     rw [az (aG z nD3)]; exact z,
    fun b ps e=>by
     obtain ⟨mo,z⟩:=un4.tbls b ps e
     exact ⟨mo,by rw [az (aG z nD3)]; exact z⟩⟩
   have J4:Inv X pins σ (upd H3 D (.lst ys)) s4:=I₂.call' (ch:=fp) (by have:=I4.os; rw [eS] at this; exact this) un hok4 I4.bare fun b hb=>by
    obtain ⟨_,f1,f2,f3,f4,f5⟩:=hf b hb
    exact ⟨f3,f1,f4,f5⟩
   refine hRR D C s4 ys H3 mC fin nD3 J4 hnC ⟨?_,?_,?_,.inr ?_,?_,?_⟩
   ·rw [az hDC.symm]
    have:=I4.free
    rw [eL] at this
    exact this
   ·have:=I₂.lt
    rw [hDD] at this
    exact Nat.ne_of_gt (Nat.lt_of_lt_of_le this (by rw [hC]; exact Nat.le_succ _))
   ·intro z
    obtain ⟨_,o,ho,_⟩:=I₂.funs.mem z
    exact (belowO ho).1 rfl
   ·have:=I₂.sz
    rw [hDD] at this
    omega
   ·intro x c e z
    obtain ⟨o,ho⟩:=cellO e
    exact (belowO ho).1 z
   ·intro p hp z
    exact (belowO (I₂.pin p hp).1).1 z
  ·-- a turn
   have hd:=T.item X' eP ew eK ec i _ s3 σ3 H3 (fun _ _=>False) I3' (fpk oneD fr3) st3 go
   rw [eA] at hd
   refine thn hd fun r s4 ⟨u,hr,h4⟩=>?_
   subst hr
   refine thn h4 fun _ s5 ⟨x,H5,I5,r5,y5,st5,fr5⟩=>?_
   have I5':=I5.pinned (fpk oneD fr5) (T.obj _ _ st5)
   have hg':=hg _ s5 σ3 H5 x u _ I5' r5 (turn x H5 y5)
   rw [eP,ew,eA,eE,eN] at hg'
   refine thn hg' fun _ s6 ⟨σ6,H6,I6,q6⟩=>?_
   have ht':=ht _ s6 σ6 H6 _ I6 q6
   rw [eP,ew,eA,eE,eN] at ht'
   refine thn ht' fun okb s7 ⟨H7,I7,q7⟩=>?_
   have back:∀ {H8:Hp} {s8:Shared},Inv X' ([(D,({ cls:=.type "list",data:=.seq us.toArray k }:Obj))]++dD fp s5.heap) σ6 H8 s8 →
     Inv X' [] σ6 H8 s8∧tn (i+1) s8.heap∧(∀ b∈fp,H8 b=none)∧H8 D=none∧s8.heap.get? D=some { cls:=.type "list",data:=.seq us.toArray k }∧(∀ b∈fp,∀ o,s5.heap.get? b=some o→s8.heap.get? b=some o):=fun {H8 s8} I8=>by
    have pD:=I8.pin (D,{ cls:=.type "list",data:=.seq us.toArray k }) (List.mem_append_right _ (List.mem_append_left _ (List.mem_singleton.mpr rfl)))
    have pf:∀ b∈fp,∀ o,s5.heap.get? b=some o→s8.heap.get? b=some o:=fun b hb o e=>(I8.pin (b,o) (List.mem_append_right _ (List.mem_append_right _ (gB hb e)))).1
    refine ⟨I8.pins_of fun p hp=>absurd hp (by simp),T.keep _ _ _ st5 pf,fun b hb=>?_,pD.2.1,pD.1,pf⟩
    obtain ⟨o,e,d⟩:=T.obj _ _ st5 b hb
    exact (I8.pin (b,o) (List.mem_append_right _ (List.mem_append_right _ (gB hb e)))).2.1
   cases okb with
   | false =>
    obtain ⟨b1,b2,b3,b4,b5,_⟩:=back I7
    obtain ⟨m',hm,w7⟩:=q7
    exact ⟨m',hm,i+1,ys,us,k,σ6,H7,b1,b2,b3,b4,b5,rv3,w7⟩
   | true =>
    have he':=he _ s7 σ6 H7 _ I7 q7
    rw [eP,ew,eA,eE,eN] at he'
    show wpAny _ _ (eval elt _) _ _ s7
    refine thn he' fun xv s8 ⟨y,H8,I8,r8,m',hm,w8⟩=>?_
    obtain ⟨b1,b2,b3,b4,b5,b6⟩:=back I8
    refine append_at (hsz:=by rw [List.size_toArray,← rv3.length]; exact Nat.le_of_lt hsz) b5 fun h9 hs9 hD9=>?_
    have I9:Inv X' [] σ6 H8 { s8 with heap:=h9 }:=b1.turned (t':=s8.toks) (fun b o hb e=>hs9.extBut b o hb e) b4 (by rw [eL]; exact hDC) (.inr (by rw [eS,hDD]; exact Nat.le_refl _)) cellD fun p hp=>by
     rw [List.append_nil] at hp
     exact pnD p hp
    refine ⟨m',hm,i+1,ys++[y],us++[xv],k+1,σ6,H8,I9,T.keep _ _ _ b2 fun b hb o e=>hs9.extBut b o (fpC b hb).2 e,b3,b4,?_,rv3.append (.cons r8 .nil),w8⟩
    show h9.get? D=_
    rw [hD9,List.push_toArray]
 refine codeAny_compStart_list (loop _ rfl) ?_
 exact T.self _ 0 _ _ _ (T.keep _ _ _ st fun b _ o e=>old b o e) (loop _ rfl)

noncomputable def BP (wi:TI) (src:List (Option Nat)) (g:TG) (tt:TT) (te:TE):TE:=fun σ H Q=>wi σ H fun J H1=>lF J g tt te (fun ys H'=>∀ D,H' D=none→Q (.ref D) (upd H' D (.lst ys))) (capσ σ src) H1
section
variable {X:Cx} {tg iter elt:Expr} {ifs:List Expr} {scope:Scope} {pos:Pos} {Nc:List Str} {wi:TI} {g:TG} {tt:TT} {te:TE}
theorem cM (Nc:List Str) (src:List (Option Nat)) (hc:X.calm=true) (hi:PI X tg iter wi)
  (hb:∀ C fp pins s₂ H₂,PG (cxC X scope Nc C fp pins s₂ H₂) tg g∧PTs (cxC X scope Nc C fp pins s₂ H₂) ifs tt∧PE (cxC X scope Nc C fp pins s₂ H₂) elt te)
  (hcaps:∀ C,Caps X (compEnvC scope (cu X.env.cells scope.names []) C X.env) Nc src) (S:CScope X scope)
  (hs:∀ x,foldedSetIterable iter X.env x=pure x:=by intro _; rfl):PE X (.ListComp elt [⟨tg,iter,ifs,0⟩] scope pos) (BP wi src g tt te):=by
 intro pins s σ H Q I h
 rw [eval_ListComp]
 refine wpAny_comprehension_free (use:=none) rfl hs (kJ S.hfree) S.kind S.hnames ?_
 refine thn (hi pins s σ H _ I h) fun v s1 h1=>thn h1 fun itv s2 h2=>?_
 obtain ⟨it,fp,tn,J,H2,e,I2,T,st2,f2,hW⟩:=h2
 subst e
 refine ou (RR:=fun acc C=>compPost (model X.prog X.w) X.A X.xe none (EP X pins σ Q) acc C) hc S hcaps hb I2 T st2 f2 hW ?_
 intro D C s' ys H' m fin nD J' hn fC
 obtain ⟨f0,f1,_,f3,f4,f5⟩:=fC
 refine ⟨m,hn,fun h'' hs''=>?_⟩
 exact ⟨.ref D,_,J'.turned (t':=s'.toks) (fun b o hb e=>hs''.extBut b o hb e) f0 f1 f3 f4 f5,rfl,fin D nD⟩
end

end L2

set_option Elab.async false
set_option linter.all false
set_option maxRecDepth 100000
namespace L2
open PySem PySem.Spec PyProof.Rows
section
variable {X:Cx}
theorem bu:fJ X (.builtin "isinstance") (fun xs H Q=>∃ x t n b,xs=[x,.ty n]∧TyOf X.K H x t∧PySem.W.kitOne X.K t (.type n)=some b∧Q (.bl b) H):=by
 intro pins s σ H xs us Q I r h
 obtain ⟨x,t,n,b,rfl,ty,e,q⟩:=h
 obtain ⟨u,c,rfl,ru,rc⟩:=vals2 r
 obtain rfl:c=Value.type n:=rc
 exact vP I ru ty e fun tk=>⟨.bl b,H,I.tok _,rfl,q⟩
theorem qM {prog:Program} {w:World} {A:Around} (bs:List Bool):TruthOf prog w A (fun i v=>∃ b,bs[i]?=some b∧v=Value.bool b) (fun i=>(bs[i]?).getD false):=by
 intro i v s Q E hP hQ
 obtain ⟨b,hb,rfl⟩:=hP
 dsimp only at hQ
 rw [hb] at hQ
 exact wpAny_truthy_bool hQ
theorem all_range (bs:List Bool):(List.range bs.length).all (fun i=>(bs[i]?).getD false)=bs.all id:=by
 apply Bool.eq_iff_iff.mpr
 rw [List.all_eq_true,List.all_eq_true]
 constructor
 ·intro h b hb
  obtain ⟨i,hi,e⟩:=List.getElem_of_mem hb
  have:=h i (List.mem_range.mpr hi)
  rw [List.getElem?_eq_getElem hi,e] at this
  exact this
 ·intro h i hi
  have hi:=List.mem_range.mp hi
  rw [List.getElem?_eq_getElem hi]
  exact h _ (List.getElem_mem hi)
theorem gD:∀ {bs:List Bool} {us:List Value},Vals (bs.map V.bl) us→us=bs.map Value.bool
 | [],_,.nil=>rfl
 | _ :: bs,_,.cons r t=>by
  rw [gD (bs:=bs) t,show _=Value.bool _ from r]
  rfl
theorem cD (hc:X.calm=true):fJ X (.builtin "all") (fun xs H Q=>∃ (p:Addr) (bs:List Bool),xs=[.ref p]∧SqL X.K H p (bs.map V.bl)∧Q (.bl (bs.all id)) H):=by
 intro pins s σ H xs us Q I r h
 obtain ⟨p,bs,rfl,hq,q⟩:=h
 obtain ⟨u,rfl,ru⟩:=vals1 r
 cases ru
 obtain ⟨its,rv,pl,hz⟩:=I.list hq
 have ei:=gD rv
 subst ei
 have hlt:p < s.heap.objs.size:=by obtain ⟨_,e,_⟩:=pl.isList; exact Heap.lt_size e
 refine call_all_walk (wpAny_pyIter_list pl.isList ?_)
 have W:=Walks.list (prog:=X.prog) (w:=X.w) (A:=X.A.in1) (I.ok.hd hc) s.heap.objs.size p (Nat.ne_of_lt hlt) (bs.map Value.bool).toArray
 refine ⟨_,_,_,_,_,_,_,rfl,{ sub:=W.sub,frame:=W.frame,item:=fun i s Q E hi st hQ=>W.item i s Q E hi st fun v h' tk hP=>hQ v h' tk ?_,done:=W.done,self:=W.self },⟨⟨_,Heap.get?_push_size _ rfl,rfl,rfl⟩,pl.isList.push _⟩,qM bs,fun h' tk k=>?_⟩
 ·have hP':(bs.map Value.bool).toArray[i]?=some v:=hP
  rw [List.getElem?_toArray,List.getElem?_map] at hP'
  cases e:bs[i]? with
  | none=>rw [e] at hP'; cases hP'
  | some b=>rw [e] at hP'; exact ⟨b,rfl,(Option.some.inj hP').symm⟩
 ·have hsz:(bs.map Value.bool).toArray.size=bs.length:=by simp
  rw [hsz,all_range]
  refine ⟨.bl _,H,?_,rfl,q⟩
  refine I.kept (h':=h') (t':=tk) fun b o e=>k b o ?_ (Heap.get?_push_of_some _ e)
  intro z
  have:b=s.heap.objs.size:=by simpa using z
  exact absurd (Heap.lt_size e) (by rw [this]; exact Nat.lt_irrefl _)
end
theorem jF {K:PySem.W.Frag}:PySem.W.kitOne K (.type "NoneType") (.type "int")=some false:=by kernel_rfl
theorem je {K:PySem.W.Frag}:PySem.W.kitOne K (.type "NoneType") (.type "bool")=some false:=by kernel_rfl
theorem iR {K:PySem.W.Frag}:PySem.W.kitOne K (.type "NoneType") (.type "tuple")=some false:=by kernel_rfl
theorem pH {K:PySem.W.Frag}:PySem.W.kitOne K (.type "bool") (.type "int")=some true:=by kernel_rfl
theorem mY {K:PySem.W.Frag}:PySem.W.kitOne K (.type "bool") (.type "bool")=some true:=by kernel_rfl
theorem lG {K:PySem.W.Frag}:PySem.W.kitOne K (.type "bool") (.type "tuple")=some false:=by kernel_rfl
theorem qN {K:PySem.W.Frag}:PySem.W.kitOne K (.type "int") (.type "int")=some true:=by kernel_rfl
theorem pI {K:PySem.W.Frag}:PySem.W.kitOne K (.type "int") (.type "bool")=some false:=by kernel_rfl
theorem mZ {K:PySem.W.Frag}:PySem.W.kitOne K (.type "int") (.type "tuple")=some false:=by kernel_rfl
theorem qO {K:PySem.W.Frag}:PySem.W.kitOne K (.type "str") (.type "int")=some false:=by kernel_rfl
theorem pJ {K:PySem.W.Frag}:PySem.W.kitOne K (.type "str") (.type "bool")=some false:=by kernel_rfl
theorem ni {K:PySem.W.Frag}:PySem.W.kitOne K (.type "str") (.type "tuple")=some false:=by kernel_rfl
theorem pK {K:PySem.W.Frag}:PySem.W.kitOne K (.type "list") (.type "int")=some false:=by kernel_rfl
theorem nj {K:PySem.W.Frag}:PySem.W.kitOne K (.type "list") (.type "bool")=some false:=by kernel_rfl
theorem lH {K:PySem.W.Frag}:PySem.W.kitOne K (.type "list") (.type "tuple")=some false:=by kernel_rfl
theorem nq {K:PySem.W.Frag}:PySem.W.kitOne K (.type "tuple") (.type "int")=some false:=by kernel_rfl
theorem lJ {K:PySem.W.Frag}:PySem.W.kitOne K (.type "tuple") (.type "bool")=some false:=by kernel_rfl
theorem jZ {K:PySem.W.Frag}:PySem.W.kitOne K (.type "tuple") (.type "tuple")=some true:=by kernel_rfl
theorem pL {K:PySem.W.Frag}:PySem.W.kitOne K (.type "dict") (.type "int")=some false:=by kernel_rfl
theorem nu {K:PySem.W.Frag}:PySem.W.kitOne K (.type "dict") (.type "bool")=some false:=by kernel_rfl
theorem lK {K:PySem.W.Frag}:PySem.W.kitOne K (.type "dict") (.type "tuple")=some false:=by kernel_rfl
end L2

set_option Elab.async false
set_option linter.all false
set_option maxRecDepth 100000
namespace L2
open PySem PySem.Spec PyProof.Rows

section
variable {κ:Type} [DecidableEq κ]
noncomputable def cg (kvs:List (κ×V)) (k:κ):Option V:=(kvs.find? fun kv=>decide (kv.1=k)).map (·.2)
noncomputable def putK (kvs:List (κ×V)) (k:κ) (v:V):List (κ×V) :=
 if (kvs.any fun kv=>decide (kv.1=k))=true then kvs.map (fun kv=>if kv.1=k then (kv.1,v) else kv) else kvs++[(k,v)]

theorem cF {p:κ×V} {r:List (κ×V)} {k:κ} (e:p.1=k):cg (p :: r) k=some p.2:=by simp [cg,List.find?_cons,e]
theorem cG {p:κ×V} {r:List (κ×V)} {k:κ} (e:¬ p.1=k):cg (p :: r) k=cg r k:=by simp [cg,List.find?_cons,e]
theorem gw (k:κ):∀ kvs:List (κ×V),(kvs.any fun kv=>decide (kv.1=k))=(cg kvs k).isSome
 | []=>rfl
 | p :: r=>by
  rw [List.any_cons]
  by_cases e:p.1=k
  ·simp only [cF e,decide_eq_true e,Bool.true_or,Option.isSome_some]
  ·rw [cG e,decide_eq_false e,Bool.false_or]; exact gw k r
theorem qP (k j:κ) (y:V):∀ kvs:List (κ×V),cg (kvs.map fun kv=>if kv.1=k then (kv.1,y) else kv) j=(cg kvs j).map fun x=>if j=k then y else x
 | []=>rfl
 | p :: r=>by
  have ih:=qP k j y r
  rw [List.map_cons]
  by_cases h:p.1=k
  ·rw [if_pos h]
   by_cases e:p.1=j
   ·rw [cF (p:=(p.1,y)) e,cF e,Option.map_some,if_pos (e.symm.trans h)]
   ·rw [cG (p:=(p.1,y)) e,cG e,ih]
  ·rw [if_neg h]
   by_cases e:p.1=j
   ·rw [cF (p:=p) e,cF e,Option.map_some,if_neg (fun z=>h (e.trans z))]
   ·rw [cG (p:=p) e,cG e,ih]
theorem oA (k j:κ) (y:V):∀ kvs:List (κ×V),cg kvs k=none→cg (kvs++[(k,y)]) j=if j=k then some y else cg kvs j
 | [],_=>by
  by_cases e:k=j
  ·rw [if_pos e.symm]; exact cF (p:=(k,y)) e
  ·rw [if_neg (fun z=>e z.symm)]; exact cG (p:=(k,y)) e
 | p :: r,hn=>by
  rw [List.cons_append]
  have hk:¬ p.1=k:=fun z=>by rw [cF z] at hn; cases hn
  rw [cG hk] at hn
  have ih:=oA k j y r hn
  by_cases e:p.1=j
  ·rw [cF e,cF e,if_neg (fun z=>hk (e.trans z))]
  ·rw [cG e,cG e,ih]
theorem eF (kvs:List (κ×V)) (k j:κ) (y:V):cg (putK kvs k y) j=if j=k then some y else cg kvs j:=by
 unfold putK
 by_cases a:(kvs.any fun kv=>decide (kv.1=k))=true
 ·rw [if_pos a,qP]
  rw [gw] at a
  by_cases e:j=k
  ·obtain ⟨x,hx⟩:=Option.isSome_iff_exists.mp a
   rw [if_pos e,e,hx,Option.map_some,if_pos rfl]
  ·rw [if_neg e]
   cases cg kvs j with
   | none=>rfl
   | some x=>rw [Option.map_some,if_neg e]
 ·rw [if_neg a]
  refine oA k j y kvs ?_
  rw [gw] at a
  cases q:cg kvs k with
  | none=>rfl
  | some x=>rw [q] at a; exact (a rfl).elim
theorem cA (kvs:List (κ×V)) (k:κ) (v:V):(putK kvs k v).length≤kvs.length+1:=by
 unfold putK
 split
 ·rw [List.length_map]; omega
 ·rw [List.length_append,List.length_cons,List.length_nil]; omega

theorem RelO.isSome_eq {o:Option V} {u:Option Value} (r:RelO o u):o.isSome=u.isSome:=by
 cases o with
 | none=>cases u with
  | none=>rfl
  | some _=>exact (show False from r).elim
 | some _=>cases u with
  | none=>exact (show False from r).elim
  | some _=>rfl
theorem RelO.getD {o:Option V} {u:Option Value} {d:V} {d':Value} (r:RelO o u) (rd:RelV d d'):RelV (o.getD d) (u.getD d'):=by
 cases o with
 | none=>cases u with
  | none=>exact rd
  | some _=>exact (show False from r).elim
 | some _=>cases u with
  | none=>exact (show False from r).elim
  | some _=>exact r

theorem KV.val {kvs:List (κ×V)} {vs:List (κ×Value)} (r:KV kvs vs) (k:κ):RelO (cg kvs k) (valueAt vs k):=by
 unfold KV at r
 induction r with
 | nil=>exact True.intro
 | @cons p q ps qs h t ih =>
  obtain ⟨h1,h2⟩:=h
  by_cases e:p.1=k
  ·have e':q.1=k:=h1.symm.trans e
   have b:valueAt (q :: qs) k=some q.2:=by simp [valueAt,List.find?_cons,e']
   rw [cF e,b]; exact h2
  ·have e':¬ q.1=k:=fun z=>e (h1.trans z)
   have b:valueAt (q :: qs) k=valueAt qs k:=by simp [valueAt,List.find?_cons,e']
   rw [cG e,b]; exact ih
theorem KV.any {kvs:List (κ×V)} {vs:List (κ×Value)} (r:KV kvs vs) (k:κ):(kvs.any fun kv=>decide (kv.1=k))=vs.any fun kv=>decide (kv.1=k):=by
 unfold KV at r
 induction r with
 | nil=>rfl
 | cons h t ih=>rw [List.any_cons,List.any_cons,ih,h.1]
theorem KV.repl {kvs:List (κ×V)} {vs:List (κ×Value)} (r:KV kvs vs) (k:κ) {y:V} {u:Value} (ry:RelV y u) :
  KV (kvs.map fun kv=>if kv.1=k then (kv.1,y) else kv) (vs.map fun kv=>if kv.1=k then (kv.1,u) else kv):=by
 unfold KV at r ⊢
 induction r with
 | nil=>exact .nil
 | @cons p q ps qs h t ih =>
  rw [List.map_cons,List.map_cons]
  refine .cons ?_ ih
  obtain ⟨h1,h2⟩:=h
  by_cases e:p.1=k
  ·rw [if_pos e,if_pos (h1.symm.trans e)]; exact ⟨h1,ry⟩
  ·rw [if_neg e,if_neg (fun z=>e (h1.trans z))]; exact ⟨h1,h2⟩
theorem KV.put {kvs:List (κ×V)} {vs:List (κ×Value)} (r:KV kvs vs) (k:κ) {y:V} {u:Value} (ry:RelV y u):KV (putK kvs k y) (stored vs k u):=by
 unfold putK stored
 rw [r.any k]
 by_cases e:(vs.any fun kv=>decide (kv.1=k))=true
 ·rw [if_pos e,if_pos e]; exact r.repl k ry
 ·rw [if_neg e,if_neg e]; exact Paired.snoc r ⟨rfl,ry⟩
theorem KV.length {kvs:List (κ×V)} {vs:List (κ×Value)} (r:KV kvs vs):kvs.length=vs.length:=Paired.length r
end


theorem qQ {P:Program} {w:World} {k:Key} {u:Value} (r:RelV (kV k) u):(bM P w).is k u=true:=by
 cases k with
 | inl i=>obtain ⟨t,e⟩:=(show ∃ t,u=Value.int i t from r); subst e; exact qD P w i t
 | inr x=>obtain ⟨t,e⟩:=(show ∃ t,u=Value.str x t from r); subst e; exact qF P w x t
theorem oE {P:Program} {w:World}:∀ {ks:List Key} {us:List Value},Vals (ks.map kV) us→ItemsAre (bM P w) ks us
 | [],_,r=>by rw [List.map_nil] at r; cases r; exact .nil
 | k :: ks,_,r=>by
  rw [List.map_cons] at r
  cases r with
  | cons h t=>exact .cons (qQ h) (oE t)

noncomputable abbrev KT (H:Hp):List (List Key×V)→List (List Key×Addr×Value)→Prop:=Paired fun p q=>p.1=q.1∧H q.2.1=some (.tup (p.1.map kV))∧RelV p.2 q.2.2
theorem KT.val {H:Hp} {kvs:List (List Key×V)} {xs:List (List Key×Addr×Value)} (r:KT H kvs xs) (k:List Key):RelO (cg kvs k) ((atKey xs k).map (·.2)):=by
 induction r with
 | nil=>exact True.intro
 | @cons p q ps qs h t ih =>
  obtain ⟨h1,_,h2⟩:=h
  by_cases e:p.1=k
  ·have e':q.1=k:=h1.symm.trans e
   have b:atKey (q :: qs) k=some q.2:=by simp [atKey,List.find?_cons,e']
   rw [cF e,b]; exact h2
  ·have e':¬ q.1=k:=fun z=>e (h1.trans z)
   have b:atKey (q :: qs) k=atKey qs k:=by simp [atKey,List.find?_cons,e']
   rw [cG e,b]; exact ih
theorem KT.repl {H:Hp} {kvs:List (List Key×V)} {xs:List (List Key×Addr×Value)} (r:KT H kvs xs) (k:List Key) {y:V} {u:Value} (ry:RelV y u) :
  KT H (kvs.map fun kv=>if kv.1=k then (kv.1,y) else kv) (xs.map (putAt k u)):=by
 induction r with
 | nil=>exact .nil
 | @cons p q ps qs h t ih =>
  rw [List.map_cons,List.map_cons]
  refine .cons ?_ ih
  obtain ⟨h1,h2,h3⟩:=h
  unfold putAt
  by_cases e:p.1=k
  ·rw [if_pos e,if_pos (h1.symm.trans e)]; exact ⟨h1,h2,ry⟩
  ·rw [if_neg e,if_neg (fun z=>e (h1.trans z))]; exact ⟨h1,h2,h3⟩
theorem KT.put {H:Hp} {kvs:List (List Key×V)} {xs:List (List Key×Addr×Value)} (r:KT H kvs xs) (k:List Key) {b:Addr} {y:V} {u:Value} (hb:H b=some (.tup (k.map kV))) (ry:RelV y u) :
  KT H (putK kvs k y) (storedH xs k b u):=by
 have e:(kvs.any fun kv=>decide (kv.1=k))=(atKey xs k).isSome:=by
  rw [gw,(r.val k).isSome_eq,Option.isSome_map]
 unfold putK storedH
 rw [e]
 by_cases q:(atKey xs k).isSome=true
 ·rw [if_pos q,if_pos q]; exact r.repl k ry
 ·rw [if_neg q,if_neg q]; exact Paired.snoc r ⟨rfl,hb,ry⟩
theorem KT.keeps {H H':Hp} {kvs:List (List Key×V)} {xs:List (List Key×Addr×Value)} (r:KT H kvs xs) (ht:∀ b ys,H b=some (.tup ys)→H' b=some (.tup ys)):KT H' kvs xs :=
 Paired.mapP r fun _ _ z=>⟨z.1,ht _ _ z.2.1,z.2.2⟩

section
variable {P:Program} {w:World} {H:Hp} {h:Heap} {a:Addr}
theorem BR {u:HO} (ok:HOk P w H h) (e:Rd H a u):ObjOk P w H h a u:=e.ok ok
theorem qR {kvs:List (Key×V)} (ok:HOk P w H h) (e:Rd H a (.dK kvs)):kvs.length≤sizeLine∧(a == sysModules)=false∧∃ vs,KV kvs vs∧h.DictOf (bM P w) a vs :=
 show ObjOk P w H h a (.dK kvs) from BR ok e
theorem xJ {kvs:List (Key×V)} (ok:HOk P w H h) (e:H a=some (.dK kvs)):kvs.length≤sizeLine∧(a == sysModules)=false∧∃ vs,KV kvs vs∧h.DictOf (bM P w) a vs:=qR ok (.inl e)
theorem pM {ks:List Key} (ok:HOk P w H h) (e:H a=some (.tup (ks.map kV))):(tupleKind (bM P w)).is h ks a:=by
 obtain ⟨_,its,r,o,h1,h2,n,h3⟩:=(show ObjOk P w H h a (.tup (ks.map kV)) from ok a _ e)
 exact ⟨o,its.toArray,n,h1,h2,h3,by simpa using oE r⟩
theorem qT {kvs:List (List Key×V)} (ok:HOk P w H h) (e:Rd H a (.dT kvs)):kvs.length≤sizeLine∧(a == sysModules)=false ∧
  ∃ xs,KT H kvs xs∧h.DictOfH (tupleKind (bM P w)) a xs:=by
 obtain ⟨z,y,xs,r,o,es,ep,h1,h2,h3,h4,h5⟩:=(show ObjOk P w H h a (.dT kvs) from BR ok e)
 refine ⟨z,y,xs,r,o,es,ep,h1,h2,h3,h4,fun x hx=>?_,h5⟩
 have all:∀ {l:List (List Key×V)} {m:List (List Key×Addr×Value)},KT H l m→∀ x∈m,(tupleKind (bM P w)).is h x.1 x.2.1:=by
  intro l m q
  induction q with
  | nil=>intro x hx; exact nomatch hx
  | @cons p q ps qs hq t ih =>
   intro x hx
   rcases List.mem_cons.mp hx with e | hx
   ·subst e
    exact pM ok (by rw [← hq.1]; exact hq.2.1)
   ·exact ih x hx
 exact all r x hx
theorem Em {kvs:List (List Key×V)} (ok:HOk P w H h) (e:H a=some (.dT kvs)):kvs.length≤sizeLine∧(a == sysModules)=false ∧
  ∃ xs,KT H kvs xs∧h.DictOfH (tupleKind (bM P w)) a xs:=qT ok (.inl e)
end

noncomputable def DGet (H:Hp) (a:Addr) (y:V) (r:Option V):Prop :=
 (∃ kvs k,Rd H a (.dK kvs)∧y=kV k∧r=cg kvs k)∨∃ kvs k b,Rd H a (.dT kvs)∧y=.ref b∧H b=some (.tup (k.map kV))∧r=cg kvs k
noncomputable def DPut (H:Hp) (a:Addr) (y v:V) (H':Hp):Prop :=
 (∃ kvs k,H a=some (.dK kvs)∧y=kV k∧kvs.length < sizeLine∧H'=upd H a (.dK (putK kvs k v))) ∨
 ∃ kvs k b,H a=some (.dT kvs)∧y=.ref b∧H b=some (.tup (k.map kV))∧kvs.length < sizeLine∧H'=upd H a (.dT (putK kvs k v))
theorem DGet.k {H:Hp} {a:Addr} {kvs:List (Key×V)} {k:Key} (e:H a=some (.dK kvs)):DGet H a (kV k) (cg kvs k):=.inl ⟨kvs,k,.inl e,rfl,rfl⟩
theorem DGet.t {H:Hp} {a b:Addr} {kvs:List (List Key×V)} {k:List Key} (e:H a=some (.dT kvs)) (eb:H b=some (.tup (k.map kV))):DGet H a (.ref b) (cg kvs k):=.inr ⟨kvs,k,b,.inl e,rfl,eb,rfl⟩
theorem DPut.k {H:Hp} {a:Addr} {kvs:List (Key×V)} {k:Key} {v:V} (e:H a=some (.dK kvs)) (hl:kvs.length < sizeLine):DPut H a (kV k) v (upd H a (.dK (putK kvs k v))):=.inl ⟨kvs,k,e,rfl,hl,rfl⟩
theorem DPut.t {H:Hp} {a b:Addr} {kvs:List (List Key×V)} {k:List Key} {v:V} (e:H a=some (.dT kvs)) (eb:H b=some (.tup (k.map kV))) (hl:kvs.length < sizeLine) :
  DPut H a (.ref b) v (upd H a (.dT (putK kvs k v))):=.inr ⟨kvs,k,b,e,rfl,eb,hl,rfl⟩


section
variable {X:Cx} {pins:List (Addr×Obj)} {σ:St} {H:Hp} {s:Shared} {a:Addr} {y v:V} {u r:Value} {o:Option V} {A:Around} {E:Value→Shared→Prop}

theorem Inv.big (I:Inv X pins σ H s):sysModules < s.heap.objs.size:=by
 have h:mainGlobals < s.heap.objs.size:=(I.mod.glob.keeps I.bk).lt
 exact Nat.lt_trans (by decide) h

theorem vU {Q:Value→Shared→Prop} (hu:A.units+1 < cLine) (I:Inv X pins σ H s) (g:DGet H a y (some v)) (ry:RelV y u) (h:∀ w' s',Inv X pins σ H s'→RelV v w'→Q w' s') :
  wpAny (model X.prog X.w) A (getItem (.ref a) u) Q E s:=by
 rcases g with ⟨kvs,k,e,ey,l⟩ | ⟨kvs,k,b,e,ey,eb,l⟩
 ·subst ey
  obtain ⟨z,hd,vs,rel,dd⟩:=qR I.hok e
  obtain ⟨w',hw,rw'⟩:=RelO.some_of (v:=v) (o:=valueAt vs k) (by rw [l]; exact rel.val k)
  exact wpAny_getItem_of (qQ ry) dd.mapOf hw (h w' _ (I.tok _) rw')
 ·subst ey
  cases (show u=Value.ref b from ry)
  obtain ⟨z,hd,xs,rel,dd⟩:=qT I.hok e
  obtain ⟨w',hw,rw'⟩:=RelO.some_of (v:=v) (o:=(atKey xs k).map (·.2)) (by rw [l]; exact rel.val k)
  obtain ⟨p,hp,hp2⟩:=Option.map_eq_some_iff.mp hw
  refine wpAny_getItem_heap (tupleKind_room_in1 hu) (pM I.hok eb) dd hp ?_
  rw [hp2]
  exact h w' _ (I.tok _) rw'
theorem kO {h':Heap} {t':Nat} {ob:HO} (I:Inv X pins σ H s) (mu:Mut (H a)) (hs:Heap.SameBut a s.heap h') (he:∃ q,h'.get? a=some q) (new:ObjOk X.prog X.w (upd H a ob) h' a ob) :
  Inv X pins σ (upd H a ob) { s with heap:=h',toks:=t' } :=
 I.write (x:=a) (e:=a) mu (.inl rfl) (fun b q hb z=>(hs.2 b hb).trans z) he new
theorem tX {P:Program} {w:World} {H':Hp} {h':Heap} {kvs:List (Key×V)} {vs:List (Key×Value)} (z:kvs.length≤sizeLine) (hd:(a == sysModules)=false) (rel:KV kvs vs) (dd:h'.DictOf (bM P w) a vs) :
  ObjOk P w H' h' a (.dK kvs):=⟨z,hd,vs,rel,dd⟩
theorem vV {H':Hp} {Q:Unit→Shared→Prop} (hu:A.units+1 < cLine) (I:Inv X pins σ H s) (g:DPut H a y v H') (ry:RelV y u) (rv:RelV v r) (h:∀ s',Inv X pins σ H' s'→Q () s') :
  wpAny (model X.prog X.w) A (setItem (.ref a) u r) Q E s:=by
 rcases g with ⟨kvs,k,e,ey,l,eH⟩ | ⟨kvs,k,b,e,ey,eb,l,eH⟩
 ·subst ey eH
  obtain ⟨z,hd,vs,rel,dd⟩:=xJ I.hok e
  have hz:vs.length≤sizeLine:=by rw [← rel.length]; exact z
  have hl:(putK kvs k v).length≤sizeLine:=by have:=cA kvs k v; omega
  refine wpAny_setItem_pairs (hsz:=hz) (qQ ry) dd fun h' dd' hs=>h _ ?_
  have he:∃ q,h'.get? a=some q:=let ⟨q,_,_,hq,_⟩:=dd'; ⟨q,hq⟩
  exact kO I (by rw [e]; exact True.intro) hs he (tX hl hd (rel.put k rv) dd')
 ·subst ey eH
  cases (show u=Value.ref b from ry)
  obtain ⟨z,hd,xs,rel,dd⟩:=Em I.hok e
  have hz:xs.length≤sizeLine:=by rw [← Paired.length rel]; exact z
  have hl:(putK kvs k v).length≤sizeLine:=by have:=cA kvs k v; omega
  refine wpAny_setItem_heap (hsz:=hz) (tupleKind_room_in1 hu) (pM I.hok eb) dd fun h' dd' hs=>h _ ?_
  obtain ⟨q,es,ep,hq,h2,h3,h4,_,h5⟩:=dd'
  refine kO I (by rw [e]; exact True.intro) hs ⟨q,hq⟩ ⟨hl,hd,_,(rel.put k eb rv).keeps fun c ys ec=>?_,q,es,ep,hq,h2,h3,h4,h5⟩
  rw [az (DN ec e (fun z=>nomatch z))]
  exact ec
end

section
variable {X:Cx} {pins:List (Addr×Obj)} {σ:St} {H:Hp} {s:Shared} {a:Addr} {kvs:List (Key×V)} {k:Key} {u:Value} {A:Around} {E:Value→Shared→Prop}
end


noncomputable def En (i:Expr):Prop:=∀ ov iv,subscripted i false ov iv=operate [ov,iv] (getItem ov iv)
theorem Aa {prog:Program} {w:World} {A:Around} {E:Value→Shared→Prop} {s:Shared} {env:Env} {value slice:Expr} {pos:Pos} {T id:String} {Q:Value→Shared→Prop}
  (hl:typeLookup (.type T) "__getitem__" = pure (some (.builtin id))) (hs:En slice)
  (h:wpAny (model prog w) A (eval value env) (fun o s₁=>wpAny (model prog w) A (eval slice env) (fun i s₂=>s₂.TypeIs o T∧wpAny (model prog w) A (getItem o i) Q E s₂) E s₁) E s) :
  wpAny (model prog w) A (eval (.Subscript value slice pos) env) Q E s:=by
 refine Subscript_ (wpAny_mono h (fun o s₁ h₁=>wpAny_mono h₁ (fun i s₂ h₂=>?_) fun _ _ x=>x) fun _ _ x=>x)
 obtain ⟨hT,h₂⟩:=h₂
 unfold subscriptTail
 refine wpAny_bind ?_
 rw [getitemInPython_of_ne hT.not_modules]
 refine wpAny_bind (wpAny_specialOf hT hl ?_)
 have fin:wpAny (model prog w) A (subscripted slice false o i) (fun r s₃=>wpAny (model prog w) A (letTemporaryGo value o r >>= fun _=>pure r) Q E s₃) E s₂:=by
  rw [hs o i]
  exact wpAny_operating (wpAny_mono h₂ (fun r s₃ h₃=>wpAny_bind (wpAny_letTemporaryGo (wpAny_pure h₃))) fun _ _ x=>x)
 first
  | exact wpAny_pure (wpAny_bind fin)
  | exact wpAny_bind (wpAny_pure (wpAny_bind fin))
  | exact wpAny_bind fin

theorem qU {X:Cx} {pins:List (Addr×Obj)} {σ:St} {H:Hp} {s:Shared} {a:Addr} {y:V} {o:Option V} (I:Inv X pins σ H s) (g:DGet H a y o):s.TypeIs (.ref a) "dict" := by
 rcases g with ⟨kvs,k,e,_,_⟩ | ⟨kvs,k,b,e,_,_,_⟩
 ·obtain ⟨_,_,vs,_,dd⟩:=qR I.hok e
  exact dd.typeIs
 ·obtain ⟨_,_,xs,_,dd⟩:=qT I.hok e
  exact dd.typeIs

noncomputable def Eo (td ty:TE):TE:=fun σ H Q=>td σ H fun x H1=>ty σ H1 fun y H2=>∃ a v,x=.ref a∧DGet H2 a y (some v)∧Q v H2
noncomputable def Ep (td ty tv:TE):TS:=fun D σ H=>tv σ H fun v H1=>td σ H1 fun x H2=>ty σ H2 fun y H3=>∃ a H4,x=.ref a∧DPut H3 a y v H4∧D.nx σ H4

section
variable {X:Cx} {o i e value:Expr} {pos pos' tpos:Pos} {td ty tv:TE}
theorem jf (hu:X.A.units+1 < cLine) (ho:PE X o td) (hi:PE X i ty) (hs:En i):PE X (.Subscript o i pos) (Eo td ty):=by
 intro pins s σ H Q I h
 refine Aa PySem.F.slot_dict_getitem.lookup hs (thn (ho pins s σ H _ I h) fun u s1 ⟨x,H1,I1,rx,q1⟩=>thn (hi pins s1 σ H1 _ I1 q1) fun iv s2 ⟨y,H2,I2,ry,a,v,ex,g,q2⟩=>?_)
 subst ex
 obtain rfl:u=Value.ref a:=rx
 exact ⟨qU I2 g,vU hu I2 g ry fun w' s3 I3 rw'=>⟨v,H2,I3,rw',q2⟩⟩
theorem pN (hu:X.A.units+1 < cLine) (ho:PE X o td) (hi:PE X i ty) (hv:PE X value tv) (hs:swapsWith value (some (.Subscript o i pos')) pos.line X.env=pure false) :
  PS X (.Assign [.Subscript o i pos'] value pos) (Ep td ty tv):=by
 intro pins s σ H D I h
 refine wpAny_Assign_Subscript (thn (hv pins s σ H _ I h) fun r s1 ⟨v,H1,I1,rv,q1⟩=>thn (ho pins s1 σ H1 _ I1 q1) fun u s2 ⟨x,H2,I2,rx,q2⟩=>thn (hi pins s2 σ H2 _ I2 q2) fun iv s3 ⟨y,H3,I3,ry,a,H4,ex,g,q3⟩=>?_) hs
 subst ex
 obtain rfl:u=Value.ref a:=rx
 exact vV hu I3 g ry rv fun s4 I4=>⟨σ,H4,I4,q3⟩
end


theorem lM {P:Program} {w:World} {H:Hp} (h:Heap) (hb:sysModules < h.objs.size):ObjOk P w H (h.push { cls:=.type "dict",data:=.dict #[] }) h.objs.size (.dK []) :=
 ⟨Nat.zero_le _,beq_eq_false_iff_ne.mpr (Ne.symm (Nat.ne_of_lt hb)),[],.nil,Heap.DictOf.new h⟩
theorem xK {P:Program} {w:World} {H:Hp} (h:Heap) (hb:sysModules < h.objs.size):ObjOk P w H (h.push { cls:=.type "dict",data:=.dict #[] }) h.objs.size (.dT []) :=
 ⟨Nat.zero_le _,beq_eq_false_iff_ne.mpr (Ne.symm (Nat.ne_of_lt hb)),[],.nil,_,#[],0,Heap.get?_push_size _ rfl,⟨rfl,rfl,rfl⟩,rfl,rfl,List.nodup_nil⟩
noncomputable def CK:TE:=fun _ H Q=>∀ p,H p=none→Q (.ref p) (upd H p (.dT []))
section
variable {X:Cx} {pos:Pos}
theorem xM:PE X (.Dict [] [] pos) CK:=fun pins s σ H Q I h =>
 wpAny_Dict_empty ⟨.ref s.heap.objs.size,_,I.laid (a:=s.heap.objs.size) (o:=.dT []) (t':=s.toks) (fun _ _ q=>Heap.get?_push_of_some _ q) (Nat.le_refl _) (xK s.heap I.big),rfl,h _ (I.hok.fresh (Nat.le_refl _))⟩
end

noncomputable def pO:List (TE×TE)→St→Hp→(List (V×V)→Hp→Prop)→Prop
 | [],_,H,Q=>Q [] H
 | (tk,tv) :: r,σ,H,Q=>tk σ H fun x H1=>tv σ H1 fun y H2=>pO r σ H2 fun ps H3=>Q ((x,y) :: ps) H3
noncomputable abbrev VV:List (V×V)→List (Value×Value)→Prop:=Paired fun p q=>RelV p.1 q.1∧RelV p.2 q.2
noncomputable def PPs (X:Cx) (pos:Pos) (keys:List (Option Expr)) (values:List Expr) (trs:List (TE×TE)):Prop :=
 ∀ (pins:List (Addr×Obj)) (s:Shared) (σ:St) (H:Hp) (Q:List (V×V)→Hp→Prop),Inv X pins σ H s→pO trs σ H Q →
  wpAny (model X.prog X.w) X.A (evalPairs (pairTrees keys values X.env pos)) (fun vs s'=>∃ ps H',Inv X pins σ H' s'∧VV ps vs∧Q ps H') X.xe s
theorem uG {X:Cx} {pos:Pos}:PPs X pos [] [] []:=fun pins s σ H Q I h=>pairTrees_nil_walk ⟨[],H,I,.nil,h⟩
theorem qW {X:Cx} {pos:Pos} {k v:Expr} {ks:List (Option Expr)} {vs:List Expr} {tk tv:TE} {trs:List (TE×TE)} (hk:PE X k tk) (hv:PE X v tv) (hr:PPs X pos ks vs trs) :
  PPs X pos (some k :: ks) (v :: vs) ((tk,tv) :: trs):=fun pins s σ H Q I h =>
 pairTrees_cons_walk (thn (hk pins s σ H _ I h) fun u s1 ⟨x,H1,I1,rx,q1⟩=>thn (hv pins s1 σ H1 _ I1 q1) fun w2 s2 ⟨y,H2,I2,ry,q2⟩ =>
  thn (hr pins s2 σ H2 _ I2 q2) fun ws s3 ⟨ps,H3,I3,rel,q3⟩=>⟨(x,y) :: ps,H3,I3,.cons ⟨rx,ry⟩ rel,q3⟩)

noncomputable def fZ (kvs more:List (Key×V)):List (Key×V):=more.foldl (fun acc kv=>putK acc kv.1 kv.2) kvs
theorem KV.merge:∀ {more:List (Key×V)} {rs:List (Key×Value)} {kvs:List (Key×V)} {vs:List (Key×Value)},KV more rs→KV kvs vs→KV (fZ kvs more) (merged vs rs):=by
 intro more rs kvs vs r
 unfold KV at r
 induction r generalizing kvs vs with
 | nil=>intro q; exact q
 | @cons p q ps qs h t ih =>
  intro r0
  have e:KV (putK kvs p.1 p.2) (stored vs q.1 q.2):=by
   have:=r0.put p.1 h.2
   rw [← h.1]; exact this
  exact ih e
theorem gh:∀ (more kvs:List (Key×V)),(fZ kvs more).length≤kvs.length+more.length
 | [],kvs=>by show kvs.length≤kvs.length+0; omega
 | p :: r,kvs=>by
  have h1:=gh r (putK kvs p.1 p.2)
  have h2:=cA kvs p.1 p.2
  show (fZ (putK kvs p.1 p.2) r).length≤_
  rw [List.length_cons]; omega
theorem iT {P:Program} {w:World}:∀ {kvs:List (Key×V)} {ws:List (Value×Value)},VV (kvs.map fun kv=>(kV kv.1,kv.2)) ws→∃ rs,Carries (bM P w) ws rs∧KV kvs rs
 | [],_,r=>by rw [List.map_nil] at r; cases r; exact ⟨[],True.intro,.nil⟩
 | p :: kvs,_,r=>by
  rw [List.map_cons] at r
  cases r with
  | @cons a b as bs h t =>
   obtain ⟨rs,c,q⟩:=iT (P:=P) (w:=w) t
   obtain ⟨b1,b2⟩:=b
   exact ⟨(p.1,b2) :: rs,⟨qQ h.1,rfl,c⟩,.cons ⟨rfl,h.2⟩ q⟩
noncomputable def Er (trs:List (TE×TE)):TE:=fun σ H Q=>∀ p,H p=none→pO trs σ (upd H p (.dK [])) fun ps H2=>H2 p=some (.dK [])∧∃ kvs:List (Key×V),ps=kvs.map (fun kv=>(kV kv.1,kv.2))∧kvs.length≤15∧Q (.ref p) (upd H2 p (.dK (fZ [] kvs)))
theorem Ab {X:Cx} {pos:Pos} {keys:List (Option Expr)} {values:List Expr} {trs:List (TE×TE)} (h:PPs X pos keys values trs) (hall:keys.all (·.isSome)=true) (hl:keys.length=values.length) (h0:keys≠[])
  (h15:keys.length≤15):PE X (.Dict keys values pos) (Er trs):=by
 intro pins s σ H Q I q
 have hn:=I.hok.fresh (Nat.le_refl s.heap.objs.size)
 have I1:=I.laid (a:=s.heap.objs.size) (o:=.dK []) (h':=s.heap.push { cls:=.type "dict",data:=.dict #[] }) (t':=s.toks) (fun _ _ q=>Heap.get?_push_of_some _ q) (Nat.le_refl _) (lM s.heap I.big)
 refine wpAny_Dict_walk (knd:=bM X.prog X.w) hall hl h0 h15 (thn (h pins _ σ _ _ I1 (q _ hn)) fun ws s2 ⟨ps,H2,I2,rel,e,kvs,ep,lk,q2⟩=>?_)
 subst ep
 obtain ⟨rs,c,rk⟩:=iT (P:=X.prog) (w:=X.w) rel
 obtain ⟨z,hd,vs0,r0,dd⟩:=xJ I2.hok e
 cases r0
 refine ⟨rs,c,dd,fun h' dd' hs=>⟨.ref s.heap.objs.size,_,?_,rfl,q2⟩⟩
 have hz:(fZ [] kvs).length≤sizeLine:=by
  have h1:=gh kvs []
  rw [List.length_nil] at h1
  rw [sizeLine_eq]; omega
 have he:∃ q,h'.get? s.heap.objs.size=some q:=let ⟨q,_,_,hq,_⟩:=dd'; ⟨q,hq⟩
 exact kO I2 (by rw [e]; exact True.intro) hs he (tX hz hd (rk.merge .nil) dd')


structure M2 (X:Cx) (o:Expr) (m:Str) (apos:Pos) (e f:Expr) (cpos:Pos):Prop where
 base:attributeBase o m X.env (eval o X.env)=eval o X.env
 few:((backTo cpos (starEach [e,f] X.env)).all (fun x=>!x.1) && (backToKw cpos (keywordEach [] X.env)).all (fun x=>x.1.isSome)
  && decide (([e,f]:List Expr).length+([]:List Keyword).length+(if ([]:List Keyword).isEmpty then 0 else 1) < 30))=true
 line:(apos.endLine == cpos.line)=true
 trees:backTo cpos (starEach [e,f] X.env)=[(false,eval e X.env),(false,eval f X.env)]

noncomputable def IsD (H:Hp) (a:Addr):Prop:=(∃ kvs,Rd H a (.dK kvs))∨∃ kvs,Rd H a (.dT kvs)
theorem CN {X:Cx} {pins:List (Addr×Obj)} {σ:St} {H:Hp} {s:Shared} {a:Addr} (I:Inv X pins σ H s) (d:IsD H a) :
  s.TypeIs (.ref a) "dict" ∧ (∀ b,Value.ref a=.ref b→∃ ob,s.heap.get? b=some ob∧ob.dict=none)∧(a == sysModules)=false:=by
 rcases d with ⟨kvs,e⟩ | ⟨kvs,e⟩
 ·obtain ⟨_,hd,vs,_,dd⟩:=qR I.hok e
  refine ⟨dd.typeIs,fun b q=>?_,hd⟩
  cases q
  obtain ⟨ob,_,_,h1,h2,_⟩:=dd
  exact ⟨ob,h1,h2.2.1⟩
 ·obtain ⟨_,hd,xs,_,dd⟩:=qT I.hok e
  refine ⟨dd.typeIs,fun b q=>?_,hd⟩
  cases q
  obtain ⟨ob,_,_,h1,h2,_⟩:=dd
  exact ⟨ob,h1,h2.2.1⟩

section
variable {X:Cx} {pins:List (Addr×Obj)} {σ:St} {H:Hp} {s:Shared} {a:Addr} {y d:V} {u r:Value} {o:Option V} {A:Around} {E:Value→Shared→Prop}
theorem CP {Q:Value→Shared→Prop} (hu:A.units+1 < cLine) (I:Inv X pins σ H s) (g:DGet H a y o) (ry:RelV y u) (rd:RelV d r) (h:∀ w' s',Inv X pins σ H s'→RelV (o.getD d) w'→Q w' s') :
  wpAny (model X.prog X.w) A (call (.builtin "dict.get") [.ref a,u,r]) Q E s:=by
 rcases g with ⟨kvs,k,e,ey,l⟩ | ⟨kvs,k,b,e,ey,eb,l⟩
 ·subst ey
  obtain ⟨z,hd,vs,rel,dd⟩:=qR I.hok e
  refine call_meetsIn PySem.F.slot_dict_get dd.typeIs PySem.F.entry_dict_get (PySem.F.args_dict_get_3 _ _ _) (meets_dict_get_default (bM X.prog X.w) a (qQ ry) hd r) ⟨_,dd.mapOf,h _ _ (I.tok _) ?_⟩
  rw [l]
  exact (rel.val k).getD rd
 ·subst ey
  cases (show u=Value.ref b from ry)
  obtain ⟨z,hd,xs,rel,dd⟩:=qT I.hok e
  refine call_meetsIn PySem.F.slot_dict_get dd.typeIs PySem.F.entry_dict_get (PySem.F.args_dict_get_3 _ _ _) (meetsH_dict_get_default (tupleKind (bM X.prog X.w)) a b hd r) ⟨tupleKind_room_in1 hu,k,xs,pM I.hok eb,dd,h _ _ (I.tok _) ?_⟩
  rw [l]
  exact (rel.val k).getD rd
end

noncomputable def CQ (td ty tx:TE):TE:=fun σ H Q=>td σ H fun x H1=>∃ a,x=.ref a∧IsD H1 a∧ty σ H1 fun y H2=>tx σ H2 fun z H3=>∃ o,DGet H3 a y o∧Q (o.getD z) H3
section
variable {X:Cx} {o e f:Expr} {apos cpos:Pos} {td ty tx:TE}
theorem lN (hu:X.A.units+1 < cLine) (ho:PE X o td) (he:PE X e ty) (hf:PE X f tx) (m:M2 X o "get" apos e f cpos):PE X (.Call (.Attribute o "get" apos) [e,f] [] cpos) (CQ td ty tx):=by
 intro pins s σ H Q I h
 refine wpAny_Call_method m.base m.few m.line PySem.F.plainAttrs_dict PySem.F.slot_dict_get PySem.F.type_dict_get (thn (ho pins s σ H _ I h) fun u s1 ⟨x,H1,I1,rx,a,ex,d,q1⟩=>?_)
 subst ex
 obtain rfl:u=Value.ref a:=rx
 obtain ⟨t1,t2,_⟩:=CN I1 d
 refine ⟨t1,t2,?_⟩
 rw [m.trees]
 refine Calls.callWith_builtin rfl (Calls.evalArgs_plain (Calls.spliced_cons (thn (he pins s1 σ H1 _ I1 q1) fun iv s2 ⟨y,H2,I2,ry,q2⟩ =>
  Calls.spliced_cons (thn (hf pins s2 σ H2 _ I2 q2) fun fv s3 ⟨z,H3,I3,rz,ov,g,q3⟩=>Calls.spliced_nil ?_))))
 exact CP hu I3 g ry rz fun w' s4 I4 rw'=>⟨_,H3,I4,rw',q3⟩
end

section
variable {X:Cx} {pins:List (Addr×Obj)} {σ:St} {H:Hp} {s:Shared} {a:Addr} {kvs:List (Key×V)} {A:Around} {E:Value→Shared→Prop}
end


section
variable {X:Cx} {pins:List (Addr×Obj)} {σ:St} {H:Hp} {s:Shared} {a:Addr} {y:V} {u:Value} {A:Around} {E:Value→Shared→Prop}
end
end L2


set_option Elab.async false
set_option linter.all false
set_option maxRecDepth 100000
namespace L2
open PySem PySem.Spec PyProof.Rows
noncomputable def Ac:Key→PyData
 | .inl i=>.int i
 | .inr x=>.str x
mutual
inductive IsTh (S:Addr→Prop) (H:Hp):V→PyData→Prop
 | non:IsTh S H .non .none
 | bl (b:Bool):IsTh S H (.bl b) (.bool b)
 | int (i:Int):IsTh S H (.int i) (.int i)
 | str (x:Str):IsTh S H (.str x) (.str x)
 | lst {a:Addr} {xs:List V} {ds:List PyData} (hs:S a) (e:H a=some (.lst xs)) (r:IsThs S H xs ds):IsTh S H (.ref a) (.list ds)
 | tup {a:Addr} {xs:List V} {ds:List PyData} (e:H a=some (.tup xs)) (r:IsThs S H xs ds):IsTh S H (.ref a) (.tuple ds)
 | dct {a:Addr} {ks:List (Key×Int)} (hs:S a) (e:H a=some (.dK (ks.map fun p=>(p.1,V.int p.2)))):IsTh S H (.ref a) (.dict (ks.map fun p=>(Ac p.1,.int p.2)))
inductive IsThs (S:Addr→Prop) (H:Hp):List V→List PyData→Prop
 | nil:IsThs S H [] []
 | cons {v:V} {d:PyData} {vs:List V} {ds:List PyData} (h:IsTh S H v d) (t:IsThs S H vs ds):IsThs S H (v :: vs) (d :: ds)
end
section
variable {S S':Addr→Prop} {H H':Hp}
theorem IsThs.length:∀ {vs:List V} {ds:List PyData},IsThs S H vs ds→vs.length=ds.length
 | _,_,.nil=>rfl
 | _,_,.cons _ t=>by rw [List.length_cons,List.length_cons,IsThs.length t]
theorem IsThs.get:∀ {vs:List V} {ds:List PyData} {i:Nat} {v:V},IsThs S H vs ds→vs[i]?=some v→∃ d,ds[i]?=some d∧IsTh S H v d
 | _,_,_,_,.nil,e=>by simp at e
 | _,_,0,_,.cons h _,e=>by simp at e; subst e; exact ⟨_,rfl,h⟩
 | _,_,i+1,v,.cons _ t,e=>by
  obtain ⟨d,h1,h2⟩:=IsThs.get (i:=i) (v:=v) t (by simpa using e)
  exact ⟨d,by simpa using h1,h2⟩
theorem IsThs.append:∀ {vs ws:List V} {ds es:List PyData},IsThs S H vs ds→IsThs S H ws es→IsThs S H (vs++ws) (ds++es)
 | _,_,_,_,.nil,s=>s
 | _,_,_,_,.cons h t,s=>.cons h (IsThs.append t s)
theorem IsThs.set {x:V} {e:PyData} (h:IsTh S H x e):∀ {vs:List V} {ds:List PyData} (i:Nat),IsThs S H vs ds→IsThs S H (vs.set i x) (ds.set i e)
 | _,_,_,.nil=>.nil
 | _,_,0,.cons _ t=>.cons h t
 | _,_,i+1,.cons q t=>.cons q (IsThs.set h i t)
theorem IsThs.take:∀ {vs:List V} {ds:List PyData} (n:Nat),IsThs S H vs ds→IsThs S H (vs.take n) (ds.take n)
 | _,_,0,_=>.nil
 | _,_,_+1,.nil=>.nil
 | _,_,n+1,.cons h t=>.cons h (IsThs.take n t)
theorem IsThs.drop:∀ {vs:List V} {ds:List PyData} (n:Nat),IsThs S H vs ds→IsThs S H (vs.drop n) (ds.drop n)
 | _,_,0,r=>r
 | _,_,_+1,.nil=>.nil
 | _,_,n+1,.cons _ t=>IsThs.drop n t
theorem IsThs.erase:∀ {vs:List V} {ds:List PyData} (i:Nat),IsThs S H vs ds→IsThs S H (vs.eraseIdx i) (ds.eraseIdx i)
 | _,_,_,.nil=>.nil
 | _,_,0,.cons _ t=>t
 | _,_,i+1,.cons r t=>.cons r (IsThs.erase i t)
theorem IsThs.ints:∀ (ns:List Int),IsThs S H (ns.map V.int) (ns.map PyData.int)
 | []=>.nil
 | n :: ns=>.cons (.int n) (IsThs.ints ns)
mutual
theorem IsTh.keep (ht:∀ b xs,H b=some (.tup xs)→H' b=some (.tup xs)) (hs:∀ b o,S b→H b=some o→H' b=some o) (hS:∀ b o,S b→H b=some o→S' b):∀ {v:V} {d:PyData},IsTh S H v d→IsTh S' H' v d
 | _,_,.non=>.non
 | _,_,.bl b=>.bl b
 | _,_,.int i=>.int i
 | _,_,.str x=>.str x
 | _,_,.lst s e r=>.lst (hS _ _ s e) (hs _ _ s e) (IsThs.keep ht hs hS r)
 | _,_,.tup e r=>.tup (ht _ _ e) (IsThs.keep ht hs hS r)
 | _,_,.dct s e=>.dct (hS _ _ s e) (hs _ _ s e)
theorem IsThs.keep (ht:∀ b xs,H b=some (.tup xs)→H' b=some (.tup xs)) (hs:∀ b o,S b→H b=some o→H' b=some o) (hS:∀ b o,S b→H b=some o→S' b):∀ {vs:List V} {ds:List PyData},IsThs S H vs ds→IsThs S' H' vs ds
 | _,_,.nil=>.nil
 | _,_,.cons h t=>.cons (IsTh.keep ht hs hS h) (IsThs.keep ht hs hS t)
end
noncomputable def tyD:PyData→String
 | .none=>"NoneType"
 | .bool _=>"bool"
 | .int _=>"int"
 | .str _=>"str"
 | .list _=>"list"
 | .tuple _=>"tuple"
 | .dict _=>"dict"
theorem IsTh.ty {K:PySem.W.Frag} {v:V} {d:PyData} (h:IsTh S H v d):TyOf K H v (.type (tyD d)):=by
 cases h with
 | non=>exact .non
 | bl b=>exact .bl b
 | int i=>exact .int i
 | str x=>exact .str x
 | lst s e r=>exact .lst e
 | tup e r=>exact .tup e
 | dct s e=>exact .dK e
noncomputable def jG:PyData→Bool
 | .int _=>true
 | .bool _=>true
 | _=>false
noncomputable def jg:PyData→Bool
 | .bool _=>true
 | _=>false
noncomputable def bL:PyData→Bool
 | .tuple _=>true
 | _=>false
theorem uH {K:PySem.W.Frag} (d:PyData):PySem.W.kitOne K (.type (tyD d)) (.type "int")=some (jG d):=by
 cases d
 ·exact jF
 ·exact pH
 ·exact qN
 ·exact qO
 ·exact pK
 ·exact nq
 ·exact pL
theorem qX {K:PySem.W.Frag} (d:PyData):PySem.W.kitOne K (.type (tyD d)) (.type "bool")=some (jg d):=by
 cases d
 ·exact je
 ·exact mY
 ·exact pI
 ·exact pJ
 ·exact nj
 ·exact lJ
 ·exact nu
theorem dY {K:PySem.W.Frag} (d:PyData):PySem.W.kitOne K (.type (tyD d)) (.type "tuple")=some (bL d):=by
 cases d
 ·exact iR
 ·exact lG
 ·exact mZ
 ·exact ni
 ·exact lH
 ·exact jZ
 ·exact lK
end
mutual
noncomputable def sz:PyData→Nat
 | .none=>1
 | .bool _=>1
 | .int _=>1
 | .str _=>1
 | .list xs=>1+szs xs
 | .tuple xs=>1+szs xs
 | .dict kvs=>1+4 * kvs.length
noncomputable def szs:List PyData→Nat
 | []=>0
 | x :: xs=>sz x+szs xs
end
mutual
noncomputable def tame:PyData→Bool
 | .none=>true
 | .bool _=>true
 | .int i=>decide (i.natAbs < 2 ^ 128)
 | .str x=>decide (x.length≤10) && x.cps.toList.all fun c=>decide (c < 16 ^ 8)
 | .list xs=>dH xs
 | .tuple xs=>dH xs
 | .dict kvs=>aO kvs
noncomputable def dH:List PyData→Bool
 | []=>true
 | x :: xs=>tame x && dH xs
noncomputable def aO:List (PyData×PyData)→Bool
 | []=>true
 | (.int i,.int j) :: r=>decide (i.natAbs < 2 ^ 128) && decide (j.natAbs < 2 ^ 128) && aO r
 | (.str x,.int j) :: r=>(decide (x.length≤10) && x.cps.toList.all fun c=>decide (c < 16 ^ 8)) && decide (j.natAbs < 2 ^ 128) && aO r
 | _ :: _=>false
end
theorem kW {i:Int} (h:i.natAbs < 2 ^ 128):(Str.ofString (toString i)).length≤130:=by
 have e:=int_text_length_le (a:=i) (k:=128) (by decide) (by
  by_cases h0:i.natAbs=0
  ·rw [h0]; decide
  ·exact (Nat.log2_lt h0).mpr h)
 rw [PySem.ofString_length]
 omega
theorem jV:∀ (ts:List Str) (k:Nat) (acc:Str),(textFrom k acc ts).length≤acc.length+piled ts
 | [],k,acc=>by show acc.length≤acc.length+0; omega
 | t :: r,k,acc=>by
  have h:=jV r (k+1) (acc++(if k > 0 then ", " else "" : String)++t)
  have e:(acc++(if k > 0 then ", " else "" : String)++t).length≤acc.length+2+t.length:=by
   rw [strLen_append,strLen_append]
   split
   ·show acc.length+2+t.length≤_
    omega
   ·show acc.length+0+t.length≤_
    omega
  rw [piled_cons]
  show (textFrom (k+1) _ r).length≤_
  omega
theorem qY (ts:List Str):(listText ts).length≤piled ts+2:=by
 have h:=jV ts 0 "["
 unfold listText
 rw [strLen_append]
 have e1:(("[" : Str)).length=1:=rfl
 have e2:(("]" : Str)).length=1:=rfl
 omega
theorem uI (ts:List Str):(Str.join ", " ts).length≤piled ts:=by
 by_cases h:ts=[]
 ·subst h
  show 0≤_
  omega
 ·have:=join_length_add ts h
  omega
theorem pP (ts:List Str):(tupleText ts).length≤piled ts+3:=by
 have h:=uI ts
 unfold tupleText
 rw [strLen_append,strLen_append]
 have e1:(("(" : Str)).length=1:=rfl
 have e2:((if ts.length == 1 then ",)" else ")" : String):Str).length≤2:=by
  split
  ·exact Nat.le_refl 2
  ·exact Nat.le_succ 1
 omega
theorem qZ (ts:List Str):(dictText ts).length≤piled ts+2:=by
 have h:=uI ts
 unfold dictText
 rw [strLen_append,strLen_append]
 have e1:(("{" : Str)).length=1:=rfl
 have e2:(("}" : Str)).length=1:=rfl
 omega
theorem shownKv_le:∀ (kvs:List (PyData×PyData)),aO kvs=true→piled (PyData.shownKv kvs)≤400 * kvs.length
 | [],_=>by show 0≤_; omega
 | (.int i,.int j) :: r,h=>by
  have h':(decide (i.natAbs < 2 ^ 128) && decide (j.natAbs < 2 ^ 128) && aO r)=true:=h
  simp only [Bool.and_eq_true,decide_eq_true_eq] at h'
  have h1:=kW h'.1.1
  have h2:=kW h'.1.2
  have h3:=shownKv_le r h'.2
  show piled ((PyData.shown (.int i)++": " ++ PyData.shown (.int j)) :: PyData.shownKv r)≤_
  rw [piled_cons,strLen_append,strLen_append]
  have e1:((": " : Str)).length=2:=rfl
  have e2:PyData.shown (.int i)=Str.ofString (toString i):=rfl
  have e3:PyData.shown (.int j)=Str.ofString (toString j):=rfl
  rw [e1,e2,e3,List.length_cons]
  omega
 | (.none,_) :: _,h=>by simp [aO] at h
 | (.bool _,_) :: _,h=>by simp [aO] at h
 | (.str x,.int j) :: r,h=>by
  have h':((decide (x.length≤10) && x.cps.toList.all fun c=>decide (c < 16 ^ 8)) && decide (j.natAbs < 2 ^ 128) && aO r)=true:=h
  rw [Bool.and_eq_true,Bool.and_eq_true,Bool.and_eq_true,decide_eq_true_eq,decide_eq_true_eq] at h'
  have h0:x.length≤10:=h'.1.1.1
  have h1:=StrLaws.reprText_len x fun c hc=>by simpa using List.all_eq_true.mp h'.1.1.2 c hc
  have h2:=kW h'.1.2
  have h3:=shownKv_le r h'.2
  show piled ((PyData.shown (.str x)++": " ++ PyData.shown (.int j)) :: PyData.shownKv r)≤_
  rw [piled_cons,strLen_append,strLen_append]
  have e1:((": " : Str)).length=2:=rfl
  have e2:PyData.shown (.str x)=reprText x:=rfl
  have e3:PyData.shown (.int j)=Str.ofString (toString j):=rfl
  rw [e1,e2,e3,List.length_cons]
  omega
 | (.str _,.none) :: _,h=>by simp [aO] at h
 | (.str _,.bool _) :: _,h=>by simp [aO] at h
 | (.str _,.str _) :: _,h=>by simp [aO] at h
 | (.str _,.list _) :: _,h=>by simp [aO] at h
 | (.str _,.tuple _) :: _,h=>by simp [aO] at h
 | (.str _,.dict _) :: _,h=>by simp [aO] at h
 | (.list _,_) :: _,h=>by simp [aO] at h
 | (.tuple _,_) :: _,h=>by simp [aO] at h
 | (.dict _,_) :: _,h=>by simp [aO] at h
 | (.int _,.none) :: _,h=>by simp [aO] at h
 | (.int _,.bool _) :: _,h=>by simp [aO] at h
 | (.int _,.str _) :: _,h=>by simp [aO] at h
 | (.int _,.list _) :: _,h=>by simp [aO] at h
 | (.int _,.tuple _) :: _,h=>by simp [aO] at h
 | (.int _,.dict _) :: _,h=>by simp [aO] at h
mutual
theorem oF:∀ (d:PyData),tame d=true→d.shown.length+2≤200 * sz d
 | .none,_=>by decide +kernel
 | .bool true,_=>by decide +kernel
 | .bool false,_=>by decide +kernel
 | .int i,h=>by
  have:=kW (i:=i) (by simpa [tame] using h)
  show (Str.ofString (toString i)).length+2≤200 * 1
  omega
 | .str x,h=>by
  have h':(decide (x.length≤10) && x.cps.toList.all fun c=>decide (c < 16 ^ 8))=true:=h
  rw [Bool.and_eq_true] at h'
  have h1:x.length≤10:=by simpa using h'.1
  have:=StrLaws.reprText_len x fun c hc=>by simpa using List.all_eq_true.mp h'.2 c hc
  show (reprText x).length+2≤200 * 1
  omega
 | .list xs,h=>by
  have h1:=gF xs (by simpa [tame] using h)
  have h2:=qY (PyData.shownAll xs)
  show (listText (PyData.shownAll xs)).length+2≤200 * (1+szs xs)
  omega
 | .tuple xs,h=>by
  have h1:=gF xs (by simpa [tame] using h)
  have h2:=pP (PyData.shownAll xs)
  show (tupleText (PyData.shownAll xs)).length+2≤200 * (1+szs xs)
  omega
 | .dict kvs,h=>by
  have h1:=shownKv_le kvs (by simpa [tame] using h)
  have h2:=qZ (PyData.shownKv kvs)
  show (dictText (PyData.shownKv kvs)).length+2≤200 * (1+4 * kvs.length)
  omega
theorem gF:∀ (xs:List PyData),dH xs=true→piled (PyData.shownAll xs)≤200 * szs xs
 | [],_=>by show 0≤_; omega
 | x :: xs,h=>by
  have h':(tame x && dH xs)=true:=h
  rw [Bool.and_eq_true] at h'
  have h1:=oF x h'.1
  have h2:=gF xs h'.2
  show piled (PyData.shown x :: PyData.shownAll xs)≤200 * (sz x+szs xs)
  rw [piled_cons]
  omega
end
theorem gj:∀ (kvs:List (PyData×PyData)),aO kvs=true→PyData.showableKv kvs=true
 | [],_=>rfl
 | (.int i,.int j) :: r,h=>by
  have h':(decide (i.natAbs < 2 ^ 128) && decide (j.natAbs < 2 ^ 128) && aO r)=true:=h
  simp only [Bool.and_eq_true,decide_eq_true_eq] at h'
  have big:∀ {n:Int},n.natAbs < 2 ^ 128→n.natAbs.log2 < 1920:=fun {n} hn=>by
   by_cases h0:n.natAbs=0
   ·rw [h0]; decide
   ·exact Nat.lt_trans ((Nat.log2_lt h0).mpr hn) (by decide)
  simp only [PyData.showableKv,PyData.showable,Bool.and_eq_true,decide_eq_true_eq]
  exact ⟨⟨big h'.1.1,big h'.1.2⟩,gj r h'.2⟩
 | (.none,_) :: _,h=>by simp [aO] at h
 | (.bool _,_) :: _,h=>by simp [aO] at h
 | (.str x,.int j) :: r,h=>by
  have h':((decide (x.length≤10) && x.cps.toList.all fun c=>decide (c < 16 ^ 8)) && decide (j.natAbs < 2 ^ 128) && aO r)=true:=h
  rw [Bool.and_eq_true,Bool.and_eq_true,decide_eq_true_eq] at h'
  have big:∀ {n:Int},n.natAbs < 2 ^ 128→n.natAbs.log2 < 1920:=fun {n} hn=>by
   by_cases h0:n.natAbs=0
   ·rw [h0]; decide
   ·exact Nat.lt_trans ((Nat.log2_lt h0).mpr hn) (by decide)
  simp only [PyData.showableKv,PyData.showable,Bool.and_eq_true,decide_eq_true_eq]
  exact ⟨⟨trivial,big h'.1.2⟩,gj r h'.2⟩
 | (.str _,.none) :: _,h=>by simp [aO] at h
 | (.str _,.bool _) :: _,h=>by simp [aO] at h
 | (.str _,.str _) :: _,h=>by simp [aO] at h
 | (.str _,.list _) :: _,h=>by simp [aO] at h
 | (.str _,.tuple _) :: _,h=>by simp [aO] at h
 | (.str _,.dict _) :: _,h=>by simp [aO] at h
 | (.list _,_) :: _,h=>by simp [aO] at h
 | (.tuple _,_) :: _,h=>by simp [aO] at h
 | (.dict _,_) :: _,h=>by simp [aO] at h
 | (.int _,.none) :: _,h=>by simp [aO] at h
 | (.int _,.bool _) :: _,h=>by simp [aO] at h
 | (.int _,.str _) :: _,h=>by simp [aO] at h
 | (.int _,.list _) :: _,h=>by simp [aO] at h
 | (.int _,.tuple _) :: _,h=>by simp [aO] at h
 | (.int _,.dict _) :: _,h=>by simp [aO] at h
mutual
theorem jW:∀ (d:PyData),tame d=true→d.showable=true
 | .none,_=>rfl
 | .bool _,_=>rfl
 | .int i,h=>by
  have h':i.natAbs < 2 ^ 128:=by simpa [tame] using h
  have:i.natAbs.log2 < 1920:=by
   by_cases h0:i.natAbs=0
   ·rw [h0]; decide
   ·exact Nat.lt_trans ((Nat.log2_lt h0).mpr h') (by decide)
  simp only [PyData.showable]
  exact decide_eq_true this
 | .str _,_=>rfl
 | .list xs,h=>by
  simp only [PyData.showable]
  exact gG xs (by simpa [tame] using h)
 | .tuple xs,h=>by
  simp only [PyData.showable]
  exact gG xs (by simpa [tame] using h)
 | .dict kvs,h=>by
  simp only [PyData.showable]
  exact gj kvs (by simpa [tame] using h)
theorem gG:∀ (xs:List PyData),dH xs=true→PyData.showableAll xs=true
 | [],_=>rfl
 | x :: xs,h=>by
  have h':(tame x && dH xs)=true:=h
  rw [Bool.and_eq_true] at h'
  simp only [PyData.showableAll,Bool.and_eq_true]
  exact ⟨jW x h'.1,gG xs h'.2⟩
end
theorem iU:∀ (kvs:List (PyData×PyData)),aO kvs=true→PyData.depthKv kvs=0
 | [],_=>rfl
 | (.int i,.int j) :: r,h=>by
  have h':(decide (i.natAbs < 2 ^ 128) && decide (j.natAbs < 2 ^ 128) && aO r)=true:=h
  simp only [Bool.and_eq_true,decide_eq_true_eq] at h'
  simp only [PyData.depthKv,PyData.depth,iU r h'.2]
  rfl
 | (.none,_) :: _,h=>by simp [aO] at h
 | (.bool _,_) :: _,h=>by simp [aO] at h
 | (.str x,.int j) :: r,h=>by
  have h':((decide (x.length≤10) && x.cps.toList.all fun c=>decide (c < 16 ^ 8)) && decide (j.natAbs < 2 ^ 128) && aO r)=true:=h
  rw [Bool.and_eq_true] at h'
  simp only [PyData.depthKv,PyData.depth,iU r h'.2]
  rfl
 | (.str _,.none) :: _,h=>by simp [aO] at h
 | (.str _,.bool _) :: _,h=>by simp [aO] at h
 | (.str _,.str _) :: _,h=>by simp [aO] at h
 | (.str _,.list _) :: _,h=>by simp [aO] at h
 | (.str _,.tuple _) :: _,h=>by simp [aO] at h
 | (.str _,.dict _) :: _,h=>by simp [aO] at h
 | (.list _,_) :: _,h=>by simp [aO] at h
 | (.tuple _,_) :: _,h=>by simp [aO] at h
 | (.dict _,_) :: _,h=>by simp [aO] at h
 | (.int _,.none) :: _,h=>by simp [aO] at h
 | (.int _,.bool _) :: _,h=>by simp [aO] at h
 | (.int _,.str _) :: _,h=>by simp [aO] at h
 | (.int _,.list _) :: _,h=>by simp [aO] at h
 | (.int _,.tuple _) :: _,h=>by simp [aO] at h
 | (.int _,.dict _) :: _,h=>by simp [aO] at h
mutual
theorem jh:∀ (d:PyData),tame d=true→d.depth≤sz d
 | .none,_=>Nat.zero_le _
 | .bool _,_=>Nat.zero_le _
 | .int i,_=>Nat.zero_le _
 | .str _,_=>Nat.zero_le _
 | .list xs,h=>by
  have:=jH xs (by simpa [tame] using h)
  simp only [PyData.depth,sz]
  omega
 | .tuple xs,h=>by
  have:=jH xs (by simpa [tame] using h)
  simp only [PyData.depth,sz]
  omega
 | .dict kvs,h=>by
  have:=iU kvs (by simpa [tame] using h)
  simp only [PyData.depth,sz]
  omega
theorem jH:∀ (xs:List PyData),dH xs=true→PyData.depthAll xs≤szs xs
 | [],_=>Nat.zero_le _
 | x :: xs,h=>by
  have h':(tame x && dH xs)=true:=h
  rw [Bool.and_eq_true] at h'
  have h1:=jh x h'.1
  have h2:=jH xs h'.2
  simp only [PyData.depthAll,szs]
  omega
end
end L2

set_option Elab.async false
set_option linter.all false
set_option maxRecDepth 100000
namespace L2
open PySem PySem.Spec PyProof.Rows
section
variable {X:Cx} {pins:List (Addr×Obj)} {σ:St} {H:Hp} {s:Shared} {S:Addr→Prop}
theorem lO {P:Program} {w:World}:∀ {ks:List (Key×Int)} {vs:List (Key×Value)} {es:List DictEntry},KV (ks.map fun p=>(p.1,V.int p.2)) vs→Pairs (bM P w) es vs →
  (∃ as,ReadsAll s.heap (es.map (·.key)) ((ks.map fun p=>(Ac p.1,PyData.int p.2)).map (·.1)) as∧as=[])∧∃ as,ReadsAll s.heap (es.map (·.val)) ((ks.map fun p=>(Ac p.1,PyData.int p.2)).map (·.2)) as∧as=[]
 | [],vs,es,r,p=>by
  cases r
  cases p
  exact ⟨⟨_,.nil,rfl⟩,⟨_,.nil,rfl⟩⟩
 | (k,n) :: ks,vs,es,r,p=>by
  cases r with
  | @cons a b l1 l2 h t =>
   cases p with
   | @cons e kv es' kvs' h1 h2 h3 =>
    obtain ⟨⟨_,i1,rfl⟩,⟨_,i2,rfl⟩⟩:=lO (ks:=ks) t h3
    obtain ⟨q1,q2⟩:=h
    have h1':lw b.1 e.key=true:=h1
    rw [← q1] at h1'
    obtain ⟨tv,ev2⟩:∃ t,b.2=Value.int n t:=q2
    rw [ev2] at h2
    refine ⟨⟨_,?_,rfl⟩,⟨_,?_,rfl⟩⟩
    ·show ReadsAll s.heap (e.key :: es'.map (·.key)) (Ac k :: _) ([]++[])
     rcases bO h1' with ⟨i,tk,ei,ev⟩ | ⟨x,tk,ei,ev⟩
     ·have ei:k=Sum.inl i:=ei
      rw [ev,ei]
      exact .cons (.int _ _) i1
     ·have ei:k=Sum.inr x:=ei
      rw [ev,ei]
      exact .cons (.str _ _) i1
    ·show ReadsAll s.heap (e.val :: es'.map (·.val)) (PyData.int n :: _) ([]++[])
     rw [h2]
     exact .cons (.int _ _) i2
mutual
theorem IsTh.reads (I:Inv X pins σ H s):∀ {v:V} {d:PyData} {u:Value},IsTh S H v d→RelV v u→∃ as,Reads s.heap u d as∧∀ a∈as,S a
 | _,_,_,.non,r=>by cases (show _=Value.none from r); exact ⟨[],.none,fun _ h=>nomatch h⟩
 | _,_,_,.bl b,r=>by cases (show _=Value.bool b from r); exact ⟨[],.bool b,fun _ h=>nomatch h⟩
 | _,_,_,.int i,r=>by obtain ⟨t,rfl⟩:=r; exact ⟨[],.int i t,fun _ h=>nomatch h⟩
 | _,_,_,.str x,r=>by obtain ⟨t,rfl⟩:=r; exact ⟨[],.str x t,fun _ h=>nomatch h⟩
 | _,_,_,@IsTh.lst _ _ a xs ds hs e t,r=>by
  cases (show _=Value.ref a from r)
  obtain ⟨_,its,n,rv,ho⟩:=(show ObjOk X.prog X.w H s.heap a (.lst xs) from I.hok a _ e)
  obtain ⟨as,h1,h2⟩:=IsThs.reads I t rv
  refine ⟨a :: as,.list ho rfl rfl (by simpa using h1),fun b hb=>?_⟩
  rcases List.mem_cons.mp hb with z | z
  ·rw [z]; exact hs
  ·exact h2 b z
 | _,_,_,@IsTh.tup _ _ a xs ds e t,r=>by
  cases (show _=Value.ref a from r)
  obtain ⟨_,its,rv,o,ho,hc,n,hd⟩:=(show ObjOk X.prog X.w H s.heap a (.tup xs) from I.hok a _ e)
  obtain ⟨as,h1,h2⟩:=IsThs.reads I t rv
  exact ⟨as,.tuple ho hc hd (by simpa using h1),h2⟩
 | _,_,_,@IsTh.dct _ _ a ks hs e,r=>by
  cases (show _=Value.ref a from r)
  obtain ⟨_,_,vs,rel,o,es,ep,ho,hx,hd,_,hp,_⟩:=(show ObjOk X.prog X.w H s.heap a (.dK _) from I.hok a _ e)
  obtain ⟨⟨_,i1,rfl⟩,⟨_,i2,rfl⟩⟩:=lO (s:=s) rel hp
  refine ⟨a :: []++[],.dict ho hx.1 hd i1 i2,fun b hb=>?_⟩
  rw [show b=a by simpa using hb]
  exact hs
theorem IsThs.reads (I:Inv X pins σ H s):∀ {vs:List V} {ds:List PyData} {us:List Value},IsThs S H vs ds→Vals vs us→∃ as,ReadsAll s.heap us ds as∧∀ a∈as,S a
 | _,_,_,.nil,r=>by cases r; exact ⟨[],.nil,fun _ h=>nomatch h⟩
 | _,_,_,.cons h t,r=>by
  cases r with
  | cons r1 r2 =>
   obtain ⟨as,h1,h2⟩:=IsTh.reads I h r1
   obtain ⟨bs,h3,h4⟩:=IsThs.reads I t r2
   exact ⟨as++bs,.cons h1 h3,fun b hb=>(List.mem_append.mp hb).elim (h2 b) (h4 b)⟩
end
theorem iz (hg:X.A.guards=some []) (hS:¬ S sysModules):fJ X (.builtin "repr") (fun xs H Q=>∃ v d,xs=[v]∧IsTh S H v d∧tame d=true∧sz d≤4000∧X.A.units+(sz d+1) < cLine∧Q (.str d.shown) H):=by
 intro pins s σ H xs us Q I r h
 obtain ⟨v,d,rfl,th,tm,hz,hu,q⟩:=h
 obtain ⟨u,rfl,ru⟩:=vals1 r
 have hl:=oF d tm
 have hsz:d.shown.length≤sizeLine:=by rw [sizeLine_eq]; omega
 have fin:∀ t h' tk,(∀ b o,s.heap.get? b=some o→h'.get? b=some o)→EP X pins σ Q (.str d.shown t) { s with heap:=h',toks:=tk }:=fun t h' tk k=>⟨.str d.shown,H,I.kept k,⟨t,rfl⟩,q⟩
 have show1:=jW d tm
 cases th with
 | non=>cases (show u=Value.none from ru); exact PySem.P.repr_of_none (fin _ s.heap _ fun _ _ e=>e)
 | bl b=>cases (show u=Value.bool b from ru); exact PySem.P.repr_of_bool (fin _ s.heap _ fun _ _ e=>e)
 | int i =>
  obtain ⟨t,rfl⟩:=ru
  have:i.natAbs.log2 < 1920:=by simpa [PyData.showable] using show1
  exact PySem.P.repr_of_int this (fin _ s.heap _ fun _ _ e=>e)
 | str x=>obtain ⟨t,rfl⟩:=ru; exact PySem.P.repr_of_str (fin _ s.heap _ fun _ _ e=>e) hsz
 | @lst a xs ds hs e t =>
  obtain ⟨as,rd,ha⟩:=(IsTh.lst hs e t).reads I ru
  cases (show u=Value.ref a from ru)
  exact repr_of_reads' rd show1 (fun _ hm=>hS (ha _ hm)) hg (by have:=jh _ tm; omega) (fun b o e=>e) (fun h' t tk k=>fin t h' tk k) hsz
 | @tup a xs ds e t =>
  obtain ⟨as,rd,ha⟩:=(IsTh.tup (S:=S) e t).reads I ru
  cases (show u=Value.ref a from ru)
  exact repr_of_reads' rd show1 (fun _ hm=>hS (ha _ hm)) hg (by have:=jh _ tm; omega) (fun b o e=>e) (fun h' t tk k=>fin t h' tk k) hsz
 | @dct a ks hs e =>
  obtain ⟨as,rd,ha⟩:=(IsTh.dct hs e).reads I ru
  cases (show u=Value.ref a from ru)
  exact repr_of_reads' rd show1 (fun _ hm=>hS (ha _ hm)) hg (by have:=jh _ tm; omega) (fun b o e=>e) (fun h' t tk k=>fin t h' tk k) hsz
end
section
variable {X:Cx}
noncomputable def G4 (xs:List V) (i:Nat) (y:V):List V:=xs.take i++y :: xs.drop i
noncomputable def Ad:V→List V→Hp→VK→Prop:=fun x vs H Q=>∃ l xs i y,x=.ref l∧vs=[.int i,y]∧H l=some (.lst xs)∧0≤i∧i≤xs.length∧xs.length < sizeLine∧Q .non (upd H l (.lst (G4 xs i.toNat y)))
theorem oG:MtM X "list.insert" Ad:=by
 intro pins s σ H x vs v us Q I rx rv h
 obtain ⟨l,xs,i,y,rfl,rfl,hH,h0,h1,hz,q⟩:=h
 cases rx
 obtain ⟨u,w',rfl,⟨t,rfl⟩,rw'⟩:=rv.two
 obtain ⟨z,its,n,r,hl,e⟩:=I.lstM hH
 have hn:=jz
 refine call_meets F.slot_list_insert ⟨_,e,rfl⟩ F.entry_list_insert (F.args_list_insert_3 _ _ _)
  (AutoSeq1.list_insert_list_int_val_1 l its.toArray n i t w' (by rw [fitsIndex_both (by omega) (by omega)]; exact Bool.false_ne_true) (by rw [List.size_toArray]; omega)) ⟨e,?_⟩
 refine ⟨.non,_,I.lset (its':=its.take i.toNat++w' :: its.drop i.toNat) hH e ?_ (Vals.append (r.take _) (.cons rw' (r.drop _))) ?_,rfl,q⟩
 ·have h2:¬ i < 0:=by omega
  have h3:min i.toNat its.toArray.size=i.toNat:=by rw [List.size_toArray]; omega
  simp only [h2,if_false,h3]
  simp
  exact List.take_of_length_le (by rw [List.length_drop]; omega)
 ·rw [List.length_append,List.length_cons,List.length_take,List.length_drop]
  omega
theorem vW (hu:X.A.units < cLine):OpR X (compareOp .Eq) (fun x y H Q=>∃ a b xs,x=.ref a∧y=.ref b∧SqT X.K H a xs∧SqT X.K H b []∧Q (.bl xs.isEmpty) H):=by
 intro pins s σ H x y v u Q I rx ry h
 obtain ⟨a,b,xs,rfl,rfl,ha,hb,q⟩:=h
 cases rx
 cases ry
 obtain ⟨its,r1,p1,_⟩:=I.tuple ha
 obtain ⟨its2,r2,p2,_⟩:=I.tuple hb
 have e2:its2=[]:=r2.zero
 subst e2
 refine PySem.SeqAt.eq_tupleAt (e:=fun _=>true) p1 p2 hu (fun j h1 h2=>absurd h2 (by simp)) ?_
 have e3:((List.range (min its.toArray.size ([]:List Value).toArray.size)).all (fun _=>true) && its.toArray.size == ([]:List Value).toArray.size)=xs.isEmpty:=by
  have:=r1.length
  cases its with
  | nil =>
   cases r1
   rfl
  | cons a r=>cases xs with
   | nil=>simp at this
   | cons b r'=>simp
 rw [e3]
 exact ⟨.bl _,H,I,rfl,q⟩
end
end L2

set_option Elab.async false
set_option linter.all false
set_option maxRecDepth 100000
namespace L2
open PySem PySem.Spec PyProof.Rows
section
variable {prog:Program} {w:World} {A:Around} {E:Value→Shared→Prop} {s:Shared}
theorem xN {j t:Addr} {i:Nat} {its:Array Value} {x:Value} {Q:Value→Shared→Prop} (hj:s.heap.IsTupleIter j t i) (ht:s.heap.IsTuple t its) (hx:its[i]?=some x)
  (hQ:∀ h',h'.IsTupleIter j t (i+1)→Heap.SameBut j s.heap h'→Q x { s with heap:=h' }):wpAny (model prog w) A (Builtin.SmallTypes.nextOf (.ref j)) Q E s:=by
 obtain ⟨o,ho,hc,hd⟩:=id hj
 obtain ⟨p,hp,_,m,hm⟩:=ht
 unfold Builtin.SmallTypes.nextOf
 refine wpAny_bind (wpAny_callSpecial?_slot (name:=Str.ofString "__next__") hj.typeIs F.slot_tuple_iterator_next (wpAny_call_entry F.slot_tuple_iterator_next hj.typeIs F.entry_tuple_iterator_next ?_ (F.args_tuple_iterator_next_1 _)))
 show wpAny _ _ (field (.ref j) 0 >>= _) _ _ s
 refine wpAny_bind (wpAny_field ho hd (x:=.ref t) rfl ?_)
 show wpAny _ _ (if (Value.ref t == Value.none)=true then _ else _) _ _ s
 rw [if_neg (show ¬ ((Value.ref t == Value.none)=true) by intro z; exact Bool.false_ne_true z)]
 show wpAny _ _ (field (.ref j) 1 >>= _) _ _ s
 refine wpAny_bind (wpAny_field ho hd (x:=.int i 0) rfl (wpAny_bind (wpAny_seqItems hp hm ?_)))
 simp only [Int.toNat_natCast,hx]
 refine wpAny_bind (wpAny_setField ho hd (by simp) (wpAny_pure ⟨x,rfl,wpAny_pure (hQ _ ⟨_,Heap.get?_update_self _ ho (Obj.isFreed_of_fields (Obj.data_mapFields hd _)),(Obj.cls_mapFields ..).trans hc,by
  rw [Obj.data_mapFields hd]
  simp [rawInt]⟩ (Heap.SameBut.update ..))⟩))
theorem iV {j t:Addr} {i:Nat} {its:Array Value} {Q:Value→Shared→Prop} (hh:A.handled=none) (hj:s.heap.IsTupleIter j t i) (ht:s.heap.IsTuple t its) (hx:its[i]?=none)
  (hE:∀ h' e,Heap.ExtBut j s.heap h'→(∃ o,h'.get? e=some o∧o.cls=.type "StopIteration")→E (.ref e) { s with heap:=h' }):wpAny (model prog w) A (Builtin.SmallTypes.nextOf (.ref j)) Q E s:=by
 obtain ⟨o,ho,hc,hd⟩:=id hj
 obtain ⟨p,hp,_,m,hm⟩:=ht
 unfold Builtin.SmallTypes.nextOf
 refine wpAny_bind (wpAny_callSpecial?_slot (name:=Str.ofString "__next__") hj.typeIs F.slot_tuple_iterator_next (wpAny_call_entry F.slot_tuple_iterator_next hj.typeIs F.entry_tuple_iterator_next ?_ (F.args_tuple_iterator_next_1 _)))
 show wpAny _ _ (field (.ref j) 0 >>= _) _ _ s
 refine wpAny_bind (wpAny_field ho hd (x:=.ref t) rfl ?_)
 show wpAny _ _ (if (Value.ref t == Value.none)=true then _ else _) _ _ s
 rw [if_neg (show ¬ ((Value.ref t == Value.none)=true) by intro z; exact Bool.false_ne_true z)]
 show wpAny _ _ (field (.ref j) 1 >>= _) _ _ s
 refine wpAny_bind (wpAny_field ho hd (x:=.int i 0) rfl (wpAny_bind (wpAny_seqItems hp hm ?_)))
 simp only [Int.toNat_natCast,hx]
 refine wpAny_bind (wpAny_rule (wpAny_bind (wpAny_setField ho hd (by simp) ?_)))
 show wpAny _ _ (newExc (.type "StopIteration") [] >>= _) _ _ _
 refine wpAny_bind ?_
 simp only [newExc,newTuple]
 refine wpAny_bind (wpAny_newObj_type (wpAny_bind (m:=firstArgMember _ _) (wpAny_of_eq (a:=Value.none) (by first | rfl | (simp only [firstArgMember]; rfl)) (wpAny_newObj_type ?_ (by size_fits)))) (by size_fits))
 simp only [raiseNew]
 refine wpAny_bind (wpAny_handled ?_)
 first
  | rw [show A.in1.handled=none from hh]
  | rw [hh]
 exact wpAny_bind (wpAny_pure (wpAny_throw (hE _ _ (((Heap.SameBut.update ..).extBut.push _).push _) ⟨_,Heap.get?_push_size _ rfl,rfl⟩)))

theorem rm {z TI TO i1 i2 l1 l2:Addr} {k:Nat} {xs ys:Array Value} {x y a b:Value} {Q:Option Value→Shared→Prop} (D:ZipApart z TI TO i1 i2 l1 l2)
  (hz:IsZip s.heap z TI TO .none) (hTI:IsPair s.heap TI (.ref i1) (.ref i2)) (hTO:IsPair s.heap TO a b)
  (h1:s.heap.IsTupleIter i1 l1 k) (h2:s.heap.IsListIter i2 l2 k) (hl1:s.heap.IsTuple l1 xs) (hl2:s.heap.IsList l2 ys) (hx:xs[k]?=some x) (hy:ys[k]?=some y)
  (hQ:∀ h',IsZip h' z TI TO (rawInt s.heap.objs.size)→IsPair h' TO x y→h'.IsTupleIter i1 l1 (k+1)→h'.IsListIter i2 l2 (k+1)→IsPair h' s.heap.objs.size x y→h'.objs.size=s.heap.objs.size+1 →
   (∀ c o,c≠z→c≠TO→c≠i1→c≠i2→s.heap.get? c=some o→h'.get? c=some o)→Q (some (.ref s.heap.objs.size)) { s with heap:=h' }) :
  wpAny (model prog w) A (pyNext (.ref z)) Q E s:=by
 have hT:s.TypeIs (.ref z) "zip" := ⟨_,hz,rfl⟩
 unfold pyNext
 refine wpAny_bind (wpAny_attempt (wpAny_callSpecial?_slot (name:=Str.ofString "__next__") hT F.slot_zip_next (wpAny_call_entry F.slot_zip_next hT F.entry_zip_next ?_ (F.args_zip_next_1 _))))
 show wpAny _ _ (field (.ref z) 2 >>= _) _ _ _
 refine wpAny_bind (wpAny_field hz rfl (x:=.bool false) rfl ?_)
 show wpAny _ _ (field (.ref z) 3 >>= _) _ _ _
 refine wpAny_bind (wpAny_field hz rfl (x:=.ref TI) rfl (wpAny_bind (wpAny_seqItems hTI rfl ?_)))
 show wpAny _ _ (Builtin.SmallTypes.ownedTupleIsFree (.ref z) >>= _) _ _ _
 refine wpAny_bind ?_
 unfold Builtin.SmallTypes.ownedTupleIsFree
 refine wpAny_bind (wpAny_field hz rfl (x:=.none) rfl (wpAny_pure ?_))
 simp only [if_true]
 refine wpAny_bind (wpAny_rule (wpAny_bind (wpAny_field hz rfl (x:=.ref TO) rfl (wpAny_bind (wpAny_setField_rec hz (by simp) fun g1 z1 s1=>?_)))))
 replace z1:IsZip g1 z TI TO .ellipsis:=z1
 refine wpAny_bind ?_
 simp only [List.zipIdx_cons,List.zipIdx_nil,List.forIn_cons,List.forIn_nil]
 refine wpAny_bind (wpAny_bind (wpAny_onRaise ?_))
 show wpAny _ _ (Builtin.SmallTypes.nextOf (.ref i1) >>= _) _ _ _
 refine wpAny_bind (xN (h1.extBut s1.extBut D.i1z) (hl1.extBut s1.extBut D.l1z) hx fun g2 q1 s2=>wpAny_pure ?_)
 have o2:IsPair g2 TO a b:=s2.extBut _ _ D.TOi1 (s1.extBut _ _ D.TOz hTO)
 refine wpAny_bind (wpAny_seqItems o2 rfl (wpAny_bind (wpAny_updateSeq_pair o2 fun g3 o3 s3=>?_)))
 replace o3:IsPair g3 TO x b:=o3
 refine wpAny_bind (wpAny_letGo (wpAny_pure (wpAny_bind (wpAny_bind (wpAny_onRaise ?_)))))
 show wpAny _ _ (Builtin.SmallTypes.nextOf (.ref i2) >>= _) _ _ _
 refine wpAny_bind (wpAny_nextOf_list_item (((h2.extBut s1.extBut D.i2z).extBut s2.extBut D.i12.symm).extBut s3.extBut D.TOi2.symm) (((hl2.extBut s1.extBut D.l2z).extBut s2.extBut D.l2i1).extBut s3.extBut D.l2TO) hy fun g4 q2 s4=>wpAny_pure ?_)
 have o4:IsPair g4 TO x b:=s4.extBut _ _ D.TOi2 o3
 refine wpAny_bind (wpAny_seqItems o4 rfl (wpAny_bind (wpAny_updateSeq_pair o4 fun g5 o5 s5=>?_)))
 replace o5:IsPair g5 TO x y:=o5
 refine wpAny_bind (wpAny_letGo (wpAny_pure (wpAny_pure (wpAny_bind (wpAny_seqItems o5 rfl (wpAny_bind (wpAny_newTuple ?_)))))))
 have hsz:g5.objs.size=s.heap.objs.size:=by rw [s5.1,s4.1,s3.1,s2.1,s1.1]
 have z5:IsZip g5 z TI TO .ellipsis:=s5.extBut _ _ D.TOz.symm (s4.extBut _ _ D.i2z.symm (s3.extBut _ _ D.TOz.symm (s2.extBut _ _ D.i1z.symm z1)))
 have k5:∀ c o,c≠z→c≠TO→c≠i1→c≠i2→s.heap.get? c=some o→g5.get? c=some o:=fun c o c1 c2 c3 c4 e=>s5.extBut _ _ c2 (s4.extBut _ _ c4 (s3.extBut _ _ c2 (s2.extBut _ _ c3 (s1.extBut _ _ c1 e))))
 have p1:g5.IsTupleIter i1 l1 (k+1):=((q1.extBut s3.extBut D.TOi1.symm).extBut s4.extBut D.i12).extBut s5.extBut D.TOi1.symm
 have p2:g5.IsListIter i2 l2 (k+1):=q2.extBut s5.extBut D.TOi2.symm
 have zlt:z < g5.objs.size:=Heap.lt_size z5
 show wpAny _ _ (Builtin.SmallTypes.ownedTupleHandOut (.ref z) (.ref g5.objs.size) >>= _) _ _ _
 refine wpAny_bind ?_
 unfold Builtin.SmallTypes.ownedTupleHandOut
 have z6:IsZip (g5.push { cls:=.type "tuple",data:=.seq #[x,y] }) z TI TO .ellipsis:=Heap.get?_push_of_some _ z5
 refine wpAny_bind (wpAny_setField_rec z6 (by simp) fun g7 z7 s7=>?_)
 replace z7:IsZip g7 z TI TO (rawInt g5.objs.size):=z7
 refine wpAny_setField_rec z7 (by simp) fun g8 z8 s8=>?_
 replace z8:IsZip g8 z TI TO (rawInt g5.objs.size):=z8
 have up:∀ c o,c≠z→g5.get? c=some o→g8.get? c=some o:=fun c o c1 e=>s8.extBut _ _ c1 (s7.extBut _ _ c1 (Heap.get?_push_of_some _ e))
 have t8:IsPair g8 g5.objs.size x y:=s8.extBut _ _ (Nat.ne_of_gt zlt) (s7.extBut _ _ (Nat.ne_of_gt zlt) (Heap.get?_push_size _ rfl))
 have n8:g8.objs.size=g5.objs.size+1:=by rw [s8.1,s7.1,Heap.size_push]
 rw [hsz] at z8 t8 n8
 refine wpAny_pure ⟨_,rfl,wpAny_pure ?_⟩
 show Q (some (.ref g5.objs.size)) _
 rw [hsz]
 exact hQ g8 z8 (up _ _ D.TOz o5) (p1.at fun o e=>up _ o D.i1z e) (p2.at fun o e=>up _ o D.i2z e) t8 n8 fun c o c1 c2 c3 c4 e=>up c o c1 (k5 c o c1 c2 c3 c4 e)
theorem tY {z TI TO i1 i2 l1 l2:Addr} {k:Nat} {xs:Array Value} {a b:Value} {Q:Option Value→Shared→Prop} (hh:A.handled=none) (D:ZipApart z TI TO i1 i2 l1 l2)
  (hz:IsZip s.heap z TI TO .none) (hTI:IsPair s.heap TI (.ref i1) (.ref i2)) (hTO:IsPair s.heap TO a b) (h1:s.heap.IsTupleIter i1 l1 k) (hl1:s.heap.IsTuple l1 xs) (hx:xs[k]?=none)
  (hQ:∀ h',(∀ c o,c≠z→c≠i1→s.heap.get? c=some o→h'.get? c=some o)→Q none { s with heap:=h' }):wpAny (model prog w) A (pyNext (.ref z)) Q E s:=by
 have hT:s.TypeIs (.ref z) "zip" := ⟨_,hz,rfl⟩
 unfold pyNext
 refine wpAny_bind (wpAny_attempt (wpAny_callSpecial?_slot (name:=Str.ofString "__next__") hT F.slot_zip_next (wpAny_call_entry F.slot_zip_next hT F.entry_zip_next ?_ (F.args_zip_next_1 _))))
 show wpAny _ _ (field (.ref z) 2 >>= _) _ _ _
 refine wpAny_bind (wpAny_field hz rfl (x:=.bool false) rfl ?_)
 show wpAny _ _ (field (.ref z) 3 >>= _) _ _ _
 refine wpAny_bind (wpAny_field hz rfl (x:=.ref TI) rfl (wpAny_bind (wpAny_seqItems hTI rfl ?_)))
 show wpAny _ _ (Builtin.SmallTypes.ownedTupleIsFree (.ref z) >>= _) _ _ _
 refine wpAny_bind ?_
 unfold Builtin.SmallTypes.ownedTupleIsFree
 refine wpAny_bind (wpAny_field hz rfl (x:=.none) rfl (wpAny_pure ?_))
 simp only [if_true]
 refine wpAny_bind (wpAny_rule (wpAny_bind (wpAny_field hz rfl (x:=.ref TO) rfl (wpAny_bind (wpAny_setField_rec hz (by simp) fun g1 z1 s1=>?_)))))
 replace z1:IsZip g1 z TI TO .ellipsis:=z1
 refine wpAny_bind ?_
 simp only [List.zipIdx_cons,List.zipIdx_nil,List.forIn_cons,List.forIn_nil]
 refine wpAny_bind (wpAny_bind (wpAny_onRaise ?_))
 show wpAny _ _ (Builtin.SmallTypes.nextOf (.ref i1) >>= _) _ _ _
 refine wpAny_bind (iV hh (h1.extBut s1.extBut D.i1z) (hl1.extBut s1.extBut D.l1z) hx fun g2 e s2 he=>?_)
 obtain ⟨oe,hoe,hce⟩:=he
 have z2:IsZip g2 z TI TO .ellipsis:=s2 _ _ D.i1z.symm z1
 have hez:e≠z:=fun q=>by
  subst q
  rw [z2] at hoe
  cases hoe
  simp at hce
 refine wpAny_setField_rec z2 (by simp) fun g3 _ s3=>?_
 refine wpAny_bind (wpAny_isInstance (T:="StopIteration") (b:=true) ⟨oe,s3.extBut _ _ hez hoe,hce⟩ isSubtype_stop (wpAny_pure (hQ _ fun c o c1 c2 q=>s3.extBut _ _ c1 (s2 _ _ c2 (s1.extBut _ _ c1 q)))))
end

noncomputable abbrev zA (h:Heap) (t:Addr):Heap:=h.push { cls:=.type "tuple_iterator",data:=.fields #[.ref t,.int 0 0] }
noncomputable abbrev zB (h:Heap) (t l:Addr):Heap:=(zA h t).push { cls:=.type "list_iterator",data:=.fields #[.ref l,.int 0 0] }
noncomputable abbrev zC (h:Heap) (t l:Addr):Heap:=(zB h t l).push { cls:=.type "tuple",data:=.seq #[.ref h.objs.size,.ref (zA h t).objs.size] }
noncomputable abbrev zD (h:Heap) (t l:Addr):Heap:=(zC h t l).push { cls:=.type "tuple",data:=.seq #[.none,.none] }
noncomputable abbrev zE (h:Heap) (t l:Addr):Heap:=(zD h t l).push { cls:=.type "zip",data:=.fields #[.none,.bool false,.bool false,.ref (zB h t l).objs.size,.ref (zC h t l).objs.size] }
theorem pQ (t l:Addr) (xs ys:Array Value) :
  Meets (Builtin.«zip.__new__» ⟨[.type "zip",.ref t,.ref l],[]⟩) (fun _ R s=>s.heap.IsTuple t xs∧s.heap.IsList l ys∧R (.ok (.ret (.ref (zD s.heap t l).objs.size))) { s with heap:=zE s.heap t l }) :=
 .of_wp fun prog w A R s h=>by
  obtain ⟨hp,g,d,tk,os⟩:=s
  obtain ⟨ht,hl,h⟩:=h
  have hsub:=sub_zip
  have hT:Heap.IsTuple (Shared.heap ⟨hp,g,d,tk,os⟩) t xs:=ht
  have hL:Heap.IsList (Shared.heap ⟨hp.push { cls:=.type "tuple_iterator",data:=.fields #[.ref t,.int 0 0] },g,d,tk,os⟩) l ys:=Heap.IsList.push hl _
  wp_walk using wpAny_pyIter_tuple hT,wpAny_pyIter_list hL
  exact ⟨_,rfl,h⟩
theorem rA {prog:Program} {w:World} {A:Around} {E:Value→Shared→Prop} {s:Shared} {t l:Addr} {xs ys:Array Value} {Q:Value→Shared→Prop} (ht:s.heap.IsTuple t xs) (hl:s.heap.IsList l ys)
  (h:∀ h',IsZip h' (s.heap.objs.size+4) (s.heap.objs.size+2) (s.heap.objs.size+3) .none→IsPair h' (s.heap.objs.size+2) (.ref s.heap.objs.size) (.ref (s.heap.objs.size+1))→IsPair h' (s.heap.objs.size+3) .none .none →
   h'.IsTupleIter s.heap.objs.size t 0→h'.IsListIter (s.heap.objs.size+1) l 0→(∀ c o,s.heap.get? c=some o→h'.get? c=some o)→Q (.ref (s.heap.objs.size+4)) { s with heap:=h' }) :
  wpAny (model prog w) A (call (.type "zip") [.ref t,.ref l]) Q E s:=by
 refine callType_new F.called_zip (by decide) (F.typeCall_zip_2 _ _) (F.newCall_zip_2 _ _) (fun obj=>F.args_object_init_3 obj _ _) F.entry_zip_new (pQ t l xs ys) ⟨ht,hl,?_⟩
 have e1:(zA s.heap t).objs.size=s.heap.objs.size+1:=Heap.size_push ..
 have e2:(zB s.heap t l).objs.size=s.heap.objs.size+2:=by rw [Heap.size_push,e1]
 have e3:(zC s.heap t l).objs.size=s.heap.objs.size+3:=by rw [Heap.size_push,e2]
 have e4:(zD s.heap t l).objs.size=s.heap.objs.size+4:=by rw [Heap.size_push,e3]
 have up4:∀ {c o},(zD s.heap t l).get? c=some o→(zE s.heap t l).get? c=some o:=fun e=>Heap.get?_push_of_some _ e
 have up3:∀ {c o},(zC s.heap t l).get? c=some o→(zE s.heap t l).get? c=some o:=fun e=>up4 (Heap.get?_push_of_some _ e)
 have up2:∀ {c o},(zB s.heap t l).get? c=some o→(zE s.heap t l).get? c=some o:=fun e=>up3 (Heap.get?_push_of_some _ e)
 have up1:∀ {c o},(zA s.heap t).get? c=some o→(zE s.heap t l).get? c=some o:=fun e=>up2 (Heap.get?_push_of_some _ e)
 have g5:(zE s.heap t l).get? (zD s.heap t l).objs.size=some _:=Heap.get?_push_size _ rfl
 have g4:(zE s.heap t l).get? (zC s.heap t l).objs.size=some _:=up4 (Heap.get?_push_size _ rfl)
 have g3:(zE s.heap t l).get? (zB s.heap t l).objs.size=some _:=up3 (Heap.get?_push_size _ rfl)
 have g2:(zE s.heap t l).get? (zA s.heap t).objs.size=some _:=up2 (Heap.get?_push_size _ rfl)
 have g1:(zE s.heap t l).get? s.heap.objs.size=some _:=up1 (Heap.get?_push_size _ rfl)
 show _∧_
 rw [e4,e2,e3] at g5
 rw [e2,e1] at g3
 rw [e3] at g4
 rw [e1] at g2
 rw [e4]
 exact ⟨⟨_,g5,rfl⟩,h _ g5 g3 g4 ⟨_,g1,rfl,rfl⟩ ⟨_,g2,rfl,rfl⟩ fun c o x=>up1 (Heap.get?_push_of_some _ x)⟩
noncomputable def Itz (K:PySem.W.Frag) (a b:Addr):It :=
 ⟨fun i H=>∃ xs ys x y,SqT K H a xs∧SqL K H b ys∧xs[i]?=some x∧ys[i]?=some y,
  fun i H v H'=>∃ T,H T=none∧v=.ref T∧∀ xs ys,SqT K H a xs→SqL K H b ys→∃ x y,xs[i]?=some x∧ys[i]?=some y∧H'=upd H T (.tup [x,y]),
  fun i H=>∃ xs,SqT K H a xs∧xs.length≤i⟩
noncomputable def tnz (z TI TO i1 i2 a b:Addr) (i:Nat) (h:Heap):Prop:=IsZip h z TI TO .none∧IsPair h TI (.ref i1) (.ref i2)∧(∃ u v,IsPair h TO u v)∧h.IsTupleIter i1 a i∧h.IsListIter i2 b i
theorem xO {P:Program} {w:World} {K:PySem.W.Frag} {es:List Expr} {k:Nat} {pos:Pos} {z TI TO i1 i2 a b:Addr} (D:ZipApart z TI TO i1 i2 a b) :
  Turn P w K (.Tuple es k pos) (Itz K a b) [z,TI,TO,i1,i2] z (tnz z TI TO i1 i2 a b) where
 mem:=by simp
 obj:=fun i h st c hc=>by
  obtain ⟨s1,s2,⟨u,v,s3⟩,⟨o4,s4,c4,d4⟩,⟨o5,s5,c5,d5⟩⟩:=st
  simp only [List.mem_cons,List.not_mem_nil,or_false] at hc
  rcases hc with e | e | e | e | e <;> subst e
  ·exact ⟨_,s1,fun v q=>by cases q⟩
  ·exact ⟨_,s2,fun v q=>by cases q⟩
  ·exact ⟨_,s3,fun v q=>by cases q⟩
  ·exact ⟨_,s4,fun v q=>by rw [d4] at q; cases q⟩
  ·exact ⟨_,s5,fun v q=>by rw [d5] at q; cases q⟩
 keep:=fun i h h' st kp=>by
  obtain ⟨s1,s2,⟨u,v,s3⟩,s4,s5⟩:=st
  exact ⟨kp z (by simp) _ s1,kp TI (by simp) _ s2,⟨u,v,kp TO (by simp) _ s3⟩,s4.at fun o e=>kp i1 (by simp) o e,s5.at fun o e=>kp i2 (by simp) o e⟩
 item:=by
  intro X hP hw hK hc i pins s σ H E I hf st hg
  subst hP hw hK
  obtain ⟨s1,s2,⟨u,v,s3⟩,s4,s5⟩:=st
  obtain ⟨xs,ys,x,y,hxs,hys,hx,hy⟩:=hg
  obtain ⟨its,rv,p,_⟩:=I.tuple hxs
  obtain ⟨jts,rw',q,_⟩:=I.list hys
  obtain ⟨ux,hux,rx⟩:=rv.get hx
  obtain ⟨uy,huy,ry⟩:=rw'.get hy
  refine rm D s1 s2 s3 s4 s5 (show s.heap.IsTuple a its.toArray from p) q.isList (x:=ux) (y:=uy) (by simpa using hux) (by simpa using huy) fun h1 g1 g2 g3 g4 g5 g6 kp=>?_
  refine ⟨_,rfl,?_⟩
  refine wpAny_letOwnedTupleGo_zip g1 fun h2 e1 sb=>?_
  have ne:∀ c,c∈[z,TI,TO,i1,i2]→c≠s.heap.objs.size:=fun c hc' e=>by
   obtain ⟨f0,f1,f2,f3,f4,f5⟩:=hf c hc'
   have:∃ o,s.heap.get? c=some o:=by
    simp only [List.mem_cons,List.not_mem_nil,or_false] at hc'
    rcases hc' with q | q | q | q | q <;> subst q
    ·exact ⟨_,s1⟩
    ·exact ⟨_,s2⟩
    ·exact ⟨_,s3⟩
    ·exact let ⟨o,h,_⟩:=s4; ⟨o,h⟩
    ·exact let ⟨o,h,_⟩:=s5; ⟨o,h⟩
   obtain ⟨o,ho⟩:=this
   exact absurd (Heap.lt_size ho) (by rw [e]; exact Nat.lt_irrefl _)
  have hT:H s.heap.objs.size=none:=I.hok.fresh (Nat.le_refl _)
  have kept:∀ c o,c ∉ [z,TO,i1,i2]→s.heap.get? c=some o→h2.get? c=some o:=fun c o hc' e =>
   sb.extBut _ _ (fun q=>hc' (by simp [q])) (kp c o (fun q=>hc' (by simp [q])) (fun q=>hc' (by simp [q])) (fun q=>hc' (by simp [q])) (fun q=>hc' (by simp [q])) e)
  have inF:∀ c,c∈[z,TO,i1,i2]→c∈[z,TI,TO,i1,i2]:=fun c hc'=>by
   simp only [List.mem_cons,List.not_mem_nil,or_false] at hc' ⊢
   rcases hc' with q | q | q | q <;> simp [q]
  have trk:∀ c o,H c=some o→c ∉ [z,TO,i1,i2]:=fun c o e hc'=>by
   have:=(hf c (inF c hc')).1
   rw [e] at this; cases this
  have newT:h2.get? s.heap.objs.size=some { cls:=.type "tuple",data:=.seq #[ux,uy] }:=sb.extBut _ _ (Ne.symm (ne z (by simp))) g5
  have hok2:HOk X.prog X.w (upd H s.heap.objs.size (.tup [x,y])) h2:=fun c o e=>by
   by_cases hb:c=s.heap.objs.size
   ·subst hb
    rw [ak] at e
    cases e
    exact ⟨by show 2≤sizeLine; decide,[ux,uy],.cons rx (.cons ry .nil),_,newT,rfl,_,rfl⟩
   ·rw [az hb] at e
    refine (I.hok c o e).stay (fun d v hd q=>kept d v ?_ q) (fun d q=>by rw [az (aG q hT)]; exact q) fun d l q=>by rw [az (aG q hT)]; exact q
    rcases hd with e' | e'
    ·rw [e']; exact trk c o e
    ·exact trk d _ e'
  have I2:Inv X pins σ (upd H s.heap.objs.size (.tup [x,y])) { s with heap:=h2 }:=by
   refine I.step (g':=s.gens) (d':=s.drawn) (t':=s.toks) (ch:=[z,TO,i1,i2]) (fun c hc'=>?_) (fun c o _ _ hn e _=>kept c o hn e) (fun c o _ _ hn e _=>⟨o.slots,kept c o hn e⟩)
    (fun c o _ e n=>by rw [az (Nat.ne_of_lt (Heap.lt_size e))]; exact n) (fun c o hn e=>⟨o,kept c o hn e⟩) (fun c l e=>by rw [az (aG e hT)]; exact e) (fun c o l e=>by rw [az (aG e hT)]; exact e)
    (fun c l e=>⟨#[],by rw [az (aG e hT),e]; simp⟩) (fun m hm=>?_) hok2 I.bare
   ·obtain ⟨f0,f1,f2,f3,f4,f5⟩:=hf c (inF c hc')
    exact ⟨f3,f1,f4,f5⟩
   ·obtain ⟨o,es',ep,ho,r⟩:=hm
    refine ⟨o,es',ep,kept _ o (fun hc'=>?_) ho,r⟩
    exact (hf _ (inF _ hc')).2.1 rfl
  refine ⟨.ref s.heap.objs.size,_,I2,rfl,⟨s.heap.objs.size,hT,rfl,fun xs' ys' e1' e2'=>⟨x,y,?_,?_,rfl⟩⟩,⟨e1,?_,?_,?_,?_⟩,fun c hc'=>?_⟩
  ·rw [I.tuple_inj e1' hxs]; exact hx
  ·rw [I.list_inj e2' hys]; exact hy
  ·exact sb.extBut _ _ D.TIz (kp _ _ D.TIz D.TITO D.TIi1 D.TIi2 s2)
  ·exact ⟨_,_,sb.extBut _ _ D.TOz g2⟩
  ·exact g3.extBut sb.extBut D.i1z
  ·exact g4.extBut sb.extBut D.i2z
  ·rw [az (ne c hc')]
   exact (hf c hc').1
 done:=by
  intro X hP hw hK hc i pins s σ H E I hf st hg
  subst hP hw hK
  obtain ⟨s1,s2,⟨u,v,s3⟩,s4,s5⟩:=st
  obtain ⟨xs,hxs,hlen⟩:=hg
  obtain ⟨its,rv,p,_⟩:=I.tuple hxs
  have hl:=rv.length
  refine tY (I.ok.hd hc) D s1 s2 s3 s4 (show s.heap.IsTuple a its.toArray from p) (by simp; omega) fun h' kp=>⟨rfl,?_⟩
  refine I.step (h':=h') (H':=H) (g':=s.gens) (d':=s.drawn) (t':=s.toks) (ch:=[z,i1]) (fun c hc'=>?_) (fun c o _ _ hn e _=>kp c o (fun q=>hn (by simp [q])) (fun q=>hn (by simp [q])) e)
   (fun c o _ _ hn e _=>⟨o.slots,kp c o (fun q=>hn (by simp [q])) (fun q=>hn (by simp [q])) e⟩) (fun c o _ e n=>n) (fun c o hn e=>⟨o,kp c o (fun q=>hn (by simp [q])) (fun q=>hn (by simp [q])) e⟩)
   (fun _ _ e=>e) (fun _ _ _ e=>e) (fun c l e=>⟨#[],by rw [e]; simp⟩) (fun m hm=>?_) (fun c o e=>?_) I.bare
  ·have:c∈[z,TI,TO,i1,i2]:=by
    simp only [List.mem_cons,List.not_mem_nil,or_false] at hc' ⊢
    rcases hc' with q | q <;> simp [q]
   obtain ⟨f0,f1,f2,f3,f4,f5⟩:=hf c this
   exact ⟨f3,f1,f4,f5⟩
  ·obtain ⟨o,es',ep,ho,r⟩:=hm
   exact ⟨o,es',ep,kp _ o (Ne.symm (hf z (by simp)).2.1) (Ne.symm (hf i1 (by simp)).2.1) ho,r⟩
  ·have nn:∀ d v c',c'∈[z,TI,TO,i1,i2]→H d=some v→d≠c':=fun d v c' hc' q e'=>by
    have:=(hf c' hc').1
    rw [← e',q] at this
    cases this
   have nz:∀ d v,H d=some v→d≠z∧d≠i1:=fun d v q=>⟨nn d v z (by simp) q,nn d v i1 (by simp) q⟩
   refine (I.hok c o e).stay (fun d v hd q=>?_) (fun _ q=>q) fun _ _ q=>q
   rcases hd with e' | e'
   ·rw [e'] at q ⊢; exact kp c v (nz c o e).1 (nz c o e).2 q
   ·exact kp d v (nz d _ e').1 (nz d _ e').2 q
 self:=fun _ _ _ _ _ st h=>wpAny_pyIter_zip st.1 h
section
variable {X:Cx}
noncomputable def G5 (K:PySem.W.Frag) (t:TA):TI:=fun σ H R=>t σ H fun vs H1=>∃ a b xs ys,vs=[.ref a,.ref b]∧SqT K H1 a xs∧SqL K H1 b ys∧R (Itz K a b) H1
theorem CT {es:List Expr} {k:Nat} {tp:Pos} {a b:Expr} {ta:TA} {p pos:Pos} (hg:Gl X "zip") (hm:X.mg "zip" = none) (ha:PA X [a,b] ta) (hs:starEach [a,b] X.env=[(false,eval a X.env),(false,eval b X.env)]:=by rfl) (hs2:starEach [b] X.env=[(false,eval b X.env)]:=by rfl) :
  PI X (.Tuple es k tp) (.Call (.Name "zip" p) [a,b] [] pos) (G5 X.K ta):=by
 intro pins s σ H R I h
 refine Call_ (gQ I hg hm boot_zip (PyProof.Rows.callWith_type1 (thn (ha pos pins s σ H _ I h) fun us s1 ⟨vs,H1,I1,r1,q1⟩=>?_) (by rw [hs,hs2]) (by rw [hs2]; rfl)))
 obtain ⟨x,y,xs,ys,e,hx,hy,q⟩:=q1
 subst e
 obtain ⟨u,v,rfl,ru,rv⟩:=vals2 r1
 cases ru
 cases rv
 obtain ⟨its,_,p1,_⟩:=I1.tuple hx
 obtain ⟨jts,_,p2,_⟩:=I1.list hy
 refine rA (show s1.heap.IsTuple x its.toArray from p1) p2.isList fun h' z1 z2 z3 z4 z5 kp=>?_
 refine wpAny_pyIter_zip z1 ?_
 have lx:x < s1.heap.objs.size:=by obtain ⟨_,e,_⟩:=(show s1.heap.IsTuple x its.toArray from p1); exact Heap.lt_size e
 have ly:y < s1.heap.objs.size:=by obtain ⟨_,e,_⟩:=p2.isList; exact Heap.lt_size e
 refine ⟨_,_,_,_,H1,rfl,I1.kept (t':=s1.toks) kp,xO (zipApart_new lx ly),⟨z1,z2,⟨_,_,z3⟩,z4,z5⟩,fun c hc=>?_,q⟩
 have hle:s1.heap.objs.size≤c:=by
  simp only [List.mem_cons,List.not_mem_nil,or_false] at hc
  rcases hc with q | q | q | q | q <;> subst q
  ·exact Nat.le_add_right _ 4
  ·exact Nat.le_add_right _ 2
  ·exact Nat.le_add_right _ 3
  ·exact Nat.le_refl _
  ·exact Nat.le_add_right _ 1
 exact I1.fpOk hle (I1.hok.fresh hle)
end
end L2

set_option Elab.async false
set_option linter.all false
set_option maxRecDepth 100000
namespace L2
open PySem PySem.Spec PyProof.Rows
theorem IsTh.same {S:Addr→Prop} {H H':Hp} {v:V} {d:PyData} (h:IsTh S H v d) (s:Same H H'):IsTh S H' v d:=h.keep (fun b xs e=>s b _ e) (fun b o _ e=>s b o e) fun _ _ z _=>z
theorem IsThs.same {S:Addr→Prop} {H H':Hp} {v:List V} {d:List PyData} (h:IsThs S H v d) (s:Same H H'):IsThs S H' v d:=h.keep (fun b xs e=>s b _ e) (fun b o _ e=>s b o e) fun _ _ z _=>z
theorem Same.upd {H:Hp} {D:Addr} {o:HO} (h:H D=none):Same H (upd H D o):=fun b u e=>by rw [az (aG e h)]; exact e
theorem Same.updR {H H':Hp} {D:Addr} {o:HO} (s:Same H H') (h:H' D=none):Same H (L2.upd H' D o):=s.trans (Same.upd h)
theorem rB {K:PySem.W.Frag} {S:Addr→Prop} {te:TE} {a:Addr} {xs:List V} {ds:List PyData} (f:PyData→Bool) {σ0:St} {j:Nat} {H0:Hp} {Fin:List V→Hp→Prop} (hT:H0 a=some (.tup xs)) (th:IsThs S H0 xs ds) (hl:xs.length < sizeLine)
  (hte:∀ v d H Q,d∈ds→Same H0 H→IsTh S H v d→(∀ H',Same H H'→Q (.bl (f d)) H')→te (σ0.set j (some v)) H Q)
  (fin:∀ H',Same H0 H'→Fin (ds.map fun d=>V.bl (f d)) H'):lF (Itt K a) (gq j) xH te Fin σ0 H0:=by
 have hlen:=th.length
 refine ⟨fun i m ys σ H=>m=xs.length - i∧i≤xs.length∧ys=(ds.take i).map (fun d=>V.bl (f d))∧(∀ o,σ.set j o=σ0.set j o)∧Same H0 H,⟨_,rfl,Nat.zero_le _,rfl,fun _=>rfl,Same.refl _⟩,?_⟩
 rintro i m ys σ H ⟨rfl,hi,rfl,hσ,hs⟩
 have sq:SqT K H a xs:=SqT.of (hs _ _ hT)
 refine ⟨by rw [List.length_map,List.length_take]; omega,?_⟩
 by_cases hlt:i < xs.length
 ·refine .inr ⟨⟨xs,xs[i],sq,by simp [hlt]⟩,fun x H' y=>?_⟩
  obtain ⟨e,y⟩:=y
  subst e
  have hx:=y xs sq
  obtain ⟨d,hd,ht⟩:=(th.same hs).get hx
  show te (σ.set j (some x)) H' _
  rw [hσ]
  refine hte x d H' _ (List.mem_of_getElem? hd) hs ht fun H2 s2=>⟨xs.length - (i+1),by omega,rfl,hlt,?_,fun o=>by rw [List.set_set],hs.trans s2⟩
  rw [List.take_add_one,hd]
  simp
 ·have e:i=xs.length:=by omega
  subst e
  refine .inl ⟨⟨xs,sq,Nat.le_refl _⟩,?_⟩
  rw [hlen,List.take_length]
  exact fin H hs
theorem xP {ds:List PyData} {f:PyData→Bool}:ds.map (fun d=>V.bl (f d))=(ds.map f).map V.bl:=by rw [List.map_map]; rfl
theorem CV {ds:List PyData} {f:PyData→Bool}:(ds.map f).all id=ds.all f:=by rw [List.all_map]; rfl
section
variable {X:Cx} {es:List Expr} {t:TA} {pos:Pos}
noncomputable def xQ (t:TA):TE:=fun σ H Q=>t σ H fun xs H1=>xs.length≤sizeLine∧∀ p,H1 p=none→p≠sysModules→Q (.ref p) (upd H1 p (.lst xs))
theorem pR (h:PA X es t):PE X (.List es pos) (xQ t):=by
 intro pins s σ H Q I hq
 refine wpAny_List_spliced (thn (h pos pins s σ H _ I hq) fun us s1 ⟨xs,H1,I1,r,z,q⟩=>⟨by rw [← r.length]; exact z,?_⟩)
 have hf:H1 s1.heap.objs.size=none:=I1.hok.fresh (Nat.le_refl _)
 refine ⟨.ref s1.heap.objs.size,_,I1.laid (o:=.lst xs) (t':=s1.toks) (fun b u e=>Heap.get?_push_of_some _ e) (Nat.le_refl _) ⟨z,us,0,r,Heap.get?_push_size _ rfl⟩,rfl,q _ hf (Nat.ne_of_gt I1.big)⟩
theorem nA:fJ X (.type "list") (fun xs H Q=>∃ p ys,xs=[.ref p]∧SqT X.K H p ys∧∀ l,H l=none→l≠sysModules→Q (.ref l) (upd H l (.lst ys))):=by
 intro pins s σ H xs us Q I r h
 obtain ⟨p,ys,rfl,hq,q⟩:=h
 obtain ⟨u,rfl,rx⟩:=vals1 r
 cases rx
 obtain ⟨its,r',pl,hz⟩:=I.tuple hq
 have hlen:=r'.length
 obtain ⟨o,ho,hc,n,hd⟩:=pl
 refine call_list_seq p (.inr rfl) ho hc hd (fun h' c' kp e=>?_) (by simp only [List.size_toArray]; omega)
 exact ⟨.ref s.heap.objs.size,_,I.laid (t':=s.toks) kp (Nat.le_refl _) (show ObjOk X.prog X.w _ h' _ (.lst ys) from ⟨hz,its,c',r',e⟩),rfl,q _ (I.hok.fresh (Nat.le_refl _)) (Nat.ne_of_gt I.big)⟩
noncomputable def tZ:TE:=fun _ H Q=>∀ p,H p=none→p≠sysModules→Q (.ref p) (upd H p (.dK []))
theorem rC:PE X (.Dict [] [] pos) tZ:=fun pins s σ H Q I h =>
 wpAny_Dict_empty ⟨.ref s.heap.objs.size,_,I.laid (a:=s.heap.objs.size) (o:=.dK []) (t':=s.toks) (fun _ _ q=>Heap.get?_push_of_some _ q) (Nat.le_refl _) (lM s.heap I.big),rfl,h _ (I.hok.fresh (Nat.le_refl _)) (Nat.ne_of_gt I.big)⟩
noncomputable def u5 (trs:List (TE×TE)):TE:=fun σ H Q=>∀ p,H p=none→p≠sysModules→pO trs σ (upd H p (.dK [])) fun ps H2=>H2 p=some (.dK [])∧∃ kvs:List (Key×V),ps=kvs.map (fun kv=>(kV kv.1,kv.2))∧kvs.length≤15∧Q (.ref p) (upd H2 p (.dK (fZ [] kvs)))
theorem xR {keys:List (Option Expr)} {values:List Expr} {trs:List (TE×TE)} (h:PPs X pos keys values trs) (hall:keys.all (·.isSome)=true) (hl:keys.length=values.length) (h0:keys≠[])
  (h15:keys.length≤15):PE X (.Dict keys values pos) (u5 trs):=by
 intro pins s σ H Q I q
 have hn:=I.hok.fresh (Nat.le_refl s.heap.objs.size)
 have I1:=I.laid (a:=s.heap.objs.size) (o:=.dK []) (h':=s.heap.push { cls:=.type "dict",data:=.dict #[] }) (t':=s.toks) (fun _ _ q=>Heap.get?_push_of_some _ q) (Nat.le_refl _) (lM s.heap I.big)
 refine wpAny_Dict_walk (knd:=bM X.prog X.w) hall hl h0 h15 (thn (h pins _ σ _ _ I1 (q _ hn (Nat.ne_of_gt I.big))) fun ws s2 ⟨ps,H2,I2,rel,e,kvs,ep,lk,q2⟩=>?_)
 subst ep
 obtain ⟨rs,c,rk⟩:=iT (P:=X.prog) (w:=X.w) rel
 obtain ⟨z,hd,vs0,r0,dd⟩:=xJ I2.hok e
 cases r0
 refine ⟨rs,c,dd,fun h' dd' hs=>⟨.ref s.heap.objs.size,_,?_,rfl,q2⟩⟩
 have hz:(fZ [] kvs).length≤sizeLine:=by
  have h1:=gh kvs []
  rw [List.length_nil] at h1
  rw [sizeLine_eq]; omega
 have he:∃ q,h'.get? s.heap.objs.size=some q:=let ⟨q,_,_,hq,_⟩:=dd'; ⟨q,hq⟩
 exact kO I2 (by rw [e]; exact True.intro) hs he (tX hz hd (rk.merge .nil) dd')
end

section
variable {X:Cx} {a b c d:Expr} {ta tb tc td:TE} {pos:Pos}
noncomputable def uJ (r r' r'':R2) (ta tb tc td:TE):TE:=fun σ H Q=>ta σ H fun x H1=>tb σ H1 fun y H2=>r x y H2 fun z H3=>∃ k,z=.bl k ∧
 (if k=true then tc σ H3 fun x2 H4=>r' y x2 H4 fun z2 H5=>∃ k2,z2=.bl k2∧(if k2=true then td σ H5 fun x3 H6=>r'' x2 x3 H6 Q else Q (.bl false) H5) else Q (.bl false) H3)
theorem vX {o1 o2 o3:CmpOp} {r r' r'':R2} (h1:OpR X (compareOp o1) r) (h2:OpR X (compareOp o2) r') (h3:OpR X (compareOp o3) r'') (ha:PE X a ta) (hb:PE X b tb) (hc:PE X c tc) (hd:PE X d td)
  (hm:lastMarks [o1,o2,o3] [b,c,d]=false:=by with_unfolding_all rfl):PE X (.Compare a [o1,o2,o3] [b,c,d] pos) (uJ r r' r'' ta tb tc td):=by
 intro pins s σ H Q I h
 refine Compare_chain (thn (ha pins s σ H _ I h) fun v s1 ⟨x,H1,I1,r1,q1⟩=>chain_link (thn (hb pins s1 σ H1 _ I1 q1) fun u s2 ⟨y,H2,I2,r2,q2⟩ =>
  thn (h1 pins s2 σ H2 x y v u _ I2 r1 r2 q2) fun g s3 ⟨z,H3,I3,r3,k,e,q3⟩=>?_)) hm
 subst e
 cases r3
 refine wpAny_truthy_bool ?_
 cases k with
 | false=>exact ite_ff ⟨.bl false,H3,I3,rfl,q3⟩
 | true =>
  refine ite_tt (chain_link (thn (hc pins s3 σ H3 _ I3 q3) fun w' s4 ⟨z',H4,I4,r4,q4⟩=>thn (h2 pins s4 σ H4 y z' u w' _ I4 r2 r4 q4) fun g2 s5 ⟨z5,H5,I5,r5,k2,e2,q5⟩=>?_))
  subst e2
  cases r5
  refine wpAny_truthy_bool ?_
  cases k2 with
  | false=>exact ite_ff ⟨.bl false,H5,I5,rfl,q5⟩
  | true=>exact ite_tt (chain_last (thn (hd pins s5 σ H5 _ I5 q5) fun w6 s6 ⟨z6,H6,I6,r6,q6⟩=>h3 pins s6 σ H6 z' z6 w' w6 Q I6 r4 r6 q6))
end

noncomputable def Ev (σ:St) (H:Hp) (t:TE) (v:V):Prop:=∀ Q:VK,Q v H→t σ H Q
section
variable {σ:St} {H:Hp} {ta tb tc td:TE}
theorem dq {v:V}:Ev σ H (tC v) v:=fun _ h=>h
theorem cU {i:Nat} {v:V} (h:σ[i]?=some (some v)):Ev σ H (vL i) v:=fun _ q=>⟨v,h,q⟩
theorem xT {C:Int→Int→Prop} {g:Int→Int→V} {i j:Int} (a:Ev σ H ta (.int i)) (b:Ev σ H tb (.int j)) (c:C i j):Ev σ H (tOp (rI C g) ta tb) (g i j):=fun _ q=>a _ (b _ ⟨i,j,rfl,rfl,c,q⟩)
theorem bK {p q:Int→Int→Bool} {i j k:Int} (a:Ev σ H ta (.int i)) (b:Ev σ H tb (.int j)) (c:Ev σ H tc (.int k)) :
  Ev σ H (tR (rI0 fun i j=>.bl (p i j)) (rI0 fun i j=>.bl (q i j)) ta tb tc) (.bl (p i j && q j k)):=fun Q h=>a _ (b _ ⟨i,j,rfl,rfl,_,rfl,by
 cases e:p i j with
 | false =>
  rw [e] at h
  exact bf h
 | true =>
  rw [e] at h
  exact aY (c _ ⟨j,k,rfl,rfl,h⟩)⟩)
theorem vY {p q r:Int→Int→Bool} {i j k l:Int} (a:Ev σ H ta (.int i)) (b:Ev σ H tb (.int j)) (c:Ev σ H tc (.int k)) (d:Ev σ H td (.int l)) :
  Ev σ H (uJ (rI0 fun i j=>.bl (p i j)) (rI0 fun i j=>.bl (q i j)) (rI0 fun i j=>.bl (r i j)) ta tb tc td) (.bl (p i j && (q j k && r k l))):=fun Q h=>a _ (b _ ⟨i,j,rfl,rfl,_,rfl,by
 cases e:p i j with
 | false =>
  rw [e] at h
  exact bf h
 | true =>
  rw [e] at h
  refine aY (c _ ⟨j,k,rfl,rfl,_,rfl,?_⟩)
  cases e2:q j k with
  | false =>
   rw [e2] at h
   exact bf h
  | true =>
   rw [e2] at h
   exact aY (d _ ⟨k,l,rfl,rfl,h⟩)⟩)
theorem gH {b c:Bool} (x:Ev σ H ta (.bl b)) (y:b=true→Ev σ H tb (.bl c)):Ev σ H (BK ta tb) (.bl (b && c)):=fun Q h=>x _ ⟨b,rfl,by
 cases e:b with
 | false =>
  rw [e] at h
  exact bf h
 | true =>
  rw [e] at h
  exact aY (y e _ h)⟩
end
end L2

set_option Elab.async false
set_option linter.all false
set_option maxRecDepth 100000
namespace L2
open PySem PySem.Spec PyProof.Rows
structure Plain (e:Expr):Prop where
 eq:∀ (es:List Expr) (env:Env),starEach (e :: es) env=(false,eval e env) :: starEach es env
theorem gY {c j p}:Plain (.Constant c j p):=⟨fun _ _=>rfl⟩
theorem iW {x p}:Plain (.Name x p):=⟨fun _ _=>rfl⟩
theorem gZ {es k p}:Plain (.Tuple es k p):=⟨fun _ _=>rfl⟩
theorem iY {es p}:Plain (.List es p):=⟨fun _ _=>rfl⟩
theorem iZ {ks vs p}:Plain (.Dict ks vs p):=⟨fun _ _=>rfl⟩
theorem j4 {f as ks p}:Plain (.Call f as ks p):=⟨fun _ _=>rfl⟩
theorem plain_bin {a o b p}:Plain (.BinOp a o b p):=⟨fun _ _=>rfl⟩
theorem lQ {o a p}:Plain (.UnaryOp o a p):=⟨fun _ _=>rfl⟩
theorem jJ {a b p}:Plain (.Subscript a b p):=⟨fun _ _=>rfl⟩
theorem j5 {a b c p}:Plain (.ListComp a b c p):=⟨fun _ _=>rfl⟩
theorem jK {a b c p}:Plain (.Compare a b c p):=⟨fun _ _=>rfl⟩
section
variable {X:Cx} {e:Expr} {es:List Expr} {te:TE} {t:TA}
theorem aq (ha:PE X e te) (hr:PA X es t) (hp:Plain e:=by first | exact iW | exact gY | exact j4 | exact gZ | exact iY | exact plain_bin | exact jJ | exact lQ | exact iZ | exact j5 | exact jK):PA X (e :: es) (dG te t) :=
 aM ha hr (hp.eq _ _)
end

structure AA (X:Cx) (es:List Expr) (t:TA):Prop where
 run:PA X es t
section
variable {X:Cx} {e:Expr} {es:List Expr} {te:TE} {t:TA} {pos:Pos}
theorem bC:AA X [] lD:=⟨aj⟩
theorem j6 (ha:PE X e te) (hr:AA X es t) (hp:Plain e:=by first | exact iW | exact gY | exact j4 | exact gZ | exact iY | exact plain_bin | exact jJ | exact lQ | exact iZ | exact j5 | exact jK):AA X (e :: es) (dG te t) :=
 ⟨aM ha hr.run (hp.eq _ _)⟩
theorem uK {x1} (h:AA X es t):PE X (.Tuple es x1 pos) (mV t):=bW h.run
theorem pU (h:AA X es t):PE X (.List es pos) (zT t):=eQ h.run
end
inductive IsInts:List Expr→List Int→Prop
 | nil:IsInts [] []
 | cons {i:Int} {j:Nat} {p:Pos} {es:List Expr} {is:List Int}:IsInts es is→IsInts (.Constant (.int i) j p :: es) (i :: is)
noncomputable def rD (is:List Int):TA:=fun _ H Q=>Q (is.map V.int) H
theorem iB {X:Cx}:∀ {es:List Expr} {is:List Int},IsInts es is→PA X es (rD is)
 | _,_,.nil=>fun _ _ _ _ H Q I h=>Calls.spliced_nil ⟨[],H,I,.nil,h⟩
 | _,_,@IsInts.cons i j p es is r=>by
  have h:=aq (X:=X) (ao (i:=i) (j:=j) (pos:=p)) (iB r)
  exact h
theorem CW {X:Cx} {i j:Int} {a b c p q r}:PE X (.Tuple [.Constant (.int i) a p,.Constant (.int j) b q] c r) (mV (rD [i,j])):=bW (iB (.cons (.cons .nil)))
theorem Ae {X:Cx} {i j k:Int} {a b c d p q q' r r'}:PE X (.Tuple [.Constant (.int i) a p,.BinOp (.Constant (.int j) b q) .Pow (.Constant (.int k) d q') r'] c r) (mV (dG (tC (.int i)) (dG (tOp (rI xj fun i j=>.int (i ^ j.toNat)) (tC (.int j)) (tC (.int k))) lD))) :=
 bW (aq ao (aq (aX jy ao ao) aj))

theorem pW {X:Cx} {es:List Expr} {k:Nat} {pos:Pos} {t:TGs} {K:PySem.W.Frag} {n:Nat} (hK:X.K=K) (hc:X.calm=true) (h:PGs X es t) (hn:(assignEach es X.env).length=n:=by rfl) (hst:(assignEach es X.env).findIdx? (·.1)=none:=by rfl) :
  PG X (.Tuple es k pos) (wX K n t):=by
 subst hK
 exact cR hc h hn hst
structure BE (X:Cx) (e:Expr) (t:TE):Prop where
 run:PE X e t
section
variable {X:Cx} {e:Expr} {es:List Expr} {te:TE} {t:TA} {pos:Pos}
theorem aR (ha:BE X e te) (hr:AA X es t) (hp:Plain e:=by first | exact iW | exact gY | exact j4 | exact gZ | exact iY | exact plain_bin | exact jJ | exact lQ | exact iZ | exact j5 | exact jK):AA X (e :: es) (dG te t):=j6 ha.run hr hp
theorem xU (h:BE X e te):PE X e te:=h.run
theorem cV {i:Int} {j}:BE X (.Constant (.int i) j pos) (tC (.int i)):=⟨ao⟩
theorem lR {b:Bool} {j}:BE X (.Constant (.bool b) j pos) (tC (.bl b)):=⟨dw⟩
theorem pX {j}:BE X (.Constant .none j pos) (tC .non):=⟨ju⟩
theorem bY {x:Str} {j}:BE X (.Constant (.str x) j pos) (tC (.str x)):=⟨iQ⟩
theorem u6 {i:Int} {j q}:BE X (.UnaryOp .USub (.Constant (.int i) j q) pos) (tUn (rU fun i=>.int (-i)) (tC (.int i))):=⟨xg tM ao⟩
theorem xV {i k:Int} {j j' q q'}:BE X (.BinOp (.Constant (.int i) j q) .Pow (.Constant (.int k) j' q') pos) (tOp (rI xj fun i j=>.int (i ^ j.toNat)) (tC (.int i)) (tC (.int k))):=⟨aX jy ao ao⟩
theorem gk {x1} (h:AA X es t):BE X (.Tuple es x1 pos) (mV t):=⟨bW h.run⟩
theorem dI (h:AA X es t):BE X (.List es pos) (zT t):=⟨eQ h.run⟩
theorem lU {i j:Int} {a b c p q r}:BE X (.Tuple [.Constant (.int i) a p,.Constant (.int j) b q] c r) (mV (rD [i,j])):=⟨CW⟩
theorem Af {i j k:Int} {a b c d p q q' r r'}:BE X (.Tuple [.Constant (.int i) a p,.BinOp (.Constant (.int j) b q) .Pow (.Constant (.int k) d q') r'] c r) (mV (dG (tC (.int i)) (dG (tOp (rI xj fun i j=>.int (i ^ j.toNat)) (tC (.int j)) (tC (.int k))) lD))):=⟨Ae⟩
end
structure BS (X:Cx) (st:Stmt) (t:TS):Prop where
 run:PS X st t
structure BSs (X:Cx) (sts:List Stmt) (t:TS):Prop where
 run:PSs X sts t
section
variable {X:Cx} {st:Stmt} {rest:List Stmt} {t u:TS} {pos:Pos}
theorem oH (h:BSs X rest t):PSs X rest t:=h.run
theorem bI (h1:BS X st t) (h2:BSs X rest u):BSs X (st :: rest) (zM t u):=⟨aA h1.run h2.run⟩
theorem dJ (h1:BS X st t):BSs X [st] t:=⟨aB h1.run⟩
theorem dM {i:Nat} {x:Str} {e:Expr} {te:TE} {pos':Pos} (hN:X.N.Nodup) (hi:X.N[i]?=some x) (hx:Loc X.env.scope x) (he:BE X e te) (hs:swapsWith e (some (.Name x pos')) pos.line X.env=pure false:=by rfl) (hf:X.fn x=true∨X.env.scope.names.lookup x=some .local:=by first | exact .inl rfl | exact .inr rfl | assumption) :
  BS X (.Assign [.Name x pos'] e pos) (wY te (gq i)):=⟨bw hN hi hx he.run hs hf⟩
theorem jL {e:Expr} {te:TE} (he:BE X e te):BS X (.Return (some e) pos) (Ck te):=⟨aN he.run⟩
theorem oJ {op:Operator} {r:R2} {a b:Expr} {ta tb:TE} (ho:OpR X (binaryOp op) r) (ha:BE X a ta) (hb:BE X b tb):BE X (.BinOp a op b pos) (tOp r ta tb):=⟨aX ho ha.run hb.run⟩
theorem gO {r:R2} {a b:Expr} {ta tb:TE} (hr:IxR X r) (ha:BE X a ta) (hb:BE X b tb) (hs:uE b):BE X (.Subscript a b pos) (tOp r ta tb):=⟨bh hr ha.run hb.run hs⟩
end
end L2

set_option Elab.async false
set_option linter.all false
set_option maxRecDepth 100000
namespace L2
open PySem PySem.Spec PyProof.Rows
section
variable {X:Cx} {es:List Expr} {t:TA} {pos:Pos}
theorem uL (h:AA X es t):BE X (.List es pos) (xQ t):=⟨pR h.run⟩
theorem xW:BE X (.Dict [] [] pos) tZ:=⟨rC⟩
theorem xX {i j:Int} {a b p q}:BE X (.Dict [some (.Constant (.int i) a p)] [.Constant (.int j) b q] pos) (u5 [(tC (.int i),tC (.int j))]):=⟨xR (qW ao ao uG) rfl rfl (by simp) (by show 1≤15; decide)⟩
end
noncomputable def ThE (S:Addr→Prop) (σ:St) (H:Hp) (t:TE) (d:PyData):Prop:=∀ H0,Same H H0→∀ Q:VK,(∀ v H',Same H0 H'→IsTh S H' v d→Q v H')→t σ H0 Q
noncomputable def ThA (S:Addr→Prop) (σ:St) (H:Hp) (t:TA) (ds:List PyData):Prop:=∀ H0,Same H H0→∀ Q:List V→Hp→Prop,(∀ vs H',Same H0 H'→IsThs S H' vs ds→Q vs H')→t σ H0 Q
section
variable {S:Addr→Prop} {σ:St} {H:Hp}
theorem Ag {v:V} {d:PyData} (h:∀ H',IsTh S H' v d):ThE S σ H (tC v) d:=fun H0 _ Q q=>q v H0 (Same.refl _) (h H0)
theorem ie {i:Int}:ThE S σ H (tC (.int i)) (.int i):=Ag fun _=>.int i
theorem BV {b:Bool}:ThE S σ H (tC (.bl b)) (.bool b):=Ag fun _=>.bl b
theorem xY:ThE S σ H (tC .non) .none:=Ag fun _=>.non
theorem pY {x:Str}:ThE S σ H (tC (.str x)) (.str x):=Ag fun _=>.str x
theorem xZ {t:TE} {i:Int} (h:∀ H',Ev σ H' t (.int i)):ThE S σ H t (.int i):=fun H0 _ Q q=>h H0 _ (q _ H0 (Same.refl _) (.int i))
theorem eU:ThA S σ H lD []:=fun H0 _ Q q=>q [] H0 (Same.refl _) .nil
theorem aW {te:TE} {ta:TA} {d:PyData} {ds:List PyData} (h1:ThE S σ H te d) (h2:ThA S σ H ta ds):ThA S σ H (dG te ta) (d :: ds):=fun H0 s0 Q q =>
 h1 H0 s0 _ fun v H1 s1 t1=>h2 H1 (s0.trans s1) _ fun vs H2 s2 t2=>q (v :: vs) H2 (s1.trans s2) (.cons (t1.same s2) t2)
theorem Ah (is:List Int):ThA S σ H (rD is) (is.map PyData.int):=fun H0 _ Q q=>q _ H0 (Same.refl _) (IsThs.ints is)
theorem ig {ta:TA} {ds:List PyData} (h:ThA S σ H ta ds) (hl:ds.length≤4000):ThE S σ H (mV ta) (.tuple ds):=fun H0 s0 Q q =>
 h H0 s0 _ fun vs H1 s1 t1=>⟨by rw [t1.length,sizeLine_eq]; omega,fun p hp=>q _ _ (s1.updR hp) (.tup ak (t1.same (Same.upd hp)))⟩
theorem uM {ta:TA} {ds:List PyData} (h:ThA S σ H ta ds) (hl:ds.length≤4000) (hS:∀ H',Same H H'→∀ p,H' p=none→p≠sysModules→S p):ThE S σ H (xQ ta) (.list ds):=fun H0 s0 Q q =>
 h H0 s0 _ fun vs H1 s1 t1=>⟨by rw [t1.length,sizeLine_eq]; omega,fun p hp np=>q _ _ (s1.updR hp) (.lst (hS H1 (s0.trans s1) p hp np) ak (t1.same (Same.upd hp)))⟩
theorem Ai (hS:∀ H',Same H H'→∀ p,H' p=none→p≠sysModules→S p):ThE S σ H tZ (.dict []):=fun H0 s0 Q q p hp np=>q _ _ (Same.upd hp) (.dct (ks:=[]) (hS H0 s0 p hp np) ak)
theorem yc {i j:Int} (hS:∀ H',Same H H'→∀ p,H' p=none→p≠sysModules→S p):ThE S σ H (u5 [(tC (.int i),tC (.int j))]) (.dict [(.int i,.int j)]):=fun H0 s0 Q q p hp np=>by
 refine ⟨ak,[(Sum.inl i,.int j)],rfl,by show 1≤15; decide,q _ _ (fun b o e=>?_) (.dct (ks:=[(Sum.inl i,j)]) (hS H0 s0 p hp np) ak)⟩
 rw [az (aG e hp),az (aG e hp)]
 exact e
end
section
variable {D:Ends} {σ:St} {H:Hp} {t u:TS} {te:TE} {ta:TA} {g:TG} {Q:VK}
theorem bN (h:D.nx σ H):wV D σ H:=h
theorem aK (h:t { D with nx:=u D } σ H):zM t u D σ H:=h
theorem Aj (h:∀ c:St→Hp→Prop,(∀ σ' H',u D σ' H'→c σ' H')→t { D with nx:=c } σ H):zM t u D σ H:=h (u D) fun _ _ z=>z
theorem aZ (h:te σ H fun x H1=>g x σ H1 D.nx):wY te g D σ H:=h
theorem CZ (h:te σ H D.rt):Ck te D σ H:=h
theorem j7 (h:ta σ H fun xs H1=>xs.length≤sizeLine∧∀ p,H1 p=none→Q (.ref p) (upd H1 p (.lst xs))):zT ta σ H Q:=h
theorem aP {i:Nat} {v:V} {R:St→Hp→Prop} (h:R (σ.set i (some v)) H):gq i v σ H R:=h
end
theorem yd {K:PySem.W.Frag} {S S':Addr→Prop} {g:TG} {te:TE} {a b:Addr} {xs zs:List V} {ds es:List PyData} (f:PyData→PyData→Bool) {σ0:St} {H0:Hp} {Fin:List V→Hp→Prop} (inv:St→Prop) (h0:inv σ0)
  (ea:H0 a=some (.tup xs)) (eb:H0 b=some (.lst zs)) (r1:IsThs S H0 xs ds) (r2:IsThs S' H0 zs es) (hl:ds.length=es.length) (hz:xs.length < sizeLine)
  (step:∀ (T:Addr) x z d e σ H (R:St→VK),d∈ds→e∈es→inv σ→Same H0 H→H T=some (.tup [x,z])→IsTh S H x d→IsTh S' H z e→(∀ σ2 H',inv σ2→Same H H'→R σ2 (.bl (f d e)) H')→g (.ref T) σ H fun σ2 H2=>te σ2 H2 (R σ2))
  (fin:∀ H',Same H0 H'→Fin ((List.zipWith f ds es).map V.bl) H'):lF (Itz K a b) g xH te Fin σ0 H0:=by
 have l1:=r1.length
 have l2:=r2.length
 refine ⟨fun i m ys σ H=>m=xs.length - i∧i≤xs.length∧ys=((List.zipWith f ds es).take i).map V.bl∧inv σ∧Same H0 H,⟨_,rfl,Nat.zero_le _,rfl,h0,Same.refl _⟩,?_⟩
 rintro i m ys σ H ⟨rfl,hi,rfl,hσ,hs⟩
 have q1:SqT K H a xs:=SqT.of (hs _ _ ea)
 have q2:SqL K H b zs:=SqL.of (hs _ _ eb)
 refine ⟨by rw [List.length_map,List.length_take]; omega,?_⟩
 by_cases hlt:i < xs.length
 ·have hlt2:i < zs.length:=by omega
  refine .inr ⟨⟨xs,zs,xs[i],zs[i],q1,q2,by simp [hlt],by simp [hlt2]⟩,fun v H' y=>?_⟩
  obtain ⟨T,nT,rfl,y⟩:=y
  obtain ⟨x,z,ex,ez,rfl⟩:=y xs zs q1 q2
  obtain ⟨d,hd,td⟩:=(r1.same (hs.updR (o:=.tup [x,z]) nT)).get ex
  obtain ⟨e,he,t2⟩:=(r2.same (hs.updR (o:=.tup [x,z]) nT)).get ez
  refine step T x z d e σ _ (fun σ2 y H4=>∃ m',m' < xs.length - i∧m'=xs.length - (i+1)∧i+1≤xs.length∧((List.zipWith f ds es).take i).map V.bl++[y]=((List.zipWith f ds es).take (i+1)).map V.bl∧inv σ2∧Same H0 H4) (List.mem_of_getElem? hd) (List.mem_of_getElem? he) hσ (hs.updR nT) ak td t2 fun σ2 H2 i2 s2=>⟨xs.length - (i+1),by omega,rfl,hlt,?_,i2,(hs.updR nT).trans s2⟩
  have hz:(List.zipWith f ds es)[i]?=some (f d e):=by rw [List.getElem?_zipWith,hd,he]
  rw [List.take_add_one,hz]
  simp
 ·have e:i=xs.length:=by omega
  subst e
  refine .inl ⟨⟨xs,q1,Nat.le_refl _⟩,?_⟩
  rw [List.take_of_length_le (by rw [List.length_zipWith]; omega)]
  exact fin H hs
end L2

set_option Elab.async false
set_option linter.all false
set_option maxRecDepth 100000
namespace L2
open PySem PySem.Spec PyProof.Rows
section
variable {X:Cx} {pos:Pos}
noncomputable def Es (i j k:Nat) (ta:TA):TS:=fun D σ H=>ta σ H fun vs H1=>∃ v w u,vs=[v,w,u]∧D.nx (((σ.set i (some v)).set j (some w)).set k (some u)) H1
theorem Ak {i j k:Nat} {x y z:Str} {a b c:Expr} {ta:TA} {px py pz pt:Pos} {kt k2 pt2} (hc:X.calm=true) (hN:X.N.Nodup) (hi:X.N[i]?=some x) (hj:X.N[j]?=some y) (hk:X.N[k]?=some z) (hij:i≠j) (hik:i≠k) (hjk:j≠k)
  (hx:X.env.scope.names.lookup x=some .local) (hy:X.env.scope.names.lookup y=some .local) (hz:X.env.scope.names.lookup z=some .local) (ha:PA X [a,b,c] ta)
  (hw:swappedStores [.Tuple [.Name x px,.Name y py,.Name z pz] kt pt] (.Tuple [a,b,c] k2 pt2) X.env=pure (some [x,y,z]))
  (hs:swapsWithSole [.Tuple [.Name x px,.Name y py,.Name z pz] kt pt] (.Tuple [a,b,c] k2 pt2) pos.line X.env=pure false:=by rfl) :
  PS X (.Assign [.Tuple [.Name x px,.Name y py,.Name z pz] kt pt] (.Tuple [a,b,c] k2 pt2) pos) (Es i j k ta):=by
 intro pins s σ H D I h
 refine Assign_Tuple_swapped (names:=[x,y,z]) (Tuple_ (thn (ha _ pins s σ H _ I h) fun us s1 ⟨vs,H1,I1,r1,q1⟩=>?_)) hs hw
 obtain ⟨v,w,u,e1,q1⟩:=q1
 subst e1
 obtain ⟨u1,u2,u3,rfl,rv,rw',ru⟩:∃ u1 u2 u3,us=[u1,u2,u3]∧RelV v u1∧RelV w u2∧RelV u u3:=by
  cases r1 with
  | cons p q =>
   cases q with
   | cons p' q' =>
    cases q' with
    | cons p2 q2 =>
     cases q2
     exact ⟨_,_,_,rfl,p,p',p2⟩
 refine wpAny_newObj_type ?_ (by show 3≤sizeLine; decide)
 have I2:Inv X pins σ H1 { s1 with heap:=s1.heap.push { cls:=.type "tuple",data:=.seq [u1,u2,u3].toArray } }:=I1.kept (t':=s1.toks) fun b o e=>Heap.get?_push_of_some _ e
 refine unpackItems_tuple (items:=#[u1,u2,u3]) (I.ok.hd hc) (IsTup.new s1.heap _) fun h' hx'=>?_
 have I3:=I2.kept (h':=h') (t':=s1.toks) fun b o e=>hx' b o (Nat.ne_of_lt (Heap.lt_size e)) e
 show wpAny _ _ (assignInOrder [fun v=>bindName X.env z v,fun v=>bindName X.env y v,fun v=>bindName X.env x v] [u3,u2,u1]) _ _ _
 refine assignInOrder_cons (wpAny_bindName (fG I3 hN hk (.inl hz) ru (fun s2 I4=>?_) (.inr hz)))
 refine assignInOrder_cons (wpAny_bindName (fG I4 hN hj (.inl hy) rw' (fun s3 I5=>?_) (.inr hy)))
 refine assignInOrder_cons (wpAny_bindName (fG I5 hN hi (.inl hx) rv (fun s4 I6=>assignInOrder_nil ?_) (.inr hx)))
 rw [List.set_comm _ _ (Ne.symm hij),List.set_comm _ _ (Ne.symm hik),List.set_comm _ _ (Ne.symm hjk)] at I6
 exact ⟨_,H1,I6,q1⟩
end
end L2

set_option Elab.async false
set_option linter.all false
set_option maxRecDepth 100000
namespace L2
open PySem PySem.Spec PyProof.Rows
theorem vZ {prog:Program} {w:World} {A:Around} (hh:A.handled=none) (it t:Addr) (hne:t≠it) (its:Array Value) :
  Draws prog w A it [it,t] its.size (fun i v=>its[i]?=some v) (fun i h=>h.IsTupleIter it t i∧h.IsTuple t its) where
 live:=fun _ _ st=>let ⟨o,ho,_⟩:=st.1; ⟨o,ho⟩
 frame:=fun _ _ _ st hk=>by
  obtain ⟨⟨o,h1,r1⟩,⟨o2,h2,r2⟩⟩:=st
  exact ⟨⟨o,hk it (by simp) o h1,r1⟩,⟨o2,hk t (by simp) o2 h2,r2⟩⟩
 item:=fun i s Q E hi st hQ=>by
  refine xN st.1 st.2 (x:=its[i]) (by simp [hi]) fun h' h1 h2=>hQ _ h' s.toks (by simp [hi]) ⟨h1,?_⟩ h2
  obtain ⟨o,e,r⟩:=st.2
  exact ⟨o,h2.extBut _ _ hne e,r⟩
 done:=fun s Q E st hE=>iV hh st.1 st.2 (by simp) hE
theorem lV (t:Addr) (its:Array Value) :
  Meets (Builtin.«enumerate.__new__» ⟨[.type "enumerate",.ref t],[]⟩) (fun _ R s=>s.heap.IsTuple t its ∧
   R (.ok (.ret (.ref (zA s.heap t).objs.size))) { s with heap:=(zA s.heap t).push { cls:=.type "enumerate",data:=.fields #[.none,.bool false,.ref s.heap.objs.size,rawInt 0,.none,.none] } }) :=
 .of_wp fun prog w A R s h=>by
  obtain ⟨hp,g,d,tk,os⟩:=s
  obtain ⟨ht,h⟩:=h
  have hsub:=sub_enumerate
  have hT:Heap.IsTuple (Shared.heap ⟨hp,g,d,tk,os⟩) t its:=ht
  wp_walk
  refine wpAny_stack_any fun st=>wpAny_pure ?_
  split
  ·rename_i c _ _ _ _ _
   cases (c == Value.type "enumerate")
   ·wp_walk using wpAny_pyIter_tuple hT
    exact ⟨_,rfl,h⟩
   ·wp_walk using wpAny_pyIter_tuple hT
    exact ⟨_,rfl,h⟩
  ·wp_walk using wpAny_pyIter_tuple hT
   exact ⟨_,rfl,h⟩
theorem nC {prog:Program} {w:World} {A:Around} {E:Value→Shared→Prop} {s:Shared} {t:Addr} {its:Array Value} {Q:Value→Shared→Prop} (ht:s.heap.IsTuple t its)
  (h:∀ h',IsEnum h' (s.heap.objs.size+1) s.heap.objs.size 0 .none→h'.IsTupleIter s.heap.objs.size t 0→(∀ c o,s.heap.get? c=some o→h'.get? c=some o)→Q (.ref (s.heap.objs.size+1)) { s with heap:=h' }) :
  wpAny (model prog w) A (call (.type "enumerate") [.ref t]) Q E s:=by
 refine callType_new F.called_enumerate (by decide) (F.typeCall_enumerate_1 _) (F.newCall_enumerate_1 _) (fun obj=>F.args_object_init_2 obj _) F.entry_enumerate_new (lV t its) ⟨ht,?_⟩
 have e1:(zA s.heap t).objs.size=s.heap.objs.size+1:=Heap.size_push ..
 have g2:=Heap.get?_push_size (zA s.heap t) (o:={ cls:=.type "enumerate",data:=.fields #[.none,.bool false,.ref s.heap.objs.size,rawInt 0,.none,.none] }) rfl
 have g1:=Heap.get?_push_of_some { cls:=.type "enumerate",data:=.fields #[.none,.bool false,.ref s.heap.objs.size,rawInt 0,.none,.none] } (Heap.get?_push_size s.heap (o:={ cls:=.type "tuple_iterator",data:=.fields #[.ref t,.int 0 0] }) rfl)
 show _∧_
 rw [e1] at g2 ⊢
 exact ⟨⟨_,g2,rfl⟩,h _ g2 ⟨_,g1,rfl,rfl⟩ fun c o x=>Heap.get?_push_of_some _ (Heap.get?_push_of_some _ x)⟩
noncomputable def Ite (K:PySem.W.Frag) (a:Addr):It :=
 ⟨fun i H=>∃ xs x,SqT K H a xs∧xs[i]?=some x,
  fun i H v H'=>∃ T,H T=none∧v=.ref T∧∀ xs,SqT K H a xs→∃ x,xs[i]?=some x∧H'=upd H T (.tup [.int i,x]),
  fun i H=>∃ xs,SqT K H a xs∧xs.length≤i⟩
noncomputable def tne (e it a:Addr) (i:Nat) (h:Heap):Prop:=(∃ old,IsEnum h e it i old)∧h.IsTupleIter it a i
theorem jM {P:Program} {w:World} {K:PySem.W.Frag} {es:List Expr} {k:Nat} {pos:Pos} {e it a:Addr} (nei:e≠it) (nea:e≠a) (nai:a≠it) :
  Turn P w K (.Tuple es k pos) (Ite K a) [e,it] e (tne e it a) where
 mem:=by simp
 obj:=fun i h st c hc=>by
  obtain ⟨⟨old,s1⟩,⟨o4,s4,c4,d4⟩⟩:=st
  simp only [List.mem_cons,List.not_mem_nil,or_false] at hc
  rcases hc with z | z <;> subst z
  ·exact ⟨_,s1,fun v q=>by cases q⟩
  ·exact ⟨_,s4,fun v q=>by rw [d4] at q; cases q⟩
 keep:=fun i h h' st kp=>by
  obtain ⟨⟨old,s1⟩,s4⟩:=st
  exact ⟨⟨old,kp e (by simp) _ s1⟩,s4.at fun o z=>kp it (by simp) o z⟩
 item:=by
  intro X hP hw hK hc i pins s σ H E I hf st hg
  subst hP hw hK
  obtain ⟨⟨old,s1⟩,s4⟩:=st
  obtain ⟨xs,x,hxs,hx⟩:=hg
  obtain ⟨its,rv,p,_⟩:=I.tuple hxs
  obtain ⟨ux,hux,rx⟩:=rv.get hx
  have hlt:i < its.toArray.size:=by
   have:=(List.getElem?_eq_some_iff.mp hux).1
   simpa using this
  have D:=vZ (prog:=X.prog) (w:=X.w) (A:=X.A.in1) (I.ok.hd hc) it a nai its.toArray
  refine wpAny_pyNext_enum_itemD D s1 ⟨s4,p⟩ hlt nei (by simp [nei,nea]) fun u h1 tk hu g1 g3 g5 g6 kp=>?_
  have eu:u=ux:=by
   have hu:its.toArray[i]?=some u:=hu
   rw [List.getElem?_toArray,hux] at hu
   exact (Option.some.inj hu).symm
  subst eu
  refine ⟨_,rfl,?_⟩
  refine wpAny_letOwnedTupleGo_enum g1 fun h2 e1 sb=>?_
  have live:∀ c,c∈[e,it]→∃ o,s.heap.get? c=some o:=fun c hc'=>by
   simp only [List.mem_cons,List.not_mem_nil,or_false] at hc'
   rcases hc' with q | q <;> subst q
   ·exact ⟨_,s1⟩
   ·exact let ⟨o,h,_⟩:=s4; ⟨o,h⟩
  have ne:∀ c,c∈[e,it]→c≠s.heap.objs.size:=fun c hc' z=>by
   obtain ⟨o,ho⟩:=live c hc'
   exact absurd (Heap.lt_size ho) (by rw [z]; exact Nat.lt_irrefl _)
  have hT:H s.heap.objs.size=none:=I.hok.fresh (Nat.le_refl _)
  have kept:∀ c o,c ∉ [e,it]→s.heap.get? c=some o→h2.get? c=some o:=fun c o hc' z =>
   sb.extBut _ _ (fun q=>hc' (by simp [q])) (kp c o (fun q=>hc' (by simp [q])) (fun q=>hc' (by simp [q])) z)
  have trk:∀ c o,H c=some o→c ∉ [e,it]:=fun c o z hc'=>by
   have:=(hf c hc').1
   rw [z] at this; cases this
  have newT:h2.get? s.heap.objs.size=some { cls:=.type "tuple",data:=.seq #[.int i tk,u] }:=sb.extBut _ _ (Ne.symm (ne e (by simp))) g5
  have hok2:HOk X.prog X.w (upd H s.heap.objs.size (.tup [.int i,x])) h2:=fun c o z=>by
   by_cases hb:c=s.heap.objs.size
   ·subst hb
    rw [ak] at z
    cases z
    exact ⟨by show 2≤sizeLine; decide,[.int i tk,u],.cons ⟨tk,rfl⟩ (.cons rx .nil),_,newT,rfl,_,rfl⟩
   ·rw [az hb] at z
    refine (I.hok c o z).stay (fun d v hd q=>kept d v ?_ q) (fun d q=>by rw [az (aG q hT)]; exact q) fun d l q=>by rw [az (aG q hT)]; exact q
    rcases hd with e' | e'
    ·rw [e']; exact trk c o z
    ·exact trk d _ e'
  have I2:Inv X pins σ (upd H s.heap.objs.size (.tup [.int i,x])) { s with heap:=h2,toks:=tk+1 }:=by
   refine I.step (g':=s.gens) (d':=s.drawn) (t':=tk+1) (ch:=[e,it]) (fun c hc'=>?_) (fun c o _ _ hn z _=>kept c o hn z) (fun c o _ _ hn z _=>⟨o.slots,kept c o hn z⟩)
    (fun c o _ z n=>by rw [az (Nat.ne_of_lt (Heap.lt_size z))]; exact n) (fun c o hn z=>⟨o,kept c o hn z⟩) (fun c l z=>by rw [az (aG z hT)]; exact z) (fun c o l z=>by rw [az (aG z hT)]; exact z)
    (fun c l z=>⟨#[],by rw [az (aG z hT),z]; simp⟩) (fun m hm=>?_) hok2 I.bare
   ·obtain ⟨f0,f1,f2,f3,f4,f5⟩:=hf c hc'
    exact ⟨f3,f1,f4,f5⟩
   ·obtain ⟨o,es',ep,ho,r⟩:=hm
    refine ⟨o,es',ep,kept _ o (fun hc'=>?_) ho,r⟩
    exact (hf _ hc').2.1 rfl
  refine ⟨.ref s.heap.objs.size,_,I2,rfl,⟨s.heap.objs.size,hT,rfl,fun xs' e1'=>⟨x,?_,rfl⟩⟩,⟨⟨u,?_⟩,?_⟩,fun c hc'=>?_⟩
  ·rw [I.tuple_inj e1' hxs]; exact hx
  ·have:=e1
   rw [show (((i+1:Nat):Int))=(i:Int)+1 by omega]
   exact this
  ·exact g3.1.extBut sb.extBut nei.symm
  ·rw [az (ne c hc')]
   exact (hf c hc').1
 done:=by
  intro X hP hw hK hc i pins s σ H E I hf st hg
  subst hP hw hK
  obtain ⟨⟨old,s1⟩,s4⟩:=st
  obtain ⟨xs,hxs,hlen⟩:=hg
  obtain ⟨its,rv,p,_⟩:=I.tuple hxs
  have hl:=rv.length
  have hT:s.TypeIs (.ref e) "enumerate" := ⟨_,s1,rfl⟩
  have fin:∀ h',Heap.ExtBut it s.heap h'→Inv X pins σ H { s with heap:=h' }:=fun h' kp=>by
   obtain ⟨f0,f1,f2,f3,f4,f5⟩:=hf it (by simp)
   exact I.turned (t':=s.toks) (fun b o hb z=>kp b o hb z) f0 f1 f3 f4 f5
  unfold pyNext
  refine wpAny_bind (wpAny_attempt (wpAny_callSpecial?_slot (name:=Str.ofString "__next__") hT F.slot_enumerate_next (wpAny_call_entry F.slot_enumerate_next hT F.entry_enumerate_next ?_ (F.args_enumerate_next_1 _))))
  show wpAny _ _ (field (.ref e) 2 >>= _) _ _ _
  refine wpAny_bind (wpAny_field s1 rfl (x:=.ref it) rfl ?_)
  refine wpAny_bind (iV (I.ok.hd hc) s4 (show s.heap.IsTuple a its.toArray from p) (by simp; omega) fun h' x he' hx'=>?_)
  obtain ⟨o,ho,hcx⟩:=hx'
  refine wpAny_bind (wpAny_isInstance (T:="StopIteration") (b:=true) ⟨o,ho,hcx⟩ isSubtype_stop (wpAny_pure ⟨rfl,fin h' he'⟩))
 self:=fun _ _ _ _ _ st h=>wpAny_pyIter_enum st.1.choose_spec h
section
variable {X:Cx}
noncomputable def ye (K:PySem.W.Frag) (t:TA):TI:=fun σ H R=>t σ H fun vs H1=>∃ a xs,vs=[.ref a]∧SqT K H1 a xs∧R (Ite K a) H1
theorem pi_enum {es:List Expr} {k:Nat} {tp:Pos} {a:Expr} {ta:TA} {p pos:Pos} (hg:Gl X "enumerate") (hm:X.mg "enumerate" = none) (ha:PA X [a] ta) (hs:starEach [a] X.env=[(false,eval a X.env)]:=by rfl) :
  PI X (.Tuple es k tp) (.Call (.Name "enumerate" p) [a] [] pos) (ye X.K ta):=by
 intro pins s σ H R I h
 refine Call_ (gQ I hg hm boot_enumerate (PyProof.Rows.callWith_type1 (thn (ha pos pins s σ H _ I h) fun us s1 ⟨vs,H1,I1,r1,q1⟩=>?_) hs rfl))
 obtain ⟨x,xs,e,hx,q⟩:=q1
 subst e
 obtain ⟨u,rfl,ru⟩:=vals1 r1
 cases ru
 obtain ⟨its,_,p1,_⟩:=I1.tuple hx
 refine nC (show s1.heap.IsTuple x its.toArray from p1) fun h' z1 z4 kp=>?_
 refine wpAny_pyIter_enum z1 ?_
 have lx:x < s1.heap.objs.size:=by obtain ⟨_,e,_⟩:=(show s1.heap.IsTuple x its.toArray from p1); exact Heap.lt_size e
 refine ⟨_,_,_,_,H1,rfl,I1.kept (t':=s1.toks) kp,jM (e:=s1.heap.objs.size+1) (it:=s1.heap.objs.size) (a:=x) (Nat.succ_ne_self _) (Nat.ne_of_gt (Nat.lt_succ_of_lt lx)) (Nat.ne_of_lt lx),⟨⟨_,z1⟩,z4⟩,fun c hc=>?_,q⟩
 have hle:s1.heap.objs.size≤c:=by
  simp only [List.mem_cons,List.not_mem_nil,or_false] at hc
  rcases hc with q | q <;> subst q
  ·exact Nat.le_add_right _ 1
  ·exact Nat.le_refl _
 exact I1.fpOk hle (I1.hok.fresh hle)
end
theorem lW {K:PySem.W.Frag} {a:Addr} {xs:List V} {g:TG} {tb:TS} {D:Ends} {σ:St} {H:Hp} (Pv:Nat→St→Hp→Prop) (h0:Pv 0 σ H) (hl:∀ i σ H,i≤xs.length→Pv i σ H→SqT K H a xs)
  (hs:∀ i x σ H T,xs[i]?=some x→Pv i σ H→H T=none→g (.ref T) σ (upd H T (.tup [.int i,x])) fun σ2 H2=>tb { D with nx:=Pv (i+1),ct:=Pv (i+1),bk:=D.nx } σ2 H2) (hd:∀ σ H,Pv xs.length σ H→D.nx σ H) :
  ∃ W:Nat→Nat→St→Hp→Prop,(∃ m,W 0 m σ H)∧∀ i m σ H,W i m σ H →
   ((Ite K a).stop i H∧D.nx σ H)∨((Ite K a).go i H∧∃ N:St→Hp→Prop,(∀ σ' H',N σ' H'→∃ m',m' < m∧W (i+1) m' σ' H')∧∀ x H',(Ite K a).yld i H x H'→g x σ H' fun σ2 H2=>tb { D with nx:=N,ct:=N,bk:=D.nx } σ2 H2):=by
 refine ⟨fun i m σ H=>m=xs.length - i∧i≤xs.length∧Pv i σ H,⟨xs.length,by simp,Nat.zero_le _,h0⟩,?_⟩
 rintro i m σ H ⟨rfl,hi,p⟩
 have q:=hl i σ H hi p
 by_cases hlt:i < xs.length
 ·refine .inr ⟨⟨xs,xs[i],q,by simp [hlt]⟩,Pv (i+1),fun σ' H' p'=>⟨xs.length - (i+1),by omega,rfl,hlt,p'⟩,fun x H' y=>?_⟩
  obtain ⟨T,nT,rfl,y⟩:=y
  obtain ⟨x,ex,rfl⟩:=y xs q
  exact hs i x σ H T ex p nT
 ·have e:i=xs.length:=by omega
  subst e
  exact .inl ⟨⟨xs,q,Nat.le_refl _⟩,hd σ H p⟩
end L2

set_option Elab.async false
set_option linter.all false
set_option maxRecDepth 100000
namespace L2
open PySem PySem.Spec PyProof.Rows
section
variable {X:Cx}
theorem nF (hc:X.calm=true):fJ X (.builtin "min") (fun xs H Q=>∃ (p:Addr) (ns:List Int),xs=[.ref p]∧SqL X.K H p (ns.map V.int)∧ns≠[]∧∀ M,M∈ns→(∀ a∈ns,M≤a)→Q (.int M) H):=by
 intro pins s σ H xs us Q I r h
 obtain ⟨p,ns,rfl,hq,hne,q⟩:=h
 obtain ⟨u,rfl,ru⟩:=vals1 r
 cases ru
 obtain ⟨its,rv,pl,hz⟩:=I.list hq
 have hi:IntsAre its ns:=intsAre_of rv
 obtain ⟨zs,ez⟩:=(hi.allInts:AllInts its.toArray).items
 have en:numsOf its=ns:=hi.numsOf
 have hl:s.heap.IsList p (intItems zs):=ez ▸ pl.isList
 have hpos:0 < zs.size:=by
  have e1:(intItems zs).size=its.length:=by rw [← ez,List.size_toArray]
  have e2:=rv.length
  rw [List.length_map] at e2
  have e3:0 < ns.length:=List.length_pos_iff.mpr hne
  simp only [intItems,Array.size_map] at e1
  omega
 have hn:numsOf (intItems zs).toList=ns:=by rw [← ez]; exact en
 refine min_intList (I.ok.hd hc) hl hpos fun v h' tk hv hk=>?_
 obtain ⟨t,rfl⟩:=intItems_at hv
 obtain ⟨h1,h2⟩:=argBest_lt (numAt zs) (zs.size - 1)
 rw [nums_intItems] at hn
 refine ⟨.int _,H,I.kept (t':=tk) hk,⟨t,rfl⟩,q _ ?_ fun a ha=>?_⟩
 ·rw [← hn,numAt_eq]
  exact getD_mem (by rw [List.length_map,Array.length_toList]; omega)
 ·rw [← hn] at ha
  obtain ⟨j,hj,rfl⟩:=mem_getD ha
  rw [List.length_map,Array.length_toList] at hj
  rw [← numAt_eq]
  exact h2 j (by omega)
noncomputable def Dd (K:PySem.W.Frag):R2:=fun x y H Q=>∃ a b ys,x=.ref a∧y=.ref b∧SqT K H a []∧SqT K H b ys∧Q (.ref b) H
open Builtin in
theorem yf (l b:Addr) (its:Array Value) (n m:Nat) (dd dd2:Option Addr) (sl sl2:Array (Option Value)) :
  Meets (Builtin.«tuple.__add__» ⟨[.ref l,.ref b],[]⟩) (fun _ R s=>s.heap.get? l=some { cls:=.type "tuple",dict:=dd,data:=.seq #[] n,slots:=sl }∧s.heap.get? b=some { cls:=.type "tuple",dict:=dd2,data:=.seq its m,slots:=sl2 }∧R (.ok (.ret (.ref b))) s):=by
 refine .of_wp fun prog w A R s h=>?_
 obtain ⟨hp,g,d,tk,os⟩:=s
 obtain ⟨hl,hb,h⟩:=h
 have f2:=PySem.AutoSeq1.sub_tuple_tuple
 wp_walk
 exact ⟨_,rfl,h⟩
theorem yg:OpR X (binaryOp .Add) (Dd X.K):=by
 intro pins s σ H x y v u Q I rx ry h
 obtain ⟨a,b,ys,rfl,rfl,ha,hb,q⟩:=h
 cases rx
 cases ry
 obtain ⟨its,r1,p1,_⟩:=I.tuple ha
 obtain ⟨its2,r2,p2,_⟩:=I.tuple hb
 have e:its=[]:=r1.zero
 subst e
 obtain ⟨⟨cls,dd,data,sl⟩,ho,hc,n,hd⟩:=id p1
 obtain ⟨⟨cls2,dd2,data2,sl2⟩,ho2,hc2,n2,hd2⟩:=id p2
 simp only at hc hd hc2 hd2
 subst hc hd hc2 hd2
 exact concat_meets ⟨_,ho,rfl⟩ ⟨_,ho2,rfl⟩ noFill_tuple_add seq_tuple_add PySem.F.slot_tuple_add PySem.F.entry_tuple_add (PySem.F.args_tuple_add_2 _ _) (yf a b its2.toArray n n2 dd dd2 sl sl2) ⟨ho,ho2,.ref b,H,I,rfl,q⟩
theorem yh:OpR X (binaryOp .Add) (fun x y H Q=>∃ a b xs ys,x=.ref a∧y=.ref b∧SqT X.K H a xs∧SqT X.K H b ys∧ys≠[]∧xs.length+ys.length≤sizeLine∧(xs=[]→Q (.ref b) H)∧(xs≠[]→∀ p,H p=none→Q (.ref p) (upd H p (.tup (xs++ys))))):=by
 intro pins s σ H x y v u Q I rx ry h
 obtain ⟨a,b,xs,ys,rfl,rfl,ha,hb,hy,hz,q1,q2⟩:=h
 by_cases hx:xs=[]
 ·subst hx
  exact yg pins s σ H _ _ v u Q I rx ry ⟨a,b,ys,rfl,rfl,ha,hb,q1 rfl⟩
 ·exact zX pins s σ H _ _ v u Q I rx ry ⟨a,b,xs,ys,rfl,rfl,ha,hb,hx,hz,fun z=>absurd z hy,fun _=>q2 hx⟩
end
section
variable {prog:Program} {w:World} {A:Around} {E:Value→Shared→Prop} {s:Shared}
open HT in
theorem ji {t sl:Addr} {items:Array Value} {vl vu:Value} {lo hi:Option Int} {Q:Value→Shared→Prop} (ht:IsTup s.heap t items) (hs:s.heap.IsSliceOf sl vl vu .none) (pl:IsPart vl lo) (pu:IsPart vu hi)
  (h1:sIx items.size 0 lo=0) (h2:sIx items.size items.size hi=items.size) (h:Q (.ref t) s):wpAny (model prog w) A (getItem (.ref t) (.ref sl)) Q E s:=by
 obtain ⟨os,hos,hcs,hds⟩:=id hs
 have hTs:s.TypeIs (.ref sl) "slice" := ⟨os,hos,hcs⟩
 unfold getItem
 try with_reducible refine wpAny_holding ?_
 first | refine wpAny_bind (wpAny_pure ?_) | skip
 refine wpAny_bind (wpAny_sequenceKey ht.typeIs (by decide) ?_)
 refine wpAny_bind (wpAny_callSpecial?_slot (name:=Str.ofString "__getitem__") ht.typeIs PyProof.Rows.slot_tuple_getitem
  (wpAny_call_entry PyProof.Rows.slot_tuple_getitem ht.typeIs entry_tuple_getitem ?_ (args_tuple_getitem _ _)))
 show wpAny _ _ (Builtin.Tuple.tupleItemsOf (.ref t) >>= _) _ _ s
 refine wpAny_bind (tupleItemsOf_ ht ?_)
 refine wpAny_bind (wpAny_typeOf hTs ?_)
 rw [if_pos (by decide)]
 refine wpAny_bind (gr hs pl pu ?_)
 rw [h1,h2]
 show wpAny _ _ (if ((((0:Nat):Int)) == 0 && (1:Int) == 1 && (items.size - 0) == items.size)=true then _ else _) _ _ s
 rw [if_pos (by simp)]
 unfold Builtin.Tuple.tupleIsExact
 refine wpAny_bind (wpAny_bind (wpAny_typeOf ht.typeIs (wpAny_pure ?_)))
 rw [if_pos (by decide)]
 exact wpAny_bind (wpAny_rule (wpAny_pure ⟨_,rfl,wpAny_pure h⟩))
end
section
variable {X:Cx}
noncomputable def G6 (K:PySem.W.Frag):V→Option Int→Option Int→Hp→VK→Prop:=fun x lo hi H Q=>∃ a xs,x=.ref a∧SqT K H a xs ∧
 ((HT.sIx xs.length 0 lo=0∧HT.sIx xs.length xs.length hi=xs.length)→Q (.ref a) H)∧(¬ (HT.sIx xs.length 0 lo=0∧HT.sIx xs.length xs.length hi=xs.length)→∀ p,H p=none→Q (.ref p) (upd H p (.tup (pB xs lo hi))))
theorem Al:SlR X (G6 X.K):=by
 intro pins s σ H x v vl vu lo hi sl Q I rx hs pl pu h
 obtain ⟨a,xs,rfl,hx,q1,q2⟩:=h
 by_cases hw:HT.sIx xs.length 0 lo=0∧HT.sIx xs.length xs.length hi=xs.length
 ·cases rx
  obtain ⟨its,r,ht,hz⟩:=I.tuple hx
  have hlen:its.toArray.size=xs.length:=by rw [List.size_toArray]; exact r.length.symm
  refine ⟨"tuple",_,PyProof.Rows.slot_tuple_getitem.lookup,ht.typeIs,?_⟩
  exact ji ht hs pl pu (by rw [hlen]; exact hw.1) (by rw [hlen]; exact hw.2) ⟨.ref a,H,I,rfl,q1 hw⟩
 ·exact Cy pins s σ H _ v vl vu lo hi sl Q I rx hs pl pu ⟨a,xs,rfl,hx,hw,q2 hw⟩
end
section
variable {prog:Program} {w:World} {A:Around} {E:Value→Shared→Prop} {s:Shared}
end
section
variable {X:Cx} {e:Expr} {te:TE} {pos p2 p3 p4:Pos} {j:Nat}
end
end L2

set_option Elab.async false
set_option linter.all false
set_option maxRecDepth 100000
namespace L2.ZT
open PySem PySem.Spec PyProof.Rows L2
section
variable {prog:Program} {w:World} {A:Around} {E:Value→Shared→Prop} {s:Shared}
end
section
variable {X:Cx}
end
end L2.ZT

set_option Elab.async false
set_option linter.all false
set_option maxRecDepth 100000
namespace L2.EL
open PySem PySem.Spec PyProof.Rows L2
noncomputable abbrev zL (h:Heap) (l:Addr):Heap:=h.push { cls:=.type "list_iterator",data:=.fields #[.ref l,.int 0 0] }
theorem lX (t:Addr) (its:Array Value) :
  Meets (Builtin.«enumerate.__new__» ⟨[.type "enumerate",.ref t],[]⟩) (fun _ R s=>s.heap.IsList t its ∧
   R (.ok (.ret (.ref (zL s.heap t).objs.size))) { s with heap:=(zL s.heap t).push { cls:=.type "enumerate",data:=.fields #[.none,.bool false,.ref s.heap.objs.size,rawInt 0,.none,.none] } }) :=
 .of_wp fun prog w A R s h=>by
  obtain ⟨hp,g,d,tk,os⟩:=s
  obtain ⟨ht,h⟩:=h
  have hsub:=sub_enumerate
  have hT:Heap.IsList (Shared.heap ⟨hp,g,d,tk,os⟩) t its:=ht
  wp_walk
  refine wpAny_stack_any fun st=>wpAny_pure ?_
  split
  ·rename_i c _ _ _ _ _
   cases (c == Value.type "enumerate")
   ·wp_walk using wpAny_pyIter_list hT
    exact ⟨_,rfl,h⟩
   ·wp_walk using wpAny_pyIter_list hT
    exact ⟨_,rfl,h⟩
  ·wp_walk using wpAny_pyIter_list hT
   exact ⟨_,rfl,h⟩
theorem nG {prog:Program} {w:World} {A:Around} {E:Value→Shared→Prop} {s:Shared} {t:Addr} {its:Array Value} {Q:Value→Shared→Prop} (ht:s.heap.IsList t its)
  (h:∀ h',IsEnum h' (s.heap.objs.size+1) s.heap.objs.size 0 .none→h'.IsListIter s.heap.objs.size t 0→(∀ c o,s.heap.get? c=some o→h'.get? c=some o)→Q (.ref (s.heap.objs.size+1)) { s with heap:=h' }) :
  wpAny (model prog w) A (call (.type "enumerate") [.ref t]) Q E s:=by
 refine callType_new F.called_enumerate (by decide) (F.typeCall_enumerate_1 _) (F.newCall_enumerate_1 _) (fun obj=>F.args_object_init_2 obj _) F.entry_enumerate_new (lX t its) ⟨ht,?_⟩
 have e1:(zL s.heap t).objs.size=s.heap.objs.size+1:=Heap.size_push ..
 have g2:=Heap.get?_push_size (zL s.heap t) (o:={ cls:=.type "enumerate",data:=.fields #[.none,.bool false,.ref s.heap.objs.size,rawInt 0,.none,.none] }) rfl
 have g1:=Heap.get?_push_of_some { cls:=.type "enumerate",data:=.fields #[.none,.bool false,.ref s.heap.objs.size,rawInt 0,.none,.none] } (Heap.get?_push_size s.heap (o:={ cls:=.type "list_iterator",data:=.fields #[.ref t,.int 0 0] }) rfl)
 show _∧_
 rw [e1] at g2 ⊢
 exact ⟨⟨_,g2,rfl⟩,h _ g2 ⟨_,g1,rfl,rfl⟩ fun c o x=>Heap.get?_push_of_some _ (Heap.get?_push_of_some _ x)⟩
noncomputable def Ite (K:PySem.W.Frag) (a:Addr):It :=
 ⟨fun i H=>∃ xs x,SqL K H a xs∧xs[i]?=some x,
  fun i H v H'=>∃ T,H T=none∧v=.ref T∧∀ xs,SqL K H a xs→∃ x,xs[i]?=some x∧H'=upd H T (.tup [.int i,x]),
  fun i H=>∃ xs,SqL K H a xs∧xs.length≤i⟩
noncomputable def tne (e it a:Addr) (i:Nat) (h:Heap):Prop:=(∃ old,IsEnum h e it i old)∧h.IsListIter it a i
theorem jM {P:Program} {w:World} {K:PySem.W.Frag} {es:List Expr} {k:Nat} {pos:Pos} {e it a:Addr} (nei:e≠it) (nea:e≠a) (nai:a≠it) :
  Turn P w K (.Tuple es k pos) (Ite K a) [e,it] e (tne e it a) where
 mem:=by simp
 obj:=fun i h st c hc=>by
  obtain ⟨⟨old,s1⟩,⟨o4,s4,c4,d4⟩⟩:=st
  simp only [List.mem_cons,List.not_mem_nil,or_false] at hc
  rcases hc with z | z <;> subst z
  ·exact ⟨_,s1,fun v q=>by cases q⟩
  ·exact ⟨_,s4,fun v q=>by rw [d4] at q; cases q⟩
 keep:=fun i h h' st kp=>by
  obtain ⟨⟨old,s1⟩,s4⟩:=st
  exact ⟨⟨old,kp e (by simp) _ s1⟩,s4.at fun o z=>kp it (by simp) o z⟩
 item:=by
  intro X hP hw hK hc i pins s σ H E I hf st hg
  subst hP hw hK
  obtain ⟨⟨old,s1⟩,s4⟩:=st
  obtain ⟨xs,x,hxs,hx⟩:=hg
  obtain ⟨its,rv,p,_⟩:=I.list hxs
  obtain ⟨ux,hux,rx⟩:=rv.get hx
  have hlt:i < its.toArray.size:=by
   have:=(List.getElem?_eq_some_iff.mp hux).1
   simpa using this
  have D:=Draws.list (prog:=X.prog) (w:=X.w) (A:=X.A.in1) (I.ok.hd hc) it a nai its.toArray
  refine wpAny_pyNext_enum_itemD D s1 ⟨s4,p.isList⟩ hlt nei (by simp [nei,nea]) fun u h1 tk hu g1 g3 g5 g6 kp=>?_
  have eu:u=ux:=by
   have hu:its.toArray[i]?=some u:=hu
   rw [List.getElem?_toArray,hux] at hu
   exact (Option.some.inj hu).symm
  subst eu
  refine ⟨_,rfl,?_⟩
  refine wpAny_letOwnedTupleGo_enum g1 fun h2 e1 sb=>?_
  have live:∀ c,c∈[e,it]→∃ o,s.heap.get? c=some o:=fun c hc'=>by
   simp only [List.mem_cons,List.not_mem_nil,or_false] at hc'
   rcases hc' with q | q <;> subst q
   ·exact ⟨_,s1⟩
   ·exact let ⟨o,h,_⟩:=s4; ⟨o,h⟩
  have ne:∀ c,c∈[e,it]→c≠s.heap.objs.size:=fun c hc' z=>by
   obtain ⟨o,ho⟩:=live c hc'
   exact absurd (Heap.lt_size ho) (by rw [z]; exact Nat.lt_irrefl _)
  have hT:H s.heap.objs.size=none:=I.hok.fresh (Nat.le_refl _)
  have kept:∀ c o,c ∉ [e,it]→s.heap.get? c=some o→h2.get? c=some o:=fun c o hc' z =>
   sb.extBut _ _ (fun q=>hc' (by simp [q])) (kp c o (fun q=>hc' (by simp [q])) (fun q=>hc' (by simp [q])) z)
  have trk:∀ c o,H c=some o→c ∉ [e,it]:=fun c o z hc'=>by
   have:=(hf c hc').1
   rw [z] at this; cases this
  have newT:h2.get? s.heap.objs.size=some { cls:=.type "tuple",data:=.seq #[.int i tk,u] }:=sb.extBut _ _ (Ne.symm (ne e (by simp))) g5
  have hok2:HOk X.prog X.w (upd H s.heap.objs.size (.tup [.int i,x])) h2:=fun c o z=>by
   by_cases hb:c=s.heap.objs.size
   ·subst hb
    rw [ak] at z
    cases z
    exact ⟨by show 2≤sizeLine; decide,[.int i tk,u],.cons ⟨tk,rfl⟩ (.cons rx .nil),_,newT,rfl,_,rfl⟩
   ·rw [az hb] at z
    refine (I.hok c o z).stay (fun d v hd q=>kept d v ?_ q) (fun d q=>by rw [az (aG q hT)]; exact q) fun d l q=>by rw [az (aG q hT)]; exact q
    rcases hd with e' | e'
    ·rw [e']; exact trk c o z
    ·exact trk d _ e'
  have I2:Inv X pins σ (upd H s.heap.objs.size (.tup [.int i,x])) { s with heap:=h2,toks:=tk+1 }:=by
   refine I.step (g':=s.gens) (d':=s.drawn) (t':=tk+1) (ch:=[e,it]) (fun c hc'=>?_) (fun c o _ _ hn z _=>kept c o hn z) (fun c o _ _ hn z _=>⟨o.slots,kept c o hn z⟩)
    (fun c o _ z n=>by rw [az (Nat.ne_of_lt (Heap.lt_size z))]; exact n) (fun c o hn z=>⟨o,kept c o hn z⟩) (fun c l z=>by rw [az (aG z hT)]; exact z) (fun c o l z=>by rw [az (aG z hT)]; exact z)
    (fun c l z=>⟨#[],by rw [az (aG z hT),z]; simp⟩) (fun m hm=>?_) hok2 I.bare
   ·obtain ⟨f0,f1,f2,f3,f4,f5⟩:=hf c hc'
    exact ⟨f3,f1,f4,f5⟩
   ·obtain ⟨o,es',ep,ho,r⟩:=hm
    refine ⟨o,es',ep,kept _ o (fun hc'=>?_) ho,r⟩
    exact (hf _ hc').2.1 rfl
  refine ⟨.ref s.heap.objs.size,_,I2,rfl,⟨s.heap.objs.size,hT,rfl,fun xs' e1'=>⟨x,?_,rfl⟩⟩,⟨⟨u,?_⟩,?_⟩,fun c hc'=>?_⟩
  ·rw [I.list_inj e1' hxs]; exact hx
  ·have:=e1
   rw [show (((i+1:Nat):Int))=(i:Int)+1 by omega]
   exact this
  ·exact g3.1.extBut sb.extBut nei.symm
  ·rw [az (ne c hc')]
   exact (hf c hc').1
 done:=by
  intro X hP hw hK hc i pins s σ H E I hf st hg
  subst hP hw hK
  obtain ⟨⟨old,s1⟩,s4⟩:=st
  obtain ⟨xs,hxs,hlen⟩:=hg
  obtain ⟨its,rv,p,_⟩:=I.list hxs
  have hl:=rv.length
  have hT:s.TypeIs (.ref e) "enumerate" := ⟨_,s1,rfl⟩
  have fin:∀ h',Heap.ExtBut it s.heap h'→Inv X pins σ H { s with heap:=h' }:=fun h' kp=>by
   obtain ⟨f0,f1,f2,f3,f4,f5⟩:=hf it (by simp)
   exact I.turned (t':=s.toks) (fun b o hb z=>kp b o hb z) f0 f1 f3 f4 f5
  unfold pyNext
  refine wpAny_bind (wpAny_attempt (wpAny_callSpecial?_slot (name:=Str.ofString "__next__") hT F.slot_enumerate_next (wpAny_call_entry F.slot_enumerate_next hT F.entry_enumerate_next ?_ (F.args_enumerate_next_1 _))))
  show wpAny _ _ (field (.ref e) 2 >>= _) _ _ _
  refine wpAny_bind (wpAny_field s1 rfl (x:=.ref it) rfl ?_)
  refine wpAny_bind (wpAny_nextOf_list_end (I.ok.hd hc) s4 p.isList (by simp; omega) fun h' x he' hx'=>?_)
  obtain ⟨o,ho,hcx⟩:=hx'
  refine wpAny_bind (wpAny_isInstance (T:="StopIteration") (b:=true) ⟨o,ho,hcx⟩ isSubtype_stop (wpAny_pure ⟨rfl,fin h' he'⟩))
 self:=fun _ _ _ _ _ st h=>wpAny_pyIter_enum st.1.choose_spec h
section
variable {X:Cx}
noncomputable def ye (K:PySem.W.Frag) (t:TA):TI:=fun σ H R=>t σ H fun vs H1=>∃ a xs,vs=[.ref a]∧SqL K H1 a xs∧R (Ite K a) H1
theorem pi_enum {es:List Expr} {k:Nat} {tp:Pos} {a:Expr} {ta:TA} {p pos:Pos} (hg:Gl X "enumerate") (hm:X.mg "enumerate" = none) (ha:PA X [a] ta) (hs:starEach [a] X.env=[(false,eval a X.env)]:=by rfl) :
  PI X (.Tuple es k tp) (.Call (.Name "enumerate" p) [a] [] pos) (ye X.K ta):=by
 intro pins s σ H R I h
 refine Call_ (gQ I hg hm boot_enumerate (PyProof.Rows.callWith_type1 (thn (ha pos pins s σ H _ I h) fun us s1 ⟨vs,H1,I1,r1,q1⟩=>?_) hs rfl))
 obtain ⟨x,xs,e,hx,q⟩:=q1
 subst e
 obtain ⟨u,rfl,ru⟩:=vals1 r1
 cases ru
 obtain ⟨its,_,p1,_⟩:=I1.list hx
 refine nG p1.isList fun h' z1 z4 kp=>?_
 refine wpAny_pyIter_enum z1 ?_
 have lx:x < s1.heap.objs.size:=by obtain ⟨_,e,_⟩:=p1.isList; exact Heap.lt_size e
 refine ⟨_,_,_,_,H1,rfl,I1.kept (t':=s1.toks) kp,jM (e:=s1.heap.objs.size+1) (it:=s1.heap.objs.size) (a:=x) (Nat.succ_ne_self _) (Nat.ne_of_gt (Nat.lt_succ_of_lt lx)) (Nat.ne_of_lt lx),⟨⟨_,z1⟩,z4⟩,fun c hc=>?_,q⟩
 have hle:s1.heap.objs.size≤c:=by
  simp only [List.mem_cons,List.not_mem_nil,or_false] at hc
  rcases hc with q | q <;> subst q
  ·exact Nat.le_add_right _ 1
  ·exact Nat.le_refl _
 exact I1.fpOk hle (I1.hok.fresh hle)
end
end L2.EL

set_option Elab.async false
set_option linter.all false
set_option maxRecDepth 100000
namespace L2
open PySem PySem.Spec PyProof.Rows PySem.Calls
theorem oK:∀ {ns:List Int} {us:List Value},Vals (ns.map V.int) us→IntsAre us ns
 | [],_,.nil=>.nil
 | n :: ns,_,.cons r t=>by
  obtain ⟨k,e⟩:=r
  rw [e]
  exact .cons n k (oK t)
section
variable {X:Cx}
theorem pZ:fJ X (.builtin "sorted") (fun xs H Q=>∃ (p:Addr) (ns:List Int),xs=[.ref p]∧SqL X.K H p (ns.map V.int)∧ns.length < 64 ∧
  ∀ (q:Addr) (ns':List Int),H q=none→ns'.Perm ns→ns'.Pairwise (·≤·)→Q (.ref q) (upd H q (.lst (ns'.map V.int)))):=by
 intro pins s σ H xs us Q I r h
 obtain ⟨p,ns,rfl,hp,h64,q⟩:=h
 obtain ⟨u,rfl,ru⟩:=vals1 r
 cases ru
 obtain ⟨its,rv,pl,hz⟩:=I.list hp
 have hl:=rv.length
 rw [List.length_map] at hl
 refine sorted_ints pl.isList (oK rv) (by omega) fun out ns' hI pm so=>?_
 obtain ⟨e,at2⟩:=sortedAll_at s.heap its out
 refine ⟨.ref (s.heap.objs.size+1),_,I.laid (t':=s.toks) (fun b o z=>sortedAll_old z) (Nat.le_succ _) (show ObjOk X.prog X.w _ _ _ (.lst (ns'.map V.int)) from ⟨by rw [List.length_map,pm.length_eq,sizeLine_eq]; omega,out.toList,e,jE hI,at2⟩),rfl,q _ ns' (I.hok.fresh (Nat.le_succ _)) pm so⟩
theorem BW:∀ {kvs:List (Key×V)} {vs:List (Key×Value)},KV kvs vs→vs.map (·.1)=kvs.map (·.1)
 | _,_,.nil=>rfl
 | _,_,.cons r t=>by
  rw [List.map_cons,List.map_cons,BW t,r.1]
theorem oM {P:Program} {w:World}:∀ {ks:List Key} {us:List Value},us.length=ks.length→(∀ (j:Nat) (u:Value),us[j]?=some u→∃ k,ks[j]?=some k∧(bM P w).is k u=true)→Vals (ks.map kV) us
 | [],[],_,_=>.nil
 | k :: ks,u :: us,h,g=>by
  obtain ⟨k',e,hk⟩:=g 0 u rfl
  rw [List.getElem?_cons_zero] at e
  cases e
  refine .cons ?_ (oM (P:=P) (w:=w) (by simpa using h) fun j u' hu=>?_)
  ·rcases bO hk with ⟨i,t,rfl,rfl⟩ | ⟨x,t,rfl,rfl⟩
   ·exact ⟨t,rfl⟩
   ·exact ⟨t,rfl⟩
  ·have:=g (j+1) u' (by rw [List.getElem?_cons_succ]; exact hu)
   rw [List.getElem?_cons_succ] at this
   exact this
 | [],_ :: _,h,_=>by simp at h
 | _ :: _,[],h,_=>by simp at h
theorem lY (hc:X.calm=true):fJ X (.type "list") (fun xs H Q=>∃ (d:Addr) (kvs:List (Key×V)),xs=[.ref d]∧H d=some (.dK kvs) ∧
  ((kvs.map (·.1)).Nodup→∀ l,H l=none→Q (.ref l) (upd H l (.lst (kvs.map fun p=>kV p.1))))):=by
 intro pins s σ H xs us Q I r h
 obtain ⟨d,kvs,rfl,hd,q⟩:=h
 obtain ⟨u,rfl,ru⟩:=vals1 r
 cases ru
 obtain ⟨hz,lo,vs,kv,o,es,ep,g1,g2,g3,g4,g5,g6⟩:=I.hok _ _ hd
 have ek:=BW kv
 have lv:vs.length=kvs.length:=by rw [← List.length_map (f:=(·.1)),ek,List.length_map]
 refine PySem.W.kdl_call (PySem.W.kdl_dict (knd:=bM X.prog X.w) (kvs:=vs) (ep:=ep) lo) (I.ok.hd hc) ⟨o,es,g1,g2,g3,g4,g5,g6⟩ (by rw [lv]; exact hz) fun h' tk acc' c' kp at' it=>?_
 refine ⟨.ref s.heap.objs.size,_,I.laid (t':=tk) kp (Nat.le_refl _) (show ObjOk X.prog X.w _ h' _ (.lst (kvs.map fun p=>kV p.1)) from ⟨by rw [List.length_map]; exact hz,acc'.toList,c',?_,at'⟩),rfl,q (by rw [← ek]; exact g6) _ (I.hok.fresh (Nat.le_refl _))⟩
 have:(kvs.map fun p=>kV p.1)=(vs.map (·.1)).map kV:=by rw [ek,List.map_map]; rfl
 rw [this]
 refine oM (P:=X.prog) (w:=X.w) (by rw [Array.length_toList,it.1,List.length_map]) fun j u hu=>?_
 obtain ⟨k,x,e,hk⟩:=it.2 j u (by rw [← Array.getElem?_toList]; exact hu)
 exact ⟨k,by rw [List.getElem?_map,e]; rfl,hk⟩
end
end L2

set_option Elab.async false
set_option linter.all false
set_option maxRecDepth 100000
namespace L2
open PySem PySem.Spec PyProof.Rows PySem.Calls
theorem rE {M:Model} {A:Around} {Q:Value→Shared→Prop} {E:Value→Shared→Prop} {s:Shared} (h:wpAny M A (newList []) Q E s):wpAny M A (newList []) (fun v s'=>v=.ref s.heap.objs.size∧Q v s') E s:=by
 intro Γ p hin
 exact ⟨rfl,h Γ p hin⟩
noncomputable def De (wi:TI) (src:List (Option Nat)) (g:TG) (tt:TT) (te:TE):TE:=fun σ H Q=>wi σ H fun J H1=>lF J g tt te (fun ys H'=>∀ D,H' D=none→D≠sysModules→Q (.ref D) (upd H' D (.lst ys))) (capσ σ src) H1
section
variable {X:Cx} {tg iter elt:Expr} {ifs:List Expr} {scope:Scope} {pos:Pos} {Nc:List Str} {wi:TI} {g:TG} {tt:TT} {te:TE}
theorem rF (Nc:List Str) (src:List (Option Nat)) (hc:X.calm=true) (hi:PI X tg iter wi)
  (hb:∀ C fp pins s₂ H₂,PG (cxC X scope Nc C fp pins s₂ H₂) tg g∧PTs (cxC X scope Nc C fp pins s₂ H₂) ifs tt∧PE (cxC X scope Nc C fp pins s₂ H₂) elt te)
  (hcaps:∀ C,Caps X (compEnvC scope (cu X.env.cells scope.names []) C X.env) Nc src) (S:CScope X scope)
  (hs:∀ x,foldedSetIterable iter X.env x=pure x:=by intro _; rfl):PE X (.ListComp elt [⟨tg,iter,ifs,0⟩] scope pos) (De wi src g tt te):=by
 intro pins s σ H Q I h
 rw [eval_ListComp]
 refine wpAny_comprehension_free (use:=none) rfl hs (kJ S.hfree) S.kind S.hnames ?_
 refine thn (hi pins s σ H _ I h) fun v s1 h1=>thn h1 fun itv s2 h2=>?_
 obtain ⟨it,fp,tn,J,H2,e,I2,T,st2,f2,hW⟩:=h2
 subst e
 have big:=I2.big
 have key:=rE (ou (iter:=iter) (pos:=pos) (E:=X.xe) (RR:=fun acc C r s'=>acc≠.ref sysModules→compPost (model X.prog X.w) X.A X.xe none (EP X pins σ Q) acc C r s') hc S hcaps hb I2 T st2 f2 hW (fun D C s' ys H' m fin nD J' hn fC ne=>by
  obtain ⟨f0,f1,_,f3,f4,f5⟩:=fC
  refine ⟨m,hn,fun h'' hs''=>?_⟩
  exact ⟨.ref D,_,J'.turned (t':=s'.toks) (fun b o hb e=>hs''.extBut b o hb e) f0 f1 f3 f4 f5,rfl,fin D nD fun z=>ne (by rw [z])⟩))
 refine wpAny_mono key (fun acc s3 ⟨ea,hq⟩=>?_) fun _ _ x=>x
 have ne:acc≠.ref sysModules:=fun z=>by
  rw [ea] at z
  injection z with z
  exact absurd z (Nat.ne_of_gt big)
 have er:(fun (C:Addr) (r:Result) (s':Shared)=>acc≠.ref sysModules→compPost (model X.prog X.w) X.A X.xe none (EP X pins σ Q) acc C r s')=compPost (model X.prog X.w) X.A X.xe none (EP X pins σ Q) acc:=by
  funext C r s'
  exact propext ⟨fun z=>z ne,fun z _=>z⟩
 have hq':=hq
 simp only [ne,ne_eq,not_false_eq_true,forall_const] at hq'
 exact hq'
end
end L2

set_option Elab.async false
set_option linter.all false
set_option maxRecDepth 100000
namespace L2
open PySem PySem.Spec PyProof.Rows PySem.Calls
structure Fly (h:Heap) (e:Addr) (C tb:Value):Prop where
 obj:∃ oe vs,h.get? e=some oe∧oe.cls=C∧oe.data=.fields vs∧vs[1]?=some tb∧oe.dict=none
 tr:tb=.none∨∃ T oT ts,tb=.ref T∧T≠e∧h.get? T=some oT∧oT.data=.fields ts∧ts[3]?=some .none
theorem wg (f:Array Value→Array Value) (o:Obj):(Obj.mapFields f o).dict=o.dict:=by
 unfold Obj.mapFields
 split <;> rfl
section
variable {M:Model} {A:Around} {E:Value→Shared→Prop} {s:Shared}
theorem rG {base:Heap} {env:Env} {outer:List Env} {L e:Addr} {oe:Obj} {vs:Array Value} {head:Value} {hadNext:Bool} {Q:Unit→Shared→Prop}
  (hfr:A.frames=some (env :: outer)) (hl:s.heap.FunFrames base (env :: outer)) (hf:env.frame=some L) (he:s.heap.get? e=some oe) (hd:oe.data=.fields vs) (hz:1 < vs.size) (hdd:oe.dict=none)
  (h:∀ h' T,s.heap.get? T=none→Fly h' e oe.cls (.ref T)→(∀ b o,s.heap.get? b=some o→b≠e→b ∉ frs (env :: outer)→h'.get? b=some o)→(∀ b o,s.heap.get? b=some o→b≠e→∃ sl,h'.get? b=some { o with slots:=sl })→Q () { s with heap:=h' }) :
  wpAny M A (do let a ← frameOf env; let pl ← entryPlaceOf L hadNext; let b ← EntryCells.newEntry head a .none (rawInt L) .none pl; setField (.ref e) 1 b) (fun _ s'=>wpAny M A (setFlight (.ref e) none) Q E s') E s:=by
 have ne:e ∉ frs (env :: outer):=fun hm=>by
  obtain ⟨_,o,ho,hn⟩:=hl.mem hm
  rw [he] at ho
  cases ho
  exact hn vs hd
 refine wpAny_bind (wpAny_frameOf_fun hfr hl hf fun h1 hs1=>?_)
 have e1:h1.get? e=some oe:=(hs1.2.1 e ne).trans he
 refine wpAny_bind (wpAny_entryPlaceOf fun pl hpl=>?_)
 unfold EntryCells.newEntry newFields
 refine wpAny_bind (wpAny_newObj_type ?_ (hpl.sizeOk5 _ _ _ _ _))
 obtain ⟨fs,efs⟩:∃ fs,fs=([head,.ref L,.none,rawInt L,.none]++(if pl.isEmpty then List.replicate 6 Value.none else pl)).toArray:=⟨_,rfl⟩
 have fz:3 < fs.size:=by
  rw [efs,List.size_toArray,List.length_append]
  show 3 < 5+_
  omega
 rw [← efs]
 obtain ⟨h2,eh2⟩:∃ h2,h2=h1.push { cls:=.type "traceback",dict:=none,data:=.fields fs }:=⟨_,rfl⟩
 have nT:h1.objs.size≠e:=Nat.ne_of_gt (Heap.lt_size e1)
 have t2:h2.get? h1.objs.size=some { cls:=.type "traceback",dict:=none,data:=.fields fs }:=by rw [eh2]; exact Heap.get?_push_size h1 rfl
 have k2:∀ b o,h1.get? b=some o→h2.get? b=some o:=fun b o z=>by rw [eh2]; exact Heap.get?_push_of_some _ z
 refine wpAny_setField (s:={ s with heap:=h1.push { cls:=.type "traceback",dict:=none,data:=.fields fs } }) (by rw [← eh2]; exact k2 _ _ e1) hd hz ?_
 rw [← eh2]
 obtain ⟨h3,eh3⟩:∃ h3,h3=h2.update e (Obj.mapFields (·.setIfInBounds 1 (Value.ref h1.objs.size))):=⟨_,rfl⟩
 have d3:=Obj.data_mapFields hd (·.setIfInBounds 1 (Value.ref h1.objs.size))
 have g3:=Heap.get?_update_self (Obj.mapFields (·.setIfInBounds 1 (Value.ref h1.objs.size))) (k2 _ _ e1) (Obj.isFreed_of_fields d3)
 have o3:∀ b,b≠e→h3.get? b=h2.get? b:=fun b hb=>by rw [eh3]; exact Heap.get?_update_other _ _ (Ne.symm hb)
 show wpAny M A (setFlight (.ref e) none) Q E { s with heap:=h2.update e (Obj.mapFields (·.setIfInBounds 1 (Value.ref h1.objs.size))) }
 rw [← eh3] at g3 ⊢
 unfold setFlight
 have v1:(vs.setIfInBounds 1 (Value.ref h1.objs.size))[1]?=some (.ref h1.objs.size):=by simp [hz]
 refine wpAny_bind (wpAny_field (s:={ s with heap:=h3 }) g3 d3 v1 ?_)
 rw [if_pos (show (Value.ref h1.objs.size != Value.none)=true by simp)]
 have t3:h3.get? h1.objs.size=some { cls:=.type "traceback",dict:=none,data:=.fields fs }:=(o3 _ nT).trans t2
 refine wpAny_setField (s:={ s with heap:=h3 }) t3 rfl fz ?_
 have kk:∀ b o,b≠e→h1.get? b=some o→(h3.update h1.objs.size (Obj.mapFields (·.setIfInBounds 3 ((none:Option Addr).elim Value.none fun f=>rawInt f)))).get? b=some o:=fun b o hb z=>by
  rw [Heap.get?_update_other _ _ (Nat.ne_of_gt (Heap.lt_size z)),o3 b hb]
  exact k2 b o z
 refine h _ h1.objs.size ?_ ⟨⟨_,_,?_,Obj.cls_mapFields _ _,d3,v1,(wg _ _).trans hdd⟩,.inr ⟨h1.objs.size,_,_,rfl,nT,Heap.get?_update_self _ t3 (Obj.isFreed_of_fields (Obj.data_mapFields rfl _)),Obj.data_mapFields rfl _,by simp [fz]⟩⟩ (fun b o z hb hn=>?_) fun b o z hb=>?_
 ·cases z:s.heap.get? h1.objs.size with
  | none=>rfl
  | some o =>
   obtain ⟨sl,q⟩:=hs1.2.2 _ o z
   exact absurd (Heap.lt_size q) (Nat.lt_irrefl _)
 ·rw [Heap.get?_update_other _ _ nT]
  exact g3
 ·exact kk b o hb ((hs1.2.1 b hn).trans z)
 ·obtain ⟨sl,q⟩:=hs1.2.2 b o z
  exact ⟨sl,kk b _ hb q⟩
theorem uN {base:Heap} {env:Env} {outer:List Env} {L e:Addr} {C tb:Value} {Q:Unit→Shared→Prop}
  (hfr:A.frames=some (env :: outer)) (hl:s.heap.FunFrames base (env :: outer)) (hf:env.frame=some L) (fl:Fly s.heap e C tb)
  (h:∀ h' T,s.heap.get? T=none→Fly h' e C (.ref T)→(∀ b o,s.heap.get? b=some o→b≠e→tb≠.ref b→b ∉ frs (env :: outer)→h'.get? b=some o)→(∀ b o,s.heap.get? b=some o→b≠e→tb≠.ref b→∃ sl,h'.get? b=some { o with slots:=sl })→(∀ b o,s.heap.get? b=some o→∃ o',h'.get? b=some o')→Q () { s with heap:=h' }) :
  wpAny M A (noteFrame (.ref e) env) (fun _ s'=>wpAny M A (setFlight (.ref e) none) Q E s') E s:=by
 obtain ⟨⟨oe,vs,he,rfl,hd,h1,hdd⟩,tr⟩:=fl
 have hz:=(Array.getElem?_eq_some_iff.mp h1).1
 unfold noteFrame
 simp only [hf]
 refine wpAny_bind (wpAny_field he hd h1 ?_)
 rcases tr with rfl | ⟨T0,oT,ts,rfl,nT,hT,hdT,h3⟩
 ·rw [if_neg (by decide)]
  refine rG hfr hl hf he hd hz hdd fun h' T nT fl' k1 k2=>h h' T nT fl' (fun b o z hb _ hn=>k1 b o z hb hn) (fun b o z hb _=>k2 b o z hb) fun b o z=>?_
  by_cases hb:b=e
  ·obtain ⟨oe',_,q,_⟩:=fl'.obj
   exact ⟨oe',hb ▸ q⟩
  ·obtain ⟨sl,q⟩:=k2 b o z hb
   exact ⟨_,q⟩
 ·rw [if_pos (show (Value.ref T0 != Value.none)=true by simp)]
  refine wpAny_bind (wpAny_field hT hdT h3 ?_)
  rw [if_neg (show ¬ ((Value.none == rawInt L)=true) by simp [rawInt])]
  refine wpAny_bind (wpAny_setField hT hdT (Array.getElem?_eq_some_iff.mp h3).1 ?_)
  obtain ⟨g,eg⟩:∃ g,g=s.heap.update T0 (Obj.mapFields (·.setIfInBounds 3 Value.none)):=⟨_,rfl⟩
  have og:∀ b,b≠T0→g.get? b=s.heap.get? b:=fun b hb=>by rw [eg]; exact Heap.get?_update_other _ _ (Ne.symm hb)
  have tg:∃ o,g.get? T0=some o:=⟨_,by rw [eg]; exact Heap.get?_update_self _ hT (Obj.isFreed_of_fields (Obj.data_mapFields hdT _))⟩
  have hl2:g.FunFrames base (env :: outer):=hl.of_keeps fun b o z hn=>⟨o,(og b fun q=>by rw [q,hT] at z; cases z; exact hn ts hdT).trans z,rfl⟩
  show wpAny M A _ _ E { s with heap:=s.heap.update T0 (Obj.mapFields (·.setIfInBounds 3 Value.none)) }
  rw [← eg]
  refine rG (s:={ s with heap:=g }) hfr hl2 hf ((og e (Ne.symm nT)).trans he) hd hz hdd fun h' T nT' fl' k1 k2=>h h' T ?_ fl' (fun b o z hb ht hn=>k1 b o ((og b fun q=>ht (by rw [q])).trans z) hb hn) (fun b o z hb ht=>k2 b o ((og b fun q=>ht (by rw [q])).trans z) hb) fun b o z=>?_
  ·have nT':g.get? T=none:=nT'
   by_cases q:T=T0
   ·obtain ⟨o,e⟩:=tg
    rw [q,e] at nT'
    cases nT'
   ·rw [← og T q]
    exact nT'
  ·by_cases hb:b=e
   ·obtain ⟨oe',_,q,_⟩:=fl'.obj
    exact ⟨oe',hb ▸ q⟩
   ·obtain ⟨o2,e2⟩:∃ o2,g.get? b=some o2:=by
     by_cases q:b=T0
     ·rw [q]; exact tg
     ·exact ⟨o,(og b q).trans z⟩
    obtain ⟨sl,q⟩:=k2 b o2 e2 hb
    exact ⟨_,q⟩
theorem rH {base:Heap} {env:Env} {outer:List Env} {L e:Addr} {C tb:Value} {Q:Unit→Shared→Prop}
  (hfr:A.frames=some (env :: outer)) (hl:s.heap.FunFrames base (env :: outer)) (hf:env.frame=some L) (fl:Fly s.heap e C tb)
  (h:∀ h' T,s.heap.get? T=none→Fly h' e C (.ref T)→(∀ b o,s.heap.get? b=some o→b≠e→tb≠.ref b→b ∉ frs (env :: outer)→h'.get? b=some o)→(∀ b o,s.heap.get? b=some o→b≠e→tb≠.ref b→∃ sl,h'.get? b=some { o with slots:=sl })→(∀ b o,s.heap.get? b=some o→∃ o',h'.get? b=some o')→Q () { s with heap:=h' }) :
  wpAny M A (leaving env (.ref e)) Q E s:=by
 unfold leaving
 exact wpAny_bind (uN hfr hl hf fl h)
end
theorem ObjOk.there {P:Program} {w:World} {H:Hp} {h:Heap} {a:Addr} {o:HO} (x:ObjOk P w H h a o):∃ ob,h.get? a=some ob:=by
 cases o with
 | lst xs=>obtain ⟨_,_,_,_,e⟩:=x; exact ⟨_,e⟩
 | tup xs=>obtain ⟨_,_,_,ob,e,_⟩:=x; exact ⟨_,e⟩
 | dK kvs=>obtain ⟨_,_,_,_,o,_,_,e,_⟩:=x; exact ⟨_,e⟩
 | dT kvs=>obtain ⟨_,_,_,_,o,_,_,e,_⟩:=x; exact ⟨_,e⟩
 | set S n=>obtain ⟨o,_,_,_,e,_⟩:=x; exact ⟨_,e⟩
 | ins C dx fs=>obtain ⟨_,_,_,e,_⟩:=x; exact ⟨_,e⟩
 | own y=>exact x
 | xd fs=>obtain ⟨_,⟨_,_,_,e,_⟩,_⟩:=x; exact ⟨_,e⟩
 | rng lo hi=>obtain ⟨_,_,_,e⟩:=x; exact ⟨_,e⟩
 | frz ob u=>obtain ⟨e,_⟩:=x; exact ⟨_,e⟩
 | tbl ps=>exact ⟨_,(show h.get? a=some _ from x)⟩
 | met f y=>exact ⟨_,(show h.get? a=some _ from x)⟩
 | ext φ=>obtain ⟨_,e,_⟩:=x; exact e
theorem HOk.no {P:Program} {w:World} {H:Hp} {h:Heap} {a:Addr} (x:HOk P w H h) (e:h.get? a=none):H a=none:=by
 cases q:H a with
 | none=>rfl
 | some o =>
  obtain ⟨ob,z⟩:=(x a o q).there
  rw [e] at z
  cases z
noncomputable def rJ (X:Cx) (EX:Addr→Addr→Hp→Prop):Prop:=∀ (pins:List (Addr×Obj)) (σ:St) (H:Hp) (s:Shared) (a C:Addr) (tb:Value),Inv X pins σ H s→Fly s.heap a (.ref C) tb→X.s₀.heap.get? a=none→H a=none →
 (∀ T,tb=.ref T→X.s₀.heap.get? T=none∧H T=none)→(∀ p∈X.pn++pins,p.1≠a∧tb≠.ref p.1)→EX a C H→X.xe (.ref a) s
noncomputable def CX1 (P:Program) (w:World):CXT:=fun outer H s E e s'=>∃ a C H' T,e=.ref a∧s'.os=s.os∧AllBare s'.gens∧Un (frs outer) [] H H' s.heap s'.heap∧HOk P w H' s'.heap∧s.heap.get? a=none∧s.heap.get? T=none∧H' a=none∧H' T=none∧Fly s'.heap a (.ref C) (.ref T)∧E (.ref a) (some C) H'
section
variable {X:Cx}
theorem Inv.was {pins:List (Addr×Obj)} {σ:St} {H:Hp} {s:Shared} {a:Addr} (I:Inv X pins σ H s) (hx:X.ex=[]) (e:s.heap.get? a=none):X.s₀.heap.get? a=none:=by
 cases q:X.s₀.heap.get? a with
 | none=>rfl
 | some o =>
  obtain ⟨o',z⟩:=I.base.there a o q (by rw [hx]; simp)
  rw [e] at z
  cases z
theorem BX {E:XK} (W:rJ X fun a C H=>E (.ref a) (some C) H) (hx:X.ex=[]):pA (CX1 X.prog X.w) X E:=by
 intro pins σ H s e s' I h
 obtain ⟨a,C,H',T,rfl,os,bare,un,hok,na,nT,fa,fT,fl,q⟩:=h
 have J:Inv X pins σ H' s':=I.call' os un hok bare fun b z=>absurd z (by simp)
 refine W pins σ H' s' a C (.ref T) J fl (I.was hx na) fa (fun T' eT=>by cases eT; exact ⟨I.was hx nT,fT⟩) (fun p hp=>?_) q
 obtain ⟨e,_⟩:=I.pin p hp
 exact ⟨fun z=>(by rw [z,na] at e; cases e),fun z=>(by cases z; rw [nT] at e; cases e)⟩
noncomputable def Df (C:Addr) (EX:Addr→Addr→Hp→Prop) (t:TA):TS:=fun _ σ H=>t σ H fun vs H1=>vs.length≤sizeLine∧∀ a,H1 a=none→EX a C H1
theorem lZ {x:Str} {C:Addr} {B newId initId:String} {bm:List Value} {EX:Addr→Addr→Hp→Prop} {np cpos pos:Pos} {e:Expr} {es:List Expr} {t:TA} (O:OwnCls x C bm newId X.mg X.base) (FB:ExcBaseFacts B newId initId bm) (hc:X.calm=true) (hx:X.ex=[]) (hg:Gl X x) (ha:PA X (e :: es) t) (W:rJ X EX)
  (hdb:(x == ("__debug__" : Str))=false:=by decide) (he:starEach (e :: es) X.env=(false,eval e X.env) :: starEach es X.env:=by rfl) (hpl:(backTo cpos (starEach es X.env)).any (·.1)=false:=by rfl) :
  PS X (.Raise (some (.Call (.Name x np) (e :: es) [] cpos)) none pos) (Df C EX t):=by
 intro pins s σ H D I h
 obtain ⟨tl,N,nm,q,bs,hdct,sn,sub,ab,col,dd,k0,k1,k2,k3,k5,mN,hC,hN,hni,T⟩:=O.obj
 refine wpAny_Raise_call_subT (C:=C) (nm:=nm) (q:=q) (N:=N) (bs:=bs) (bm:=tl) (hdct:=hdct) (sn:=sn) (sub:=sub) (ab:=ab) (col:=col) (dd:=dd) (k0:=k0) (k1:=k1) (k2:=k2) (k3:=k3) (k5:=k5)
  FB (mN:=mN) (T.hasType FB.hasBase) (I.ok.hd hc) (by rw [he]; show (false || (backTo cpos (starEach es X.env)).any (·.1))=false; rw [hpl]; rfl) hni ?_
 refine iu I hg O.bound ⟨rfl,?_⟩ hdb
 have h2:=ha cpos pins s σ H _ I h
 rw [he] at h2 ⊢
 refine Calls.evalArgs_plain (wpAny_mono h2 (fun us s2 z=>?_) fun _ _ y=>y)
 obtain ⟨vs,H1,I1,r1,hl,q1⟩:=z
 have hlen:=r1.length
 refine ⟨rfl,by show us.length≤_; omega,I1.bk _ _ hC,hN.keeps I1.bk,T.keeps I1.bk,fun h' a me=>?_⟩
 obtain ⟨tt,e1,e2,e3⟩:=me.there
 have J:Inv X pins σ H1 { s2 with heap:=h' }:=I1.kept (t':=s2.toks) me.keeps
 have fl:Fly h' a (.ref C) .none:=⟨⟨_,_,e1,rfl,rfl,rfl,rfl⟩,.inl rfl⟩
 refine W pins σ H1 _ a C .none J fl (I1.was hx me.new) (I1.hok.no me.new) (fun T z=>by cases z) (fun p hp=>?_) (q1 a (I1.hok.no me.new))
 obtain ⟨e,_⟩:=I1.pin p hp
 exact ⟨fun z=>(by rw [z,me.new] at e; cases e),fun z=>(by cases z)⟩
end
theorem kY {P:Program} {w:World} {K:PySem.W.Frag} {mg:Str→Option Value} {base:Heap} {N:List Str} {qual:Str} {scope:Scope} {f:Addr} {cd:Value} {A:Around} {outer:List Env} {s:Shared} {H:Hp} {E:XK} :
  rJ (jB (CX1 P w) P w K mg base N qual scope f cd A outer s H E) fun a C H'=>E (.ref a) (some C) H':=by
 intro pins σ H' s' a C tb I fl na fa ft _ q
 show wpAny (model P w) (A.deeper (envOfC qual scope s.heap.objs.size f cd)) (leaving (envOfC qual scope s.heap.objs.size f cd) (.ref a)) (fun _ s''=>CX1 P w outer H s E (.ref a) s'') (fun e' s''=>CX1 P w outer H s E e' s'') s'
 have hst:s'.heap.FunFrames base (envOfC qual scope s.heap.objs.size f cd :: outer):=I.stack
 have hfr:(A.deeper (envOfC qual scope s.heap.objs.size f cd)).frames=some (envOfC qual scope s.heap.objs.size f cd :: outer):=I.ok.frames
 have hff:(envOfC qual scope s.heap.objs.size f cd).frame=some s.heap.objs.size:=by
  rcases I.ok.stk with z | z
  ·exact absurd (congrArg List.length (show (envOfC qual scope s.heap.objs.size f cd :: outer)=outer from z)) (by simp)
  ·exact z.2
 have ub:Un (frs outer) [] H H' s.heap s'.heap:=I.base
 have na:s.heap.get? a=none:=na
 have ft:∀ T,tb=.ref T→s.heap.get? T=none∧H' T=none:=ft
 refine rH hfr hst hff fl fun h' T nT fl' k1 k2 k3=>?_
 have apart:∀ b o,s.heap.get? b=some o→b≠a∧tb≠.ref b:=fun b o e=>⟨fun z=>(by rw [z,na] at e; cases e),fun z=>(by rw [(ft b z).1] at e; cases e)⟩
 have nfr:∀ b o,s.heap.get? b=some o→b ∉ frs outer→b ∉ frs (envOfC qual scope s.heap.objs.size f cd :: outer):=fun b o e hn hm=>by
  unfold frs at hm
  rw [List.filterMap_cons,hff] at hm
  rcases List.mem_cons.mp hm with z | z
  ·exact absurd (Heap.lt_size e) (by rw [z]; exact Nat.lt_irrefl _)
  ·exact hn z
 refine ⟨a,C,H',T,rfl,I.os,I.bare,⟨fun b o e n hb _=>?_,fun b o e n hb _=>?_,ub.free,fun b o e hx=>?_,ub.tups,ub.frzs,ub.tbls⟩,fun c o e=>?_,na,?_,fa,I.hok.no nT,fl',q⟩
 ·exact k1 b o (ub.keep b o e n hb (by simp)) (apart b o e).1 (apart b o e).2 (nfr b o e hb)
 ·obtain ⟨sl,e1⟩:=ub.slot b o e n hb (by simp)
  obtain ⟨sl2,e2⟩:=k2 b _ e1 (apart b o e).1 (apart b o e).2
  exact ⟨sl2,e2⟩
 ·obtain ⟨o',e1⟩:=ub.there b o e hx
  exact k3 b o' e1
 ·refine (I.hok c o e).stay (fun d v hd z=>?_) (fun _ z=>z) fun _ _ z=>z
  have hHd:∃ o',H' d=some o':=by
   rcases hd with z | z
   ·exact ⟨o,by rw [z]; exact e⟩
   ·exact ⟨_,z⟩
  obtain ⟨o',eo⟩:=hHd
  refine k1 d v z (fun y=>(by rw [y,fa] at eo; cases eo)) (fun y=>(by rw [(ft d y).2] at eo; cases eo)) fun hm=>?_
  rw [I.stkFree d hm] at eo
  cases eo
 ·exact I.was rfl nT
theorem Fun.okX {P:Program} {w:World} {K:PySem.W.Frag} {mg:Str→Option Value} {base:Heap} {x qual:Str} {st:Stmt} {f:Addr} {fd:FuncData} {N ps:List Str} {k:Nat} {sp:Sp} (F:Fun K x qual st f fd) (S:FnScope N ps (aD st)) (len:∀ vs H Q E,sp vs H Q E→vs.length=ps.length)
  (hbody:∀ (cdv:Value) (A:Around) (outer:List Env) (s:Shared) (H:Hp) (vs:List V) (Q:VK) (E:XK),Room k (A.deeper (envOfC qual (aD st) s.heap.objs.size f cdv))→sp vs H Q E →
   ∃ t,PSs (jB (CX1 P w) P w K mg base N qual (aD st) f cdv A outer s H E) (cZ st) t∧t { nx:=fun _ H'=>Q .non H',rt:=Q } (start N vs) H):FnOk P w K mg base (CX1 P w) (k+1) f fd ps sp:=by
 obtain ⟨oc,od,kV,doc,pm,an,cdv,ct,osl,rfl,lk,hcd⟩:=F.ex
 exact xr lk hcd S len fun A outer s H vs Q E hr hsp=>hbody cdv A outer s H vs Q E hr hsp
theorem u9 {K:PySem.W.Frag} {h:Heap} {mg:Str→Option Value} {x:Str} {C:Addr} {bmB:List Value} {newId:String} (X:K.In h) (hm:mg x=some (.ref C)) (q:PySem.W.excIn K C bmB newId=true):OwnCls x C bmB newId mg h:=by
 refine ⟨hm,?_⟩
 unfold PySem.W.excIn at q
 split at q
 ·rename_i dd cd sl ho
  split at q
  ·rename_i C' bm k0 k1 k2 k3 n k5 hm' hs
   simp only [Bool.and_eq_true,beq_iff_eq,Bool.not_eq_true'] at q
   obtain ⟨⟨⟨⟨⟨rfl,rfl⟩,hdel⟩,ht⟩,hok⟩,hni⟩:=q
   obtain ⟨nm,bs,mro,ns,qn,hd,sn,sub,ab,col,del⟩:=cd
   dsimp only at hm' hdel hok hni
   subst hm' hdel
   obtain ⟨l⟩:=sl
   have hs:l=_:=hs
   subst hs
   exact ⟨bm,ns,nm,qn,bs,hd,sn,sub,ab,col,dd,k0,k1,k2,k3,k5,_,X _ _ ho,.of_isNs (PySem.W.isNs_of_in X hok),PySem.W.nsMap_none_of_in X hok hni,PySem.W.tail_of_in X ht⟩
  ·cases q
 ·cases q
end L2

set_option Elab.async false
set_option linter.all false
set_option maxRecDepth 100000
namespace L2
open PySem PySem.Spec PyProof.Rows PySem.Calls
section
variable {X:Cx} {pins:List (Addr×Obj)} {σ:St} {H:Hp} {s:Shared} {h':Heap}
theorem Fly.ne {h:Heap} {a:Addr} {C tb:Value} (fl:Fly h a C tb) {b:Addr} {o:Obj} (e:h.get? b=some o) (hd:∀ vs,o.data≠.fields vs):b≠a∧tb≠.ref b:=by
 obtain ⟨⟨oe,vs,he,_,hv,_,_⟩,tr⟩:=fl
 refine ⟨fun z=>?_,fun z=>?_⟩
 ·rw [z,he] at e
  cases e
  exact hd vs hv
 ·rcases tr with q | ⟨T,oT,ts,q,_,hT,hdT,_⟩
  ·rw [q] at z
   cases z
  ·rw [q] at z
   cases z
   rw [hT] at e
   cases e
   exact hd ts hdT
theorem Inv.left {a:Addr} {C tb:Value} {t':Nat} (I:Inv X pins σ H s) (hx:X.ex=[]) (fl:Fly s.heap a C tb) (na:X.s₀.heap.get? a=none) (fa:H a=none) (ft:∀ T,tb=.ref T→X.s₀.heap.get? T=none∧H T=none) (hp:∀ p∈X.pn++pins,p.1≠a∧tb≠.ref p.1)
  (k1:∀ b o,s.heap.get? b=some o→b≠a→tb≠.ref b→b ∉ frs X.stack→h'.get? b=some o) (k2:∀ b o,s.heap.get? b=some o→b≠a→tb≠.ref b→∃ sl,h'.get? b=some { o with slots:=sl }) (k3:∀ b o,s.heap.get? b=some o→∃ o',h'.get? b=some o'):Inv X pins σ H { s with heap:=h',toks:=t' }:=by
 have tr:∀ b u,H b=some u→b≠a∧tb≠.ref b∧b ∉ frs X.stack:=fun b u e=>⟨fun z=>(by rw [z,fa] at e; cases e),fun z=>(by rw [(ft b z).2] at e; cases e),fun z=>(by rw [I.stkFree b z] at e; cases e)⟩
 have old:∀ b o,X.s₀.heap.get? b=some o→b≠a∧tb≠.ref b:=fun b o e=>⟨fun z=>(by rw [z,na] at e; cases e),fun z=>(by rw [(ft b z).1] at e; cases e)⟩
 have neL:∀ b o,X.s₀.heap.get? b=some o→b≠X.env.locals:=fun b o e=>Nat.ne_of_lt (Nat.lt_of_lt_of_le (Heap.lt_size e) I.ok.above)
 have nfs:∀ b,b≠X.env.locals→b ∉ X.fs→b ∉ frs X.stack:=fun b h1 h2 z=>(List.mem_cons.mp (I.stkSub b z)).elim h1 h2
 have cellK:∀ x c,X.env.cells.lookup x=some c→∀ v,s.heap.IsCell c v→h'.IsCell c v:=fun x c e v ⟨o,ho,hd⟩=>by
  obtain ⟨n1,n2⟩:=fl.ne ho fun vs q=>by rw [hd] at q; cases q
  obtain ⟨sl,q⟩:=k2 c o ho n1 n2
  exact ⟨_,q,hd⟩
 refine ⟨I.ok,I.os,I.bare,⟨fun b o e n hb hx'=>?_,fun b o e n hb hx'=>?_,I.base.free,fun b o e hx'=>?_,I.base.tups,I.base.frzs,I.base.tbls⟩,?_,fun x c e=>?_,I.free,I.freeC,fun p hpm=>?_,fun c o e=>?_,I.len⟩
 ·exact k1 b o (I.base.keep b o e n hb hx') (old b o e).1 (old b o e).2 (nfs b (neL b o e) hb)
 ·obtain ⟨sl,e1⟩:=I.base.slot b o e n hb hx'
  obtain ⟨sl2,e2⟩:=k2 b _ e1 (old b o e).1 (old b o e).2
  exact ⟨sl2,e2⟩
 ·obtain ⟨o',e1⟩:=I.base.there b o e hx'
  exact k3 b o' e1
 ·obtain ⟨m,⟨o,es,ep,ho,hd,r⟩,hl⟩:=I.loc
  obtain ⟨n1,n2⟩:=fl.ne ho fun vs q=>by rw [hd] at q; cases q
  obtain ⟨sl,q⟩:=k2 _ o ho n1 n2
  refine ⟨m,⟨_,es,ep,q,hd,r⟩,fun i x v e1 e2 e3=>?_⟩
  obtain ⟨u,rr,l⟩:=hl i x v e1 e2 e3
  refine ⟨u,rr,?_⟩
  rcases l with l | ⟨k,c,e,z⟩
  ·exact .inl l
  ·exact .inr ⟨k,c,e,cellK x c e _ z⟩
 ·obtain ⟨v,z⟩:=I.cell x c e
  exact ⟨v,cellK x c e v z⟩
 ·obtain ⟨e,n,ne,nf,d⟩:=I.pin p hpm
  exact ⟨k1 p.1 p.2 e (hp p hpm).1 (hp p hpm).2 (nfs p.1 ne nf),n,ne,nf,d⟩
 ·refine (I.hok c o e).stay (fun d v hd z=>?_) (fun _ z=>z) fun _ _ z=>z
  have hHd:∃ o',H d=some o':=by
   rcases hd with z | z
   ·exact ⟨o,by rw [z]; exact e⟩
   ·exact ⟨_,z⟩
  obtain ⟨o',eo⟩:=hHd
  obtain ⟨t1,t2,t3⟩:=tr d o' eo
  exact k1 d v z t1 t2 t3
end
structure RoomU (k:Nat) (A:Around):Prop where
 dp:A.depth+3 * k+5 < recursionLimit
 un:A.units+16 * k+200 < cLine
 gd:A.guards=some []
theorem Room.toU {k:Nat} {A:Around} (r:Room k A):RoomU k A:=⟨r.dp,r.un,r.gd⟩
theorem RoomU.mono {j k:Nat} {A:Around} (r:RoomU k A) (h:j≤k):RoomU j A:=⟨by have:=r.dp; omega,by have:=r.un; omega,r.gd⟩
structure FnOkU (P:Program) (w:World) (K:PySem.W.Frag) (mg:Str→Option Value) (base:Heap) (CX:CXT) (k:Nat) (f:Addr) (fd:FuncData) (ps:List Str) (sp:Sp):Prop where
 len:∀ vs H Q E,sp vs H Q E→vs.length=ps.length
 run:∀ (A:Around) (outer:List Env) (s:Shared) (H:Hp) (args:Args) (us:List Value) (vs:List V) (Q:VK) (E:XK),RoomU k A→Env0 P w K mg base A outer s H→BindsTo s fd args (ps.zip us)→Vals vs us→sp vs H Q E →
  codeAny (model P w) A (.call (.ref f) args) (CR CX outer P w H s Q E) s
noncomputable abbrev Cx.un (X:Cx) (A:Around):Cx:={ X with A:=A,calm:=false }
theorem Inv.un' {X:Cx} {pins:List (Addr×Obj)} {σ:St} {H:Hp} {s:Shared} (I:Inv X pins σ H s) (A:Around) (hA:A.frames=X.A.frames):Inv (X.un A) pins σ H s :=
 ⟨⟨I.ok.mod,I.ok.kind,I.ok.glob,I.ok.blt,I.ok.above,I.ok.inj,I.ok.has,I.ok.cab,fun z=>(by cases z),hA.trans I.ok.frames,I.ok.stk,I.ok.exf,I.ok.bs,I.ok.bsz,I.ok.noex,I.ok.exfs,I.ok.funs,I.ok.frf⟩,I.os,I.bare,I.base,I.loc,I.cell,I.free,I.freeC,I.pin,I.hok,I.len⟩
noncomputable def qt (A:Around):Around:={ A with handled:=none }
theorem Env0.qt {P:Program} {w:World} {K:PySem.W.Frag} {mg:Str→Option Value} {base:Heap} {A:Around} {outer:List Env} {s:Shared} {H:Hp} (e:Env0 P w K mg base A outer s H):Env0 P w K mg base (qt A) outer s H :=
 ⟨e.frames,e.mod,e.bs,e.bsz,e.funs,e.frf,e.hok,e.bare⟩
theorem RoomU.mark {k:Nat} {A:Around} (r:RoomU k A) (v:Option Value):RoomU k (A.mark v):=⟨r.dp,r.un,r.gd⟩
theorem RoomU.deeper {k:Nat} {A:Around} (r:RoomU (k+1) A) (env:Env):RoomU k (A.deeper env) :=
 ⟨by have:=r.dp; show A.depth+1+3 * k+5 < _; omega,by have:=r.un; show A.units+3+16 * k+200 < _; omega,r.gd⟩
theorem Fun.okU {P:Program} {w:World} {K:PySem.W.Frag} {mg:Str→Option Value} {base:Heap} {x qual:Str} {st:Stmt} {f:Addr} {fd:FuncData} {N ps:List Str} {k:Nat} {sp:Sp} (F:Fun K x qual st f fd) (S:FnScope N ps (aD st)) (len:∀ vs H Q E,sp vs H Q E→vs.length=ps.length)
  (hbody:∀ (cdv:Value) (A:Around) (outer:List Env) (s:Shared) (H:Hp) (vs:List V) (Q:VK) (E:XK),RoomU k (A.deeper (envOfC qual (aD st) s.heap.objs.size f cdv))→sp vs H Q E →
   ∃ t,PSs (((jB CX0 P w K mg base N qual (aD st) f cdv (qt A) outer s H E).un (A.deeper (envOfC qual (aD st) s.heap.objs.size f cdv))).nox) (cZ st) t∧t { nx:=fun _ H'=>Q .non H',rt:=Q } (start N vs) H) :
  FnOkU P w K mg base CX0 (k+1) f fd ps sp:=by
 obtain ⟨oc,od,kV,doc,pm,an,cdv,ct,osl,rfl,lk,hcd⟩:=F.ex
 refine ⟨len,fun A outer s H args us vs Q E hr e0 hb r hsp=>?_⟩
 have hl:=len _ _ _ _ hsp
 have KX:K.In s.heap:=e0.mod.kin.keeps fun b o e=>(e0.bs b o e).1
 have lim:s.heap.NoLimit:=e0.mod.nolimit.keeps fun b o e=>(e0.bs b o e).1
 have hkind:∀ y∈ps.zip us,(aD st).names.lookup y.1=some .local∨((aD st).names.lookup y.1=some .cell∧((cellsFrom (s.heap.objs.size+1) (aD st).names []).lookup y.1).isSome=true):=fun ⟨n,v⟩ hy=>by
  rcases S.par n (List.of_mem_zip hy).1 with q | q
  ·exact .inl q
  ·exact .inr ⟨q,PySem.W.cellsFrom_some _ _ _ (.inl q)⟩
 refine codeAny_call_function (by have:=hr.dp; omega) (KX _ _ lk) rfl S.co S.gen rfl (PySem.W.codeRec_of KX hcd) (hb _ _ _ _ ?_)
 refine wpAny_newFunctionEnv_cells S.kind hkind fun env he s1 x=>?_
 subst he
 refine ⟨lim.keeps x.toInCall.keep,codeAny_func ?_⟩
 obtain ⟨t,ht,hq⟩:=hbody cdv A outer s H vs Q E (hr.deeper _) hsp
 have I:Inv (jB CX0 P w K mg base N qual (aD st) f cdv (qt A) outer s H E) [] (start N vs) H s1:=o9 S rfl e0.qt hl r x
 have J:=(I.un' (A.deeper (envOfC qual (aD st) s.heap.objs.size f cdv)) rfl).wish fun _ _=>False
 refine wpAny_mono (ht [] s1 (start N vs) H _ J hq) (fun fl s' hs=>?_) fun e s' hs=>hs.elim
 have fin:∀ {σ':St} {H':Hp} {v:V} {u:Value},Inv (((jB CX0 P w K mg base N qual (aD st) f cdv (qt A) outer s H E).un (A.deeper (envOfC qual (aD st) s.heap.objs.size f cdv))).nox) [] σ' H' s'→RelV v u→Q v H'→CE outer P w H s Q u s' :=
  fun {σ' H' v u} J rv q=>⟨v,H',J.os,J.bare,J.base,J.hok,rv,q⟩
 cases fl with
 | ret u =>
  obtain ⟨v,σ',H',J,rv,q⟩:=hs
  exact fin J rv q
 | next =>
  obtain ⟨σ',H',J,q⟩:=hs
  exact fin (v:=V.non) (u:=Value.none) J rfl q
 | brk =>
  obtain ⟨_,_,_,q⟩:=hs
  exact False.elim q
 | cont =>
  obtain ⟨_,_,_,q⟩:=hs
  exact False.elim q
section
variable {X:Cx} {k:Nat} {f:Addr} {fd:FuncData} {ps:List Str} {sp:Sp} {x:Str} {p pos:Pos} {e:Expr} {es:List Expr} {t:TA}
theorem yj (F:FnOkU X.prog X.w X.K X.mg X.base CX0 k f fd ps sp) (hr:RoomU k X.A) (hg:Gl X x) (hm:X.mg x=some (.ref f)) (hk:PySem.W.keepIn X.K (.ref f)=true) (hb:Binds X.K fd ps []) (ha:PA X (e :: es) t)
  (hdb:(x == ("__debug__" : Str))=false:=by decide) (he:starEach (e :: es) X.env=(false,eval e X.env) :: starEach es X.env:=by rfl) (hpl:(backTo pos (starEach es X.env)).any (·.1)=false:=by rfl) :
  PE X (.Call (.Name x p) (e :: es) [] pos) (qI sp [] E0 t):=by
 intro pins s σ H Q I h
 refine wpAny_Call_Name_kw (iu I hg hm ?_ hdb)
 refine PySem.W.callWith_K (h₀:=X.base) I.ok.mod.kin hk (thn (ha pos pins s σ H _ I h) fun us s1 ⟨vs,H1,I1,r,q⟩=>⟨I1.kIn,?_⟩) he hpl
 have q:sp (vs++[]) H1 Q E0:=q
 rw [List.append_nil] at q
 have hl:(us++[]).length=ps.length:=by rw [List.append_nil,← r.length]; exact F.len _ _ _ _ q
 have hbd:=hb s1 us I1.kIn hl
 rw [List.append_nil] at hbd
 refine wpAny_call (codeAny_mono (F.run X.A X.stack s1 H1 ⟨us,[]⟩ us vs Q E0 hr I1.env0 hbd r q) fun rr s' hq=>?_)
 cases rr with
 | error e=>exact (show False from hq).elim
 | ok fl =>
  cases fl with
  | ret u=>exact I1.after hq
  | next=>exact False.elim hq
  | brk=>exact False.elim hq
  | cont=>exact False.elim hq
end
noncomputable def excAt (a C:Addr) (h:Heap):Prop:=∃ o vs,h.get? a=some o∧o.cls=.ref C∧o.data=.fields vs∧o.dict=none
theorem excAt.ok {P:Program} {w:World} {H:Hp} {h:Heap} {a C:Addr} (x:excAt a C h):ObjOk P w H h a (.ext (excAt a C)) :=
 ⟨x,(let ⟨o,_,e,_⟩:=x; ⟨o,e⟩),fun h1 h2 z k=>(let ⟨o,vs,e,r⟩:=z; ⟨o,vs,k o e,r⟩)⟩
theorem HOk.tracked {P:Program} {w:World} {H:Hp} {h:Heap} {a:Addr} {o:HO} (x:HOk P w H h) (n:H a=none) (new:ObjOk P w (upd H a o) h a o):HOk P w (upd H a o) h:=fun b u e=>by
 by_cases z:b=a
 ·subst z
  rw [ak] at e
  cases e
  exact new
 ·rw [az z] at e
  exact (x b u e).stay (fun _ _ _ q=>q) (fun c q=>by rw [az (aG q n)]; exact q) fun c xs q=>by rw [az (aG q n)]; exact q
theorem Inv.track {X:Cx} {pins:List (Addr×Obj)} {σ:St} {H:Hp} {s:Shared} {a:Addr} {o:HO} (I:Inv X pins σ H s) (hx:X.ex=[]) (n:H a=none) (na:X.s₀.heap.get? a=none) (hL:a≠X.env.locals) (hc:∀ x c,X.env.cells.lookup x=some c→c≠a) (hp:∀ p∈X.pn++pins,p.1≠a) (new:ObjOk X.prog X.w (upd H a o) s.heap a o) :
  Inv X pins σ (upd H a o) s :=
 ⟨I.ok,I.os,I.bare,⟨I.base.keep,I.base.slot,fun b ob e h1 h2=>(by rw [az (fun z=>(by rw [z,na] at e; cases e))]; exact I.base.free b ob e h1 h2),I.base.there,fun b xs e=>(have q:=I.base.tups b xs e; by rw [az (aG q n)]; exact q),fun b ob u e=>(have q:=I.base.frzs b ob u e; by rw [az (aG q n)]; exact q),
  fun b ps e=>(let ⟨m,q⟩:=I.base.tbls b ps e; ⟨m,by rw [az (aG q n)]; exact q⟩)⟩,I.loc,I.cell,(by rw [az (Ne.symm hL)]; exact I.free),fun x c e=>(by rw [az (hc x c e)]; exact I.freeC x c e),
  fun p hpm=>(let ⟨e,n1,r⟩:=I.pin p hpm; ⟨e,by rw [az (hp p hpm)]; exact n1,r⟩),I.hok.tracked n new,I.len⟩
end L2

set_option Elab.async false
set_option linter.all false
set_option maxRecDepth 100000
namespace L2
open PySem PySem.Spec PyProof.Rows PySem.Calls PySem.W
theorem wj:entryFor table "BaseException.__getattribute__" = some Builtin.«object.__getattribute__» :=
 entryFor_alias (id':="object.__getattribute__") (by kernel_rfl) (by first | rfl | decide +kernel) (by decide +kernel) (by kernel_rfl)
section
variable {K:Frag} {prog:Program} {w:World} {A:Around} {E:Value→Shared→Prop} {s:Shared} {x C:Addr} {ox:Obj}
theorem yl {a g:Value} {name:Str} (hc:(clsIn K C).isSome=true) (ha:findIn K (.ref C) name=some (some a)) (hg:specialIn K a "__get__" = some (some g)) (ht:takesIn K a=some true):findObj K C none name=some (.bind g a):=by
 obtain ⟨cd,hc⟩:=Option.isSome_iff_exists.mp hc
 unfold findObj
 rw [hc,Option.bind_some,ha,Option.bind_some]
 simp [hg,ht]
theorem Dg {tk:Tok} {Q:Fin→Shared→Prop} (X:K.In s.heap) (I:InstAt s.heap x ox C none) (hf:findObj K C none "__class__" = some (.bind (.builtin "getset_descriptor.__get__") (.builtin "object.__class__"))) (hm:mroIn K C (.type "object")=some true)
  (h:Q (.done (.ret (.ref C))) s):wpAny (model prog w) A (Builtin.«object.__getattribute__» ⟨[.ref x,.str "__class__" tk],[]⟩) Q E s:=by
 obtain ⟨hh,g,d,t,os⟩:=s
 have L0:=I.type (M:=model prog w)
 have L1:=looks_find (M:=model prog w) X I hf
 unfold Builtin.«object.__getattribute__»
 repeat lk
 refine wpAny_run (class_get X I hm ?_)
 repeat lk
 exact h
theorem exc_slot:Slot "BaseException" "__getattribute__" "BaseException.__getattribute__" :=
 .of (owner:="BaseException") (n:="__getattribute__") (by rw [typeLookup_type,builtinLookup_eq_fast]; kernel_rfl) (by decide +kernel) (by decide +kernel) (by decide +kernel)
  (by first | exact .inl (by decide +kernel) | exact .inr (by decide +kernel)) (by rw [isSubtype_type]; kernel_rfl)
theorem ym:builtinKind "BaseException.__getattribute__" = some .slot:=by decide +kernel
theorem wk:splitId "BaseException.__getattribute__" = some ("BaseException","__getattribute__"):=by decide +kernel
theorem Am:∃ sig,Manifest.signature? "BaseException.__getattribute__" = sig∧∀ a b:Value,(match sig with | none=>(pure ():Sem Unit) | some g=>Bind.checkArgs "BaseException.__getattribute__" g ⟨[a,b],[]⟩)=pure ():=⟨_,rfl,fun a b=>by kernel_rfl⟩
theorem wu {Q:Unit→Shared→Prop} {b:Value} (L:Looks (model prog w) s.heap (isInstance (.ref x) (.type "BaseException")) true) (h:Q () s):wpAny (model prog w) A (checkBuiltinCall "BaseException.__getattribute__" ⟨[.ref x,b],[]⟩) Q E s:=by
 simp only [checkBuiltinCall,ym,wk]
 refine wpAny_bind (L.at ?_)
 simp only [Bool.not_true,Bool.false_eq_true,if_false]
 obtain ⟨sig,e,r⟩:=Am
 have r:=r (.ref x) b
 rw [e]
 cases sig with
 | none=>exact wpAny_pure h
 | some g =>
  show wpAny _ _ (Bind.checkArgs "BaseException.__getattribute__" g ⟨[.ref x,b],[]⟩) Q E s
  have r:Bind.checkArgs "BaseException.__getattribute__" g ⟨[.ref x,b],[]⟩=pure ():=r
  rw [r]
  exact wpAny_pure h
theorem ww {Q:Option Value→Shared→Prop} (X:K.In s.heap) (I:InstAt s.heap x ox C none) (hga:findIn K (.ref C) "__getattribute__" = some (some (.builtin "BaseException.__getattribute__"))) (hgb:findIn K (.ref C) "__getattr__" = some none)
  (hf:findObj K C none "__class__" = some (.bind (.builtin "getset_descriptor.__get__") (.builtin "object.__class__"))) (hm:mroIn K C (.type "object")=some true) (hb:mroIn K C (.type "BaseException")=some true) (h:Q (some (.ref C)) { s with toks:=s.toks+1 }) :
  wpAny (model prog w) A (getAttr? (.ref x) "__class__") Q E s:=by
 obtain ⟨hh,g,d,t,os⟩:=s
 have L0:=I.type (M:=model prog w)
 have L1:=looks_findIn (M:=model prog w) X hga
 have L2:=looks_findIn (M:=model prog w) X hgb
 have L3:=looks_mroIn (M:=model prog w) X hb
 unfold getAttr? getAttrBy? getAttrBy
 refine wpAny_bind (wpAny_mkText (wpAny_bind (wpAny_attempt (wpAny_holding (wpAny_bind (L0.at (wpAny_bind (L1.at ?_))))))))
 show wpAny _ _ (getAttrByItsOwn _ _ _ _ _ _) _ _ _
 unfold getAttrByItsOwn hookBefore
 refine wpAny_bind ?_
 rw [if_pos (show onTheHeap (.ref C)=true from rfl)]
 refine L2.at ?_
 refine wpAny_bind (wpAny_attempt (wpAny_holding ?_))
 show wpAny _ _ (boundAndCalled (.builtin "BaseException.__getattribute__") (.ref x) (.str "__class__" t)) _ _ _
 unfold boundAndCalled
 refine wpAny_bind (wpAny_of_eq (exc_slot.bind _) ?_)
 refine wpAny_call (codeAny_call_builtin exc_slot.plain wj (wu (s:=⟨hh,g,d,t+1,os⟩) (L0.andThen L3) ?_))
 refine Dg (s:=⟨hh,g,d,t+1,os⟩) X I hf hm ?_
 show wpAny _ _ (handedOut (.ref C)) _ _ _
 repeat lk
 exact h
end
structure ExcC (K:Frag) (C:Addr):Prop where
 cl:(clsIn K C).isSome=true
 ga:findIn K (.ref C) "__getattribute__" = some (some (.builtin "BaseException.__getattribute__"))
 gb:findIn K (.ref C) "__getattr__" = some none
 fc:findIn K (.ref C) "__class__" = some (some (.builtin "object.__class__"))
 sg:specialIn K (.builtin "object.__class__") "__get__" = some (some (.builtin "getset_descriptor.__get__"))
 tk:takesIn K (.builtin "object.__class__")=some true
 ob:mroIn K C (.type "object")=some true
 be:mroIn K C (.type "BaseException")=some true
theorem excAt.inst {a C:Addr} {h:Heap} (x:excAt a C h):∃ ox,InstAt h a ox C none:=by
 obtain ⟨o,vs,e,c,d,dd⟩:=x
 refine ⟨o,e,c,?_,by rw [dd]; trivial⟩
 unfold notCls
 rw [d]
theorem rK {K:Frag} {a C:Addr} (Z:ExcC K C):KitX K (.ref a) (.ref C) (excAt a C) where
 ty:=fun M h _ p=>(let ⟨_,I⟩:=p.inst; I.type)
 it:=fun M h X _=>by
  have z:=Z.cl
  unfold clsIn at z
  split at z
  ·rename_i c' d' cd' sl' ho
   intro A' Q' E' s' k q
   unfold isType loadHead
   exact wpAny_bind (wpAny_loadPart (k _ _ (X _ _ ho)) (wpAny_pure q))
  ·cases z
 ne:=fun h tp dd its n sl X e=>by
  refine Bool.eq_false_iff.mpr fun q=>?_
  have q:C=tp:=by
   have:=beq_iff_eq.mp q
   injection this
  subst q
  have z:=Z.cl
  unfold clsIn at z
  split at z
  ·rename_i c' d' cd' sl' ho
   have:=X _ _ ho
   rw [e] at this
   cases this
  ·cases z
 ca:=fun {prog w A E Q s} X p h=>by
  obtain ⟨ox,I⟩:=p.inst
  exact ww X I Z.ga Z.gb (yl Z.cl Z.fc Z.sg Z.tk) Z.ob Z.be h
theorem jj {X:Cx}:fJ X (.builtin "isinstance") (fun xs H Q=>∃ a C c b,xs=[.ref a,c]∧H a=some (.ext (excAt a C))∧ExcC X.K C∧((∃ D,c=.ref D∧kitOne X.K (.ref C) (.ref D)=some b)∨∃ n,c=.ty n∧kitOne X.K (.ref C) (.type n)=some b)∧Q (.bl b) H):=by
 intro pins s σ H xs us Q I r h
 obtain ⟨a,C,c,b,rfl,e,Z,hk,q⟩:=h
 obtain ⟨u,v,rfl,ru,rv⟩:=vals2 r
 cases (show u=Value.ref a from ru)
 obtain ⟨p,_⟩:=(show ObjOk X.prog X.w H s.heap a (.ext (excAt a C)) from I.hok a _ e)
 rcases hk with ⟨D,rfl,hk⟩ | ⟨n,rfl,hk⟩
 ·cases (show v=Value.ref D from rv)
  exact kia_one (rK Z) I.kIn p hk (fun z=>nomatch z) fun tk=>⟨.bl b,H,I.tok _,rfl,q⟩
 ·cases (show v=Value.type n from rv)
  exact kia_one (rK Z) I.kIn p hk (fun z=>nomatch z) fun tk=>⟨.bl b,H,I.tok _,rfl,q⟩
end L2

set_option Elab.async false
set_option linter.all false
set_option maxRecDepth 100000
namespace L2
open PySem PySem.Spec PyProof.Rows PySem.Calls PySem.W
section
variable {K:Frag} {prog:Program} {w:World} {A:Around} {E:Value→Shared→Prop} {s:Shared} {a C D:Addr} {ox:Obj}
structure CatchC (K:Frag) (C D:Addr):Prop where
 nt:typeIn K (.ref D)=some (.type "type")
 ty:(clsIn K D).isSome=true
 be:subIn K (.ref D) (.type "BaseException")=some true
 su:subIn K (.ref C) (.ref D)=some true
theorem wy (X:K.In s.heap) (h:(clsIn K D).isSome=true):Looks (model prog w) s.heap (isType (.ref D)) true:=by
 unfold clsIn at h
 split at h
 ·rename_i c' d' cd' sl' ho
  intro A' Q' E' s' k q
  unfold isType loadHead
  exact wpAny_bind (wpAny_loadPart (k _ _ (X _ _ ho)) (wpAny_pure q))
 ·cases h
theorem rM {Q:Bool→Shared→Prop} (X:K.In s.heap) (I:InstAt s.heap a ox C none) (Z:CatchC K C D) (h:Q true s):wpAny (model prog w) A (excMatches (.ref a) (.ref D)) Q E s:=by
 obtain ⟨hh,g,d,t,os⟩:=s
 have L0:=I.type (M:=model prog w)
 have L1:=looks_typeIn (M:=model prog w) X Z.nt
 have L2:=wy (prog:=prog) (w:=w) X Z.ty
 have L3:=looks_subIn (M:=model prog w) X Z.be
 have L4:=looks_subIn (M:=model prog w) X Z.su
 have f:=tc_notTuple
 unfold excMatches isExcClass
 repeat (first | with_reducible refine L1.at ?_ | with_reducible refine L0.at ?_ | with_reducible refine L2.at ?_ | with_reducible refine L3.at ?_ | with_reducible refine L4.at ?_ | wp_step)
 exact h
end
theorem wz {M:Model} {A:Around} {E:Value→Shared→Prop} {s:Shared} {a:Addr} {C tb:Value} {Q:Unit→Shared→Prop} (fl:Fly s.heap a C tb)
  (h:∀ h',Fly h' a C tb→(∀ b o,s.heap.get? b=some o→tb≠.ref b→h'.get? b=some o)→(∀ b o,s.heap.get? b=some o→∃ o',h'.get? b=some o')→Q () { s with heap:=h' }):wpAny M A (setFlight (.ref a) none) Q E s:=by
 obtain ⟨⟨oe,vs,he,hc,hd,h1,hdd⟩,tr⟩:=id fl
 unfold setFlight
 refine wpAny_bind (wpAny_field he hd h1 ?_)
 rcases tr with rfl | ⟨T,oT,ts,rfl,nT,hT,hdT,h3⟩
 ·rw [if_neg (by decide)]
  exact wpAny_pure (h s.heap fl (fun b o e _=>e) fun b o e=>⟨o,e⟩)
 ·rw [if_pos (show (Value.ref T != Value.none)=true by simp)]
  have z3:=(Array.getElem?_eq_some_iff.mp h3).1
  refine wpAny_setField hT hdT z3 ?_
  have g3:=Heap.get?_update_self (Obj.mapFields (·.setIfInBounds 3 ((none:Option Addr).elim Value.none fun f=>rawInt f))) hT (Obj.isFreed_of_fields (Obj.data_mapFields hdT _))
  have o3:∀ b,b≠T→(s.heap.update T (Obj.mapFields (·.setIfInBounds 3 ((none:Option Addr).elim Value.none fun f=>rawInt f)))).get? b=s.heap.get? b:=fun b hb=>Heap.get?_update_other _ _ (Ne.symm hb)
  refine h _ ⟨⟨oe,vs,(o3 a (Ne.symm nT)).trans he,hc,hd,h1,hdd⟩,.inr ⟨T,_,_,rfl,nT,g3,Obj.data_mapFields hdT _,by simp [z3]⟩⟩ (fun b o e hb=>(o3 b fun z=>hb (by rw [z])).trans e) fun b o e=>?_
  by_cases z:b=T
  ·rw [z]
   exact ⟨_,g3⟩
  ·exact ⟨o,(o3 b z).trans e⟩
noncomputable abbrev Cx.tr (X:Cx) (pins:List (Addr×Obj)) (xe:Value→Shared→Prop):Cx:={ X with pn:=X.pn++pins,xe:=xe }
theorem Inv.tr {X:Cx} {pins:List (Addr×Obj)} {σ:St} {H:Hp} {s:Shared} (I:Inv X pins σ H s) (xe:Value→Shared→Prop):Inv (X.tr pins xe) [] σ H s :=
 ⟨⟨I.ok.mod,I.ok.kind,I.ok.glob,I.ok.blt,I.ok.above,I.ok.inj,I.ok.has,I.ok.cab,I.ok.hd,I.ok.frames,I.ok.stk,I.ok.exf,I.ok.bs,I.ok.bsz,I.ok.noex,I.ok.exfs,I.ok.funs,I.ok.frf⟩,I.os,I.bare,I.base,I.loc,I.cell,I.free,I.freeC,fun p hp=>I.pin p (by simpa using hp),I.hok,I.len⟩
theorem Inv.untr {X:Cx} {pins pins':List (Addr×Obj)} {σ:St} {H:Hp} {s:Shared} {xe:Value→Shared→Prop} (I:Inv (X.tr pins xe) pins' σ H s):Inv X pins σ H s :=
 ⟨⟨I.ok.mod,I.ok.kind,I.ok.glob,I.ok.blt,I.ok.above,I.ok.inj,I.ok.has,I.ok.cab,I.ok.hd,I.ok.frames,I.ok.stk,I.ok.exf,I.ok.bs,I.ok.bsz,I.ok.noex,I.ok.exfs,I.ok.funs,I.ok.frf⟩,I.os,I.bare,I.base,I.loc,I.cell,I.free,I.freeC,fun p hp=>I.pin p (List.mem_append_left _ hp),I.hok,I.len⟩
theorem Inv.drop {X:Cx} {pins:List (Addr×Obj)} {σ:St} {H:Hp} {s:Shared} {i:Nat} {x:Str} {h':Heap} {u:Option Value} {m:Str→Option Value} (I:Inv X pins σ H s) (hN:X.N.Nodup) (hi:X.N[i]?=some x)
  (hl:∀ (i:Nat) (x:Str) (v:V),X.N[i]?=some x→σ[i]?=some (some v)→Vis X.env.scope x→∃ u,RelV v u∧Look X.env s.heap m x u) (hn:h'.Ns X.env.locals fun y=>if y=x then u else m y) (sb:Heap.SameBut X.env.locals s.heap h'):Inv X pins (σ.set i none) H { s with heap:=h' }:=by
 have nL:∀ b o,X.s₀.heap.get? b=some o→b≠X.env.locals:=fun b o e=>Nat.ne_of_lt (Nat.lt_of_lt_of_le (Heap.lt_size e) I.ok.above)
 have cK:∀ y c,X.env.cells.lookup y=some c→∀ v,s.heap.IsCell c v→h'.IsCell c v:=fun y c e v ⟨o,ho,hd⟩=>⟨o,(sb.2 c (I.cne y c e)).trans ho,hd⟩
 refine ⟨I.ok,I.os,I.bare,⟨fun b o e n hb hx=>(sb.2 b (nL b o e)).trans (I.base.keep b o e n hb hx),fun b o e n hb hx=>?_,I.base.free,fun b o e hx=>?_,I.base.tups,I.base.frzs,I.base.tbls⟩,⟨_,hn,fun j y v e1 e2 e3=>?_⟩,fun y c e=>?_,I.free,I.freeC,fun p hp=>?_,fun c o e=>?_,by rw [List.length_set]; exact I.len⟩
 ·obtain ⟨sl,e1⟩:=I.base.slot b o e n hb hx
  exact ⟨sl,(sb.2 b (nL b o e)).trans e1⟩
 ·obtain ⟨o',e1⟩:=I.base.there b o e hx
  exact ⟨o',(sb.2 b (nL b o e)).trans e1⟩
 ·by_cases z:i=j
  ·subst z
   by_cases hlt:i < σ.length
   ·rw [List.getElem?_set_self hlt] at e2
    cases e2
   ·rw [List.getElem?_eq_none (by rw [List.length_set]; omega)] at e2
    cases e2
  ·rw [List.getElem?_set_ne z] at e2
   obtain ⟨u',r,l⟩:=hl j y v e1 e2 e3
   refine ⟨u',r,?_⟩
   rcases l with ⟨k,l⟩ | ⟨k,c,e,w'⟩
   ·refine .inl ⟨k,?_⟩
    show (if y=x then u else m y)=some u'
    rw [if_neg fun q=>z ?_]
    ·exact l
    ·rw [q] at e1
     obtain ⟨h1,g1⟩:=List.getElem?_eq_some_iff.mp hi
     obtain ⟨h2,g2⟩:=List.getElem?_eq_some_iff.mp e1
     exact (List.getElem_inj hN).mp (g1.trans g2.symm)
   ·exact .inr ⟨k,c,e,cK y c e _ w'⟩
 ·obtain ⟨v,w'⟩:=I.cell y c e
  exact ⟨v,cK y c e v w'⟩
 ·obtain ⟨e,n,ne,r⟩:=I.pin p hp
  exact ⟨(sb.2 p.1 ne).trans e,n,ne,r⟩
 ·refine (I.hok c o e).stay (fun d v hd z=>(sb.2 d fun q=>?_).trans z) (fun _ z=>z) fun _ _ z=>z
  rcases hd with y | y
  ·rw [y] at q
   rw [q,I.free] at e
   cases e
  ·rw [q,I.free] at y
   cases y
theorem iC {X:Cx} {pins:List (Addr×Obj)} {σ:St} {H:Hp} {s:Shared} {i:Nat} {x:Str} {pos:Pos} {A:Around} {E:Value→Shared→Prop} {Q:Unit→Shared→Prop} (I:Inv X pins σ H s) (hN:X.N.Nodup) (hi:X.N[i]?=some x) (hx:X.env.scope.names.lookup x=some .local)
  (h:∀ s',Inv X pins (σ.set i none) H s'→Q () s'):wpAny (model X.prog X.w) A (do bindName X.env x .none; unbindBehindTheSuite X.env x pos) Q E s:=by
 have hil:i < X.N.length:=(List.getElem?_eq_some_iff.mp hi).1
 refine wpAny_bind (wpAny_bindName (jt (v:=.non) I hN hi (.inl hx) rfl (fun s1 I1 _=>?_) (.inr hx)))
 obtain ⟨m,hn,hl⟩:=id I1.loc
 obtain ⟨u,_,lk⟩:=hl i x .non hi (by rw [List.getElem?_set_self (by rw [I.len]; exact hil)]) (.inl hx)
 have hv:m x=some u:=by
  rcases lk with ⟨_,z⟩ | ⟨k,_⟩
  ·exact z
  ·have hx':X.env.kindOf x=some .local:=hx
   rw [hx'] at k
   rcases k with k | k <;> cases k
 unfold unbindBehindTheSuite
 refine wpAny_onRaise (wpAny_unbindName_local hx hn hv (by rw [I.ok.kind]; rfl) fun h' u' hn' sb=>?_)
 have J:=I1.drop hN hi hl hn' sb
 rw [List.set_set] at J
 exact h _ J
end L2

set_option Elab.async false
set_option linter.all false
set_option maxRecDepth 100000
namespace L2
open PySem PySem.Spec PyProof.Rows PySem.Calls PySem.W
theorem Inv.back {X:Cx} {A:Around} {xe:Value→Shared→Prop} {pins:List (Addr×Obj)} {σ:St} {H:Hp} {s:Shared} (I:Inv ((X.un A).wish xe) pins σ H s) (ok:X.Ok):Inv X pins σ H s :=
 ⟨ok,I.os,I.bare,I.base,I.loc,I.cell,I.free,I.freeC,I.pin,I.hok,I.len⟩
noncomputable def yo (D:Ends) (i:Nat):Ends:={ nx:=fun σ H=>D.nx (σ.set i none) H,rt:=D.rt,ct:=fun σ H=>D.ct (σ.set i none) H,bk:=fun σ H=>D.bk (σ.set i none) H }
noncomputable def G7 (n i:Nat) (ok:Addr→Prop) (tb:(Addr→Addr→Hp→Prop)→TS) (th:TS):TS:=fun D σ H =>
 tb (fun a C H'=>ok C∧∀ σ':St,σ'.length=n→H' a=none→th (yo D i) (σ'.set i (some (.ref a))) (upd H' a (.ext (excAt a C)))) D σ H
theorem Dh {X:Cx} {y n:Str} {Dc:Addr} {i:Nat} {np hpos pos:Pos} {body suite:List Stmt} {b₀:Stmt} {tb:(Addr→Addr→Hp→Prop)→TS} {th:TS} (hm:X.mg y=some (.ref Dc)) (hg:Gl X y) (hN:X.N.Nodup) (hi:X.N[i]?=some n) (hl:X.env.scope.names.lookup n=some .local) (hx:X.ex=[]) (hs:X.stack=X.env :: X.outer)
  (hbody:∀ pins xe EX,rJ (X.tr pins xe) EX→PSs (X.tr pins xe) body (tb EX)) (hsuite:∀ v:Option Value,PSs ((X.un (X.A.mark v)).nox) (b₀ :: suite) th) (hdb:(y == ("__debug__" : Str))=false:=by decide) :
  PS X (.Try body [.ExceptHandler (some (.Name y np)) (some n) (b₀ :: suite) hpos] [] [] pos) (G7 X.N.length i (fun C=>CatchC X.K C Dc) tb th):=by
 intro pins s σ H D I h
 refine wpAny_Try_except ?_
 have W:rJ (X.tr pins fun e s₁=>wpAny (model X.prog X.w) X.A (noteFrame e X.env) (fun _ s₂=>wpAny (model X.prog X.w) X.A (setFlight e none) (fun _ s₃=>wpAny (model X.prog X.w) X.A (handleBy e X.env [.ExceptHandler (some (.Name y np)) (some n) (b₀ :: suite) hpos]) (SP X pins D) X.xe s₃) X.xe s₂) X.xe s₁)
   (fun a C H'=>CatchC X.K C Dc∧∀ σ':St,σ'.length=X.N.length→H' a=none→th (yo D i) (σ'.set i (some (.ref a))) (upd H' a (.ext (excAt a C)))):=by
  intro pins' σ1 H1 s1 a C tb' I1 fl na fa ft hp q
  obtain ⟨Z,q⟩:=q
  have J:=I1.untr
  have hfr:X.A.frames=some (X.env :: X.outer):=by rw [← hs]; exact J.ok.frames
  have hst:s1.heap.FunFrames X.base (X.env :: X.outer):=by rw [← hs]; exact J.stack
  have hff:X.env.frame=some X.env.locals:=by
   rcases J.ok.stk with z | z
   ·exact absurd (congrArg List.length (hs.symm.trans z)) (by simp)
   ·exact z.2
  have hp2:∀ p∈X.pn++pins,p.1≠a∧tb'≠.ref p.1:=fun p hpm=>hp p (List.mem_append_left _ hpm)
  show wpAny (model X.prog X.w) X.A (noteFrame (.ref a) X.env) _ X.xe s1
  refine uN hfr hst hff fl fun h' T nT fl' k1 k2 k3=>?_
  have J2:Inv X pins σ1 H1 { s1 with heap:=h' }:=J.left (t':=s1.toks) hx fl na fa ft hp2 (by rw [hs]; exact k1) k2 k3
  have tf:∀ T',Value.ref T=.ref T'→X.s₀.heap.get? T'=none∧H1 T'=none:=fun T' z=>by
   cases z
   exact ⟨J.was hx nT,J.hok.no nT⟩
  have hp3:∀ p∈X.pn++pins,p.1≠a∧Value.ref T≠.ref p.1:=fun p hpm=>⟨(hp2 p hpm).1,fun z=>by
   cases z
   obtain ⟨e,_⟩:=J.pin p hpm
   rw [nT] at e
   cases e⟩
  obtain ⟨oe,vs,he,hc,hd,_,hdd⟩:=fl'.obj
  have inst:excAt a C h':=⟨oe,vs,he,hc,hd,hdd⟩
  refine wpAny_handleBy_cons (codeAny_handlers_test ?_) (by intro q; cases q)
  have J4:=J2.un' (X.A.mark (some (.ref a))) rfl
  refine iu (X:=X.un (X.A.mark (some (.ref a)))) J4 hg hm ?_ hdb
  obtain ⟨ox,ix⟩:=inst.inst
  refine rM (s:={ s1 with heap:=h' }) J2.kIn ix Z ?_
  show codeAny _ _ (.handlers (.ref a) [.ExceptHandler none (some n) (b₀ :: suite) hpos] X.env) _ _
  refine codeAny_handlers_suite_as ?_
  refine wz (s:={ s1 with heap:=h' }) fl' fun h2 fl2 j1 j2=>?_
  have J5:Inv X pins σ1 H1 { s1 with heap:=h2 }:=J2.left (t':=s1.toks) hx fl' na fa tf hp3 (fun b o e _ hb _=>j1 b o e hb) (fun b o e _ hb=>⟨o.slots,j1 b o e hb⟩) j2
  obtain ⟨oe2,vs2,he2,hc2,hd2,_,hdd2⟩:=fl2.obj
  have inst2:excAt a C h2:=⟨oe2,vs2,he2,hc2,hd2,hdd2⟩
  have hLa:a≠X.env.locals:=by
   obtain ⟨m,⟨o,es,ep,ho,hdt,_⟩,_⟩:=J5.loc
   exact Ne.symm (fl2.ne ho fun vs q=>by rw [hdt] at q; cases q).1
  have hca:∀ x c,X.env.cells.lookup x=some c→c≠a:=fun x c e=>by
   obtain ⟨v,o,ho,hdt⟩:=J5.cell x c e
   exact (fl2.ne ho fun vs q=>by rw [hdt] at q; cases q).1
  have J6:=J5.track (o:=.ext (excAt a C)) hx fa na hLa hca (fun p hpm=>(hp2 p hpm).1) (excAt.ok inst2)
  refine jt (v:=.ref a) J6 hN hi (.inl hl) rfl (fun s6 I6 _=>?_) (.inr hl)
  have hw:=q σ1 J.len fa
  refine wpAny_mono (hsuite (some (.ref a)) pins s6 _ _ (yo D i) ((I6.un' (X.A.mark (some (.ref a))) rfl).wish _) hw) (fun f s7 sp=>?_) fun e s' z=>z.elim
  show wpAny (model X.prog X.w) X.A (do bindName X.env n .none; unbindBehindTheSuite X.env n hpos) (fun _ s₃=>SP X pins D f s₃) X.xe s7
  cases f with
  | ret u =>
   obtain ⟨v,σ',H',K',rv,qq⟩:=sp
   exact iC (K'.back J.ok) hN hi hl fun s' K2=>⟨v,_,H',K2,rv,qq⟩
  | next =>
   obtain ⟨σ',H',K',qq⟩:=sp
   exact iC (K'.back J.ok) hN hi hl fun s' K2=>⟨_,H',K2,qq⟩
  | brk =>
   obtain ⟨σ',H',K',qq⟩:=sp
   exact iC (K'.back J.ok) hN hi hl fun s' K2=>⟨_,H',K2,qq⟩
  | cont =>
   obtain ⟨σ',H',K',qq⟩:=sp
   exact iC (K'.back J.ok) hN hi hl fun s' K2=>⟨_,H',K2,qq⟩
 have hb:=hbody pins _ _ W [] s σ H D (I.tr _) h
 refine wpAny_mono hb (fun f s1 sp=>?_) fun e s1 z=>z
 cases f with
 | ret u =>
  obtain ⟨v,σ',H',K',rv,qq⟩:=sp
  exact ⟨v,σ',H',K'.untr,rv,qq⟩
 | next =>
  obtain ⟨σ',H',K',qq⟩:=sp
  exact wpAny_execs_nil ⟨σ',H',K'.untr,qq⟩
 | brk =>
  obtain ⟨σ',H',K',qq⟩:=sp
  exact ⟨σ',H',K'.untr,qq⟩
 | cont =>
  obtain ⟨σ',H',K',qq⟩:=sp
  exact ⟨σ',H',K'.untr,qq⟩
end L2

set_option Elab.async false
set_option linter.all false
set_option maxRecDepth 100000
namespace L2
open PySem PySem.Spec PyProof.Rows PySem.Calls
theorem rN (a b:Bool):MeetsSeq.EqGives (.bool a) (.bool b) (a == b):=fun prog w A E s Q h=>PySem.SeqAt.EqAt.bool_bool (A:=A) (s:=s) a b prog w E Q h
noncomputable def isB (k:Bool):Value→Bool
 | .bool n=>n == k
 | _=>false
theorem rO (bs:List Bool) (k:Bool):((bs.map Value.bool).toArray.toList.countP (isB k))=bs.count k:=by
 rw [List.toList_toArray,List.countP_map]
 rfl
noncomputable def uO:V→List V→Hp→VK→Prop:=fun x vs H Q=>∃ (l:Addr) (bs:List Bool) (k:Bool),x=.ref l∧vs=[.bl k]∧H l=some (.lst (bs.map V.bl))∧Q (.int (bs.count k:Nat)) H
section
variable {X:Cx}
theorem wA:MtM X "list.count" uO:=by
 intro pins s σ H x vs v us Q I rx rv h
 obtain ⟨l,bs,k,rfl,rfl,hH,q⟩:=h
 cases rx
 obtain ⟨u,rfl,ru⟩:=vals1 rv
 cases (show u=Value.bool k from ru)
 obtain ⟨z,its,n,r,hl,e⟩:=I.lstM hH
 have ei:its=bs.map Value.bool:=gD r
 subst ei
 refine call_meets F.slot_list_count ⟨_,e,rfl⟩ F.entry_list_count (F.args_list_count_2 _ _) (MeetsSeq.list_count l (bs.map Value.bool).toArray n (.bool k) (isB k) (fun y hy=>?_)) ⟨e,?_⟩
 ·obtain ⟨b,_,rfl⟩:=List.mem_map.mp (show y∈bs.map Value.bool by simpa using hy)
  exact rN b k
 ·refine ⟨.int (bs.count k:Nat),H,I.tok _,⟨s.toks,?_⟩,q⟩
  rw [rO]
noncomputable def uP:V→List V→Hp→VK→Prop:=fun x vs H Q=>∃ (l:Addr) (bs:List Bool) (k:Bool) (j:Nat),x=.ref l∧vs=[.bl k]∧H l=some (.lst (bs.map V.bl))∧bs[j]?=some k∧(∀ i,i < j→bs[i]?≠some k)∧Q (.int j) H
theorem wB:MtM X "list.index" uP:=by
 intro pins s σ H x vs v us Q I rx rv h
 obtain ⟨l,bs,k,j,rfl,rfl,hH,hj,hno,q⟩:=h
 cases rx
 obtain ⟨u,rfl,ru⟩:=vals1 rv
 cases (show u=Value.bool k from ru)
 obtain ⟨z,its,n,r,hl,e⟩:=I.lstM hH
 have ei:its=bs.map Value.bool:=gD r
 subst ei
 rw [List.length_map] at z
 rw [sizeLine_eq] at z
 have hjl:=(List.getElem?_eq_some_iff.mp hj).1
 have gt:∀ m (hm:m < (bs.map Value.bool).toArray.size),(bs.map Value.bool).toArray[m]=Value.bool (bs[m]'(by simpa using hm)):=fun m hm=>by simp
 refine call_meets F.slot_list_index ⟨_,e,rfl⟩ F.entry_list_index (F.args_list_index_2 _ _) (MeetsSeq.list_index l (bs.map Value.bool).toArray n (.bool k) (isB k) (fun y hy=>?_) j (by simpa using hjl) (by omega) ?_ fun m hm hlt=>?_) ⟨e,⟨.int j,H,I.tok _,⟨_,rfl⟩,q⟩⟩
 ·obtain ⟨b,_,rfl⟩:=List.mem_map.mp (show y∈bs.map Value.bool by simpa using hy)
  exact rN b k
 ·rw [gt,(List.getElem?_eq_some_iff.mp hj).2]
  exact beq_self_eq_true k
 ·rw [gt]
  refine beq_false_of_ne fun c=>hno m hlt ?_
  rw [List.getElem?_eq_getElem (by simpa using hm),c]
end
end L2

set_option Elab.async false
set_option linter.all false
set_option maxRecDepth 100000
namespace L2
open PySem PySem.Spec PyProof.Rows PySem.Calls
noncomputable def er (H:Hp) (cs:List (Addr×Obj)):Hp:=fun b=>if (cs.lookup b).isSome=true then none else H b
noncomputable def fz (H:Hp) (cs:List (Addr×Obj)):Hp:=fun b=>match cs.lookup b with
 | some o=>some (.frz o (.ext fun _=>True))
 | none=>H b
section
variable {P:Program} {w:World} {H H':Hp} {h h':Heap} {cs:List (Addr×Obj)} {fs:List Addr}
theorem oN {b:Addr} {o:Obj} (e:cs.lookup b=some o):fz H cs b=some (.frz o (.ext fun _=>True)):=by unfold fz; rw [e]
theorem cH {b:Addr} (e:cs.lookup b=none):fz H cs b=H b:=by unfold fz; rw [e]
theorem jk {b:Addr} {o:Obj} (e:cs.lookup b=some o):er H cs b=none:=by unfold er; rw [e]; rfl
theorem eG {b:Addr} (e:cs.lookup b=none):er H cs b=H b:=by unfold er; rw [e]; rfl
noncomputable def Loose (H:Hp) (h:Heap) (fs:List Addr) (cs:List (Addr×Obj)):Prop:=∀ b o,cs.lookup b=some o→h.get? b=some o∧H b=none∧b ∉ fs
theorem Loose.no {b:Addr} {u:HO} (L:Loose H h fs cs) (e:H b=some u):cs.lookup b=none:=by
 cases q:cs.lookup b with
 | none=>rfl
 | some o =>
  rw [(L b o q).2.1] at e
  cases e
theorem HOk.fz (x:HOk P w H h) (L:Loose H h fs cs):HOk P w (L2.fz H cs) h:=fun b u e=>by
 cases q:cs.lookup b with
 | some o =>
  rw [oN q] at e
  cases e
  have g:=(L b o q).1
  exact ⟨g,trivial,⟨o,g⟩,fun _ _ _ _=>trivial⟩
 | none =>
  rw [cH q] at e
  exact (x b u e).stay (fun _ _ _ z=>z) (fun c z=>by rw [cH (L.no z)]; exact z) fun c xs z=>by rw [cH (L.no z)]; exact z
theorem HOk.er (x:HOk P w H' h') (fr:∀ b o,cs.lookup b=some o→H' b=some (.frz o (.ext fun _=>True))):HOk P w (L2.er H' cs) h':=fun b u e=>by
 cases q:cs.lookup b with
 | some o =>
  rw [jk q] at e
  cases e
 | none =>
  rw [eG q] at e
  have no:∀ c u,(∀ o,u≠HO.frz o (.ext fun _=>True))→H' c=some u→cs.lookup c=none:=fun c u hu z=>by
   cases q:cs.lookup c with
   | none=>rfl
   | some o =>
    rw [fr c o q] at z
    cases z
    exact absurd rfl (hu o)
  exact (x b u e).stay (fun _ _ _ z=>z) (fun c z=>by rw [eG (no c _ (fun o y=>by cases y) z)]; exact z) fun c xs z=>by rw [eG (no c _ (fun o y=>by cases y) z)]; exact z
theorem Un.held (u:Un fs [] (fz H cs) H' h h') (ok:HOk P w H' h') (L:Loose H h fs cs):Un fs [] H (er H' cs) h h'∧HOk P w (er H' cs) h'∧∀ b o,cs.lookup b=some o→h'.get? b=some o:=by
 have fr:∀ b o,cs.lookup b=some o→H' b=some (.frz o (.ext fun _=>True)):=fun b o q=>u.frzs b o _ (oN q)
 have kp:∀ b o,cs.lookup b=some o→h'.get? b=some o:=fun b o q=>(ok b _ (fr b o q)).1
 have no:∀ c v,(∀ o,v≠HO.frz o (.ext fun _=>True))→H' c=some v→cs.lookup c=none:=fun c v hv z=>by
  cases q:cs.lookup c with
  | none=>rfl
  | some o =>
   rw [fr c o q] at z
   cases z
   exact absurd rfl (hv o)
 refine ⟨⟨fun b o e n hb hx=>?_,fun b o e n hb hx=>?_,fun b o e n hx=>?_,u.there,fun b xs e=>?_,fun b o v e=>?_,fun b ps e=>?_⟩,ok.er fr,kp⟩
 ·cases q:cs.lookup b with
  | some o' =>
   have:=(L b o' q).1
   rw [e] at this
   cases this
   exact kp b o q
  | none=>exact u.keep b o e (by rw [cH q]; exact n) hb hx
 ·cases q:cs.lookup b with
  | some o'=>exact absurd hb (L b o' q).2.2
  | none=>exact u.slot b o e (by rw [cH q]; exact n) hb hx
 ·cases q:cs.lookup b with
  | some o'=>exact jk q
  | none =>
   rw [eG q]
   exact u.free b o e (by rw [cH q]; exact n) hx
 ·have z:=u.tups b xs (by rw [cH (L.no e)]; exact e)
  rw [eG (no b _ (fun o y=>by cases y) z)]
  exact z
 ·have z:=u.frzs b o v (by rw [cH (L.no e)]; exact e)
  rw [eG (L.no e)]
  exact z
 ·obtain ⟨m,z⟩:=u.tbls b ps (by rw [cH (L.no e)]; exact e)
  exact ⟨m,by rw [eG (L.no e)]; exact z⟩
theorem Un.loose {H1:Hp} (u:Un fs [] (er H cs) H1 h h') (ok:HOk P w H1 h') (ok0:HOk P w H h) (fr:∀ b o,cs.lookup b=some o→H b=some (.frz o (.ext fun _=>True))∧b ∉ fs):Un fs [] H (fz H1 cs) h h'∧HOk P w (fz H1 cs) h':=by
 have at0:∀ b o,cs.lookup b=some o→h.get? b=some o:=fun b o q=>(ok0 b _ (fr b o q).1).1
 have kp:∀ b o,cs.lookup b=some o→h'.get? b=some o:=fun b o q=>u.keep b o (at0 b o q) (jk q) (fr b o q).2 (by simp)
 have nn:∀ b o,cs.lookup b=some o→H1 b=none:=fun b o q=>u.free b o (at0 b o q) (jk q) (by simp)
 have no:∀ c v,(∀ o,v≠HO.frz o (.ext fun _=>True))→H c=some v→cs.lookup c=none:=fun c v hv z=>by
  cases q:cs.lookup c with
  | none=>rfl
  | some o =>
   rw [(fr c o q).1] at z
   cases z
   exact absurd rfl (hv o)
 refine ⟨⟨fun b o e n hb hx=>?_,fun b o e n hb hx=>?_,fun b o e n hx=>?_,u.there,fun b xs e=>?_,fun b o v e=>?_,fun b ps e=>?_⟩,ok.fz (fs:=fs) fun b o q=>⟨kp b o q,nn b o q,(fr b o q).2⟩⟩
 ·cases q:cs.lookup b with
  | some o' =>
   rw [(fr b o' q).1] at n
   cases n
  | none=>exact u.keep b o e (by rw [eG q]; exact n) hb hx
 ·cases q:cs.lookup b with
  | some o'=>exact absurd hb (fr b o' q).2
  | none=>exact u.slot b o e (by rw [eG q]; exact n) hb hx
 ·cases q:cs.lookup b with
  | some o' =>
   rw [(fr b o' q).1] at n
   cases n
  | none =>
   rw [cH q]
   exact u.free b o e (by rw [eG q]; exact n) hx
 ·have q:=no b _ (fun o y=>by cases y) e
  rw [cH q]
  exact u.tups b xs (by rw [eG q]; exact e)
 ·cases q:cs.lookup b with
  | some o' =>
   have z:=(fr b o' q).1
   rw [e] at z
   cases z
   exact oN q
  | none =>
   rw [cH q]
   exact u.frzs b o v (by rw [eG q]; exact e)
 ·have q:=no b _ (fun o y=>by cases y) e
  obtain ⟨m,z⟩:=u.tbls b ps (by rw [eG q]; exact e)
  exact ⟨m,by rw [cH q]; exact z⟩
end
end L2

set_option Elab.async false
set_option linter.all false
set_option maxRecDepth 100000
namespace L2
open PySem PySem.Spec PyProof.Rows PySem.Calls PySem.W
noncomputable def kj (fd:FuncData) (fl L:Addr):Env:=newEnv fd.scope L fd.globals fd.closure (fd.qualname++".<locals>.") (some fl) fd.code none fd.builtins
noncomputable def cxL (P:Program) (w:World) (K:Frag) (mg:Str→Option Value) (base:Heap) (N:List Str) (fd:FuncData) (fl:Addr) (A:Around) (outer:List Env) (s:Shared) (H:Hp) (E:XK):Cx where
 prog:=P
 w:=w
 K:=K
 mg:=mg
 base:=base
 A:=A.deeper (kj fd fl s.heap.objs.size)
 N:=N
 s₀:=s
 H₀:=H
 env:=kj fd fl s.heap.objs.size
 outer:=outer
 stack:=kj fd fl s.heap.objs.size :: outer
 ex:=[]
 calm:=true
 fn:=fun _=>false
 pn:=[]
 xe:=fun e s'=>wpAny (model P w) (A.deeper (kj fd fl s.heap.objs.size)) (leaving (kj fd fl s.heap.objs.size) e) (fun _ s''=>CX1 P w outer H s E e s'') (fun e' s''=>CX1 P w outer H s E e' s'') s'
structure LamAt (fd:FuncData) (body:Expr) (N:List Str):Prop where
 bd:fd.body=.expr body
 gl:fd.globals=mainGlobals
 bl:fd.builtins=builtinsNs
 kd:fd.scope.kind=.function
 co:fd.scope.isCoroutine=false
 ge:fd.scope.isGenerator=false
 fr:∀ p∈fd.scope.names,p.2≠.cell
 fl:∀ x,fd.scope.names.lookup x=some .free→∃ c,fd.closure.lookup x=some c
 nd:∀ x y c,fd.closure.lookup x=some c→fd.closure.lookup y=some c→x=y
 ba:bindArgs fd ⟨[],[]⟩=pure []
 nm:∀ x∈N,fd.scope.names.lookup x=some .free
theorem An {P:Program} {w:World} {K:Frag} {mg:Str→Option Value} {base:Heap} {N:List Str} {fd:FuncData} {fl:Addr} {A:Around} {outer:List Env} {s:Shared} {H:Hp} {E:XK} {body:Expr} {vs:List V} {h1:Heap} {tk:Nat}
  (Z:LamAt fd body N) (hd:A.handled=none) (e0:Env0 P w K mg base A outer s H) (hn:h1.Ns s.heap.objs.size fun x=>([]:List (Str×Value)).reverse.lookup x) (hk:∀ b o,s.heap.get? b=some o→h1.get? b=some o)
  (cell:∀ x c,fd.closure.lookup x=some c→H c=none∧∃ v,s.heap.IsCell c v) (val:∀ (i:Nat) (x:Str) (v:V),N[i]?=some x→vs[i]?=some v→∃ c u,fd.closure.lookup x=some c∧RelV v u∧s.heap.IsCell c (some u)) (hl:vs.length=N.length) :
  Inv (cxL P w K mg base N fd fl A outer s H E) [] (vs.map some) H { s with heap:=h1,toks:=tk }:=by
 have ck:∀ c v,s.heap.IsCell c v→h1.IsCell c v:=fun c v ⟨o,ho,z⟩=>⟨o,hk c o ho,z⟩
 refine ⟨⟨e0.mod,Z.kd,Z.gl,Z.bl,Nat.le_refl _,Z.nd,fun x hx=>?_,fun x c z=>(by cases z),fun _=>hd,Around.frames_deeper e0.frames,.inr ⟨rfl,rfl⟩,fun b z=>absurd (show b∈([]:List Addr) from z) (by simp),e0.bs,e0.bsz,fun b _ _ z=>absurd (show b∈([]:List Addr) from z) (by simp),fun b z=>absurd (show b∈([]:List Addr) from z) (by simp),e0.funs,e0.frf⟩,
  rfl,e0.bare,Un.kept hk,⟨_,hn,fun i x v e1 e2 e3=>?_⟩,fun x c e=>?_,e0.hok.fresh (Nat.le_refl _),fun x c e=>(cell x c e).1,fun p hp=>absurd (show p∈([]:List (Addr×Obj)) from hp) (by simp),e0.hok.kept hk,by rw [List.length_map]; exact hl⟩
 ·rcases hx with hx | hx
  ·exact absurd rfl (Z.fr _ (PySem.mem_of_lookup (show fd.scope.names.lookup x=some .cell from hx)))
  ·exact Z.fl x hx
 ·rw [List.getElem?_map] at e2
  cases q:vs[i]? with
  | none=>rw [q] at e2; cases e2
  | some v' =>
   rw [q] at e2
   have e2:v'=v:=by simpa using e2
   subst e2
   obtain ⟨c,u,ec,r,z⟩:=val i x v' e1 q
   exact ⟨u,r,.inr ⟨.inr (Z.nm x (List.mem_of_getElem? e1)),c,ec,ck c _ z⟩⟩
 ·obtain ⟨_,v,z⟩:=cell x c e
  exact ⟨v,ck c v z⟩
theorem yp {P:Program} {w:World} {K:Frag} {mg:Str→Option Value} {base:Heap} {N:List Str} {fd:FuncData} {fl:Addr} {A:Around} {outer:List Env} {s:Shared} {H:Hp} {E:XK} :
  rJ (cxL P w K mg base N fd fl A outer s H E) fun a C H'=>E (.ref a) (some C) H':=by
 intro pins σ H' s' a C tb I fly na fa ft _ q
 show wpAny (model P w) (A.deeper (kj fd fl s.heap.objs.size)) (leaving (kj fd fl s.heap.objs.size) (.ref a)) (fun _ s''=>CX1 P w outer H s E (.ref a) s'') (fun e' s''=>CX1 P w outer H s E e' s'') s'
 have hst:s'.heap.FunFrames base (kj fd fl s.heap.objs.size :: outer):=I.stack
 have hfr:(A.deeper (kj fd fl s.heap.objs.size)).frames=some (kj fd fl s.heap.objs.size :: outer):=I.ok.frames
 have hff:(kj fd fl s.heap.objs.size).frame=some s.heap.objs.size:=rfl
 have ub:Un (frs outer) [] H H' s.heap s'.heap:=I.base
 have na:s.heap.get? a=none:=na
 have ft:∀ T,tb=.ref T→s.heap.get? T=none∧H' T=none:=ft
 refine rH hfr hst hff fly fun h' T nT fl' k1 k2 k3=>?_
 have apart:∀ b o,s.heap.get? b=some o→b≠a∧tb≠.ref b:=fun b o e=>⟨fun z=>(by rw [z,na] at e; cases e),fun z=>(by rw [(ft b z).1] at e; cases e)⟩
 have nfr:∀ b o,s.heap.get? b=some o→b ∉ frs outer→b ∉ frs (kj fd fl s.heap.objs.size :: outer):=fun b o e hn hm=>by
  unfold frs at hm
  rw [List.filterMap_cons,hff] at hm
  rcases List.mem_cons.mp hm with z | z
  ·exact absurd (Heap.lt_size e) (by rw [z]; exact Nat.lt_irrefl _)
  ·exact hn z
 refine ⟨a,C,H',T,rfl,I.os,I.bare,⟨fun b o e n hb _=>?_,fun b o e n hb _=>?_,ub.free,fun b o e hx=>?_,ub.tups,ub.frzs,ub.tbls⟩,fun c o e=>?_,na,?_,fa,I.hok.no nT,fl',q⟩
 ·exact k1 b o (ub.keep b o e n hb (by simp)) (apart b o e).1 (apart b o e).2 (nfr b o e hb)
 ·obtain ⟨sl,e1⟩:=ub.slot b o e n hb (by simp)
  obtain ⟨sl2,e2⟩:=k2 b _ e1 (apart b o e).1 (apart b o e).2
  exact ⟨sl2,e2⟩
 ·obtain ⟨o',e1⟩:=ub.there b o e hx
  exact k3 b o' e1
 ·refine (I.hok c o e).stay (fun d v hd z=>?_) (fun _ z=>z) fun _ _ z=>z
  have hHd:∃ o',H' d=some o':=by
   rcases hd with z | z
   ·exact ⟨o,by rw [z]; exact e⟩
   ·exact ⟨_,z⟩
  obtain ⟨o',eo⟩:=hHd
  refine k1 d v z (fun y=>(by rw [y,fa] at eo; cases eo)) (fun y=>(by rw [(ft d y).2] at eo; cases eo)) fun hm=>?_
  rw [I.stkFree d hm] at eo
  cases eo
 ·exact I.was rfl nT
noncomputable abbrev NoC (cs:List (Addr×Obj)) (H:Hp):Prop:=∀ b o,cs.lookup b=some o→H b=none
theorem CX1.loose {P:Program} {w:World} {outer:List Env} {H:Hp} {s s':Shared} {E:XK} {e:Value} {cs:List (Addr×Obj)} (ok0:HOk P w H s.heap) (fr:∀ b o,cs.lookup b=some o→H b=some (.frz o (.ext fun _=>True))∧b ∉ frs outer)
  (x:CX1 P w outer (er H cs) s (fun e C H1=>NoC cs H1→E e C (fz H1 cs)) e s'):CX1 P w outer H s E e s':=by
 obtain ⟨a,C,H1,T,rfl,os,bare,un,ok,na,nT,fa,fT,fly,q⟩:=x
 obtain ⟨u,k⟩:=un.loose ok ok0 fr
 have no:∀ b,s.heap.get? b=none→cs.lookup b=none:=fun b z=>by
  cases y:cs.lookup b with
  | none=>rfl
  | some o =>
   have:=(ok0 b _ (fr b o y).1).1
   rw [z] at this
   cases this
 exact ⟨a,C,_,T,rfl,os,bare,u,k,na,nT,by rw [cH (no a na)]; exact fa,by rw [cH (no T nT)]; exact fT,fly,q fun b o z=>un.free b o (ok0 b _ (fr b o z).1).1 (jk z) (by simp)⟩
theorem Ao {P:Program} {w:World} {K:Frag} {mg:Str→Option Value} {base:Heap} {N:List Str} {fd:FuncData} {fl:Addr} {ob:Obj} {A:Around} {outer:List Env} {s:Shared} {H:Hp} {Q:VK} {E:XK} {body:Expr} {vs:List V} {cs:List (Addr×Obj)} {te:TE} {k:Nat}
  (Z:LamAt fd body N) (hr:Room k A) (e0:Env0 P w K mg base A outer s H) (hfl:s.heap.get? fl=some ob) (hdt:ob.data=.func fd) (hcd:s.heap.CodeRec fd.code fd.qualname)
  (fr:∀ b o,cs.lookup b=some o→H b=some (.frz o (.ext fun _=>True))∧b ∉ frs outer) (cell:∀ x c,fd.closure.lookup x=some c→∃ o v,cs.lookup c=some o∧o.data=.cell v)
  (val:∀ (i:Nat) (x:Str) (v:V),N[i]?=some x→vs[i]?=some v→∃ c u o,fd.closure.lookup x=some c∧RelV v u∧cs.lookup c=some o∧o.data=.cell (some u)) (hl:vs.length=N.length)
  (hte:PE (cxL P w K mg base N fd fl A outer s (er H cs) (fun e C H1=>NoC cs H1→E e C (fz H1 cs))) body te) (h:te (vs.map some) (er H cs) fun v H1=>NoC cs H1→Q v (fz H1 cs)) :
  codeAny (model P w) A (.call (.ref fl) ⟨[],[]⟩) (CR (CX1 P w) outer P w H s Q E) s:=by
 have at0:∀ b o,cs.lookup b=some o→s.heap.get? b=some o:=fun b o q=>(e0.hok b _ (fr b o q).1).1
 have er0:∀ b,H b=none→er H cs b=none:=fun b z=>by
  cases q:cs.lookup b with
  | some o=>exact jk q
  | none=>rw [eG q]; exact z
 have e1:Env0 P w K mg base A outer s (er H cs):=⟨e0.frames,e0.mod,fun b o e=>⟨(e0.bs b o e).1,er0 b (e0.bs b o e).2⟩,e0.bsz,e0.funs,fun b hb=>er0 b (e0.frf b hb),e0.hok.er fun b o q=>(fr b o q).1,e0.bare⟩
 refine kla_callFunE (by have:=hr.dp; omega) hfl hdt Z.co Z.ge Z.bd hcd ?_
 rw [Z.ba]
 refine wpAny_pure (wpAny_newFunctionEnv Z.fr (fun x hx=>absurd hx (by simp)) (fun h1 hn sb=>?_) Z.kd)
 have hk:∀ b o,s.heap.get? b=some o→h1.get? b=some o:=fun b o e=>(sb.2 b (Nat.ne_of_lt (Heap.lt_size e))).trans (Heap.get?_push_of_some _ e)
 refine ⟨(e0.mod.nolimit.keeps fun b o e=>(e0.bs b o e).1).keeps hk,?_⟩
 have I:=An (fl:=fl) (E:=fun e C H1=>NoC cs H1→E e C (fz H1 cs)) (tk:=s.toks+0) Z hr.hd e1 hn hk (fun x c e=>(let ⟨o,v,q,d⟩:=cell x c e; ⟨jk q,v,o,at0 c o q,d⟩)) (fun i x v e1 e2=>(let ⟨c,u,o,a1,a2,a3,a4⟩:=val i x v e1 e2; ⟨c,u,a1,a2,o,at0 c o a3,a4⟩)) hl
 refine kla_codeExpr (wpAny_mono (hte [] _ _ _ _ I h) (fun u s' hv=>?_) fun e s' hx=>?_)
 ·obtain ⟨v,H1,J,r,q⟩:=hv
  obtain ⟨un,k⟩:=Un.loose (fs:=frs outer) J.base J.hok e0.hok fr
  exact ⟨v,fz H1 cs,J.os,J.bare,un,k,r,q fun b o z=>Un.free (fs:=frs outer) (ex:=[]) J.base b o (at0 b o z) (jk z) (by simp)⟩
 ·exact wpAny_mono hx (fun _ s'' z=>CX1.loose e0.hok fr z) fun e' s'' z=>CX1.loose e0.hok fr z
end L2

set_option Elab.async false
set_option linter.all false
set_option maxRecDepth 100000
namespace L2
open PySem PySem.Spec PyProof.Rows PySem.Calls PySem.W
noncomputable abbrev held (o:Obj):HO:=.frz o (.ext fun _=>True)
structure LamObj (H:Hp) (fl:Addr) (fd:FuncData):Prop where
 ob:∃ o,H fl=some (held o)∧o.data=.func fd
 cd:∃ c oc vs t,fd.code=.ref c∧H c=some (held oc)∧oc.data=.fields vs∧vs[1]?=some (.str fd.qualname t)
noncomputable def Di (X:Cx) (i:Nat) (E:XK):TE:=fun σ H Q=>∃ (fl:Addr) (fd:FuncData) (body:Expr) (N:List Str) (vs:List V) (cs:List (Addr×Obj)) (te:TE),σ[i]?=some (some (.ref fl))∧LamObj H fl fd∧LamAt fd body N∧(∀ b o,cs.lookup b=some o→H b=some (held o))∧(∀ x c,fd.closure.lookup x=some c→∃ o v,cs.lookup c=some o∧o.data=.cell v) ∧
 (∀ (i:Nat) (x:Str) (v:V),N[i]?=some x→vs[i]?=some v→∃ c u o,fd.closure.lookup x=some c∧RelV v u∧cs.lookup c=some o∧o.data=.cell (some u))∧vs.length=N.length ∧
 (∀ s,PE (cxL X.prog X.w X.K X.mg X.base N fd fl X.A X.stack s (er H cs) (fun e C H1=>NoC cs H1→E e C (fz H1 cs))) body te)∧te (vs.map some) (er H cs) fun v H1=>NoC cs H1→Q v (fz H1 cs)
theorem Dj {X:Cx} {i k:Nat} {x:Str} {p pos:Pos} {E:XK} (hr:Room k X.A) (hN:X.N[i]?=some x) (hv:Vis X.env.scope x) (W:rJ X fun a C H=>E (.ref a) (some C) H) (hx:X.ex=[]) (hd:(x == ("__debug__" : Str))=false:=by decide) (hcd:(x == ("__classdict__" : Str))=false:=by decide) :
  PE X (.Call (.Name x p) [] [] pos) (Di X i E):=by
 intro pins s σ H Q I h
 obtain ⟨fl,fd,body,N,vs,cs,te,eσ,L,Z,fr,cell,val,hl,hte,q⟩:=h
 obtain ⟨o,ho,hdt⟩:=L.ob
 have hfl:s.heap.get? fl=some o:=(I.hok fl _ ho).1
 refine wpAny_Call_Name_kw (thn (tG (pos:=p) hN hv hd hcd pins s σ H (fun v H'=>v=.ref fl∧H'=H) I ⟨_,eσ,rfl,rfl⟩) fun f s1 ⟨v,H1,I1,r1,z1,z2⟩=>?_)
 subst z1 z2
 cases (show f=Value.ref fl from r1)
 have hfl:s1.heap.get? fl=some o:=(I1.hok fl _ ho).1
 refine callWith_F0 (by obtain ⟨oc,od,dt,sl⟩:=o; exact ⟨oc,od,fd,sl,by rw [hfl]; exact congrArg some (by rw [show dt=Data.func fd from hdt])⟩) ?_
 obtain ⟨c,oc,ws,t,ec,hc,hcdt,hw⟩:=L.cd
 have hcr:s1.heap.CodeRec fd.code fd.qualname:=⟨c,oc,ws,t,ec,(I1.hok c _ hc).1,hcdt,hw⟩
 refine wpAny_call (codeAny_mono (Ao (k:=k) Z hr I1.env0 hfl hdt hcr (fun b ob e=>⟨fr b ob e,fun hm=>?_⟩) cell val hl (hte s1) q) fun r s' hq=>?_)
 ·have:=I1.stkFree b hm
  rw [fr b ob e] at this
  cases this
 ·cases r with
  | error e=>exact BX W hx pins σ _ s1 e s' I1 hq
  | ok fl' =>
   cases fl' with
   | ret u=>exact I1.after hq
   | next=>exact False.elim hq
   | brk=>exact False.elim hq
   | cont=>exact False.elim hq
end L2

set_option Elab.async false
set_option linter.all false
set_option maxRecDepth 100000
namespace L2
open PySem PySem.Spec PyProof.Rows PySem.Calls PySem.W
noncomputable def yq (H:Hp) (c:Addr) (q:Str):Prop:=∃ oc vs t,H c=some (held oc)∧oc.data=.fields vs∧vs[1]?=some (.str q t)
noncomputable def TabOk (H:Hp) (P:Addr) (q:Str):Prop:=∃ ps,H P=some (.tbl ps)∧TriplesOk ps.toList∧∀ l:Pos,codeAmong l ps.toList=none∨∃ c,codeAmong l ps.toList=some (.ref c)∧yq H c q
theorem TabOk.keep {H H':Hp} {P:Addr} {q:Str} (x:TabOk H P q) (kp:∀ ps,H P=some (.tbl ps)→H' P=some (.tbl ps)) (kh:∀ b o,H b=some (held o)→H' b=some (held o)):TabOk H' P q:=by
 obtain ⟨ps,e,t,h⟩:=x
 refine ⟨ps,kp ps e,t,fun l=>?_⟩
 rcases h l with z | ⟨c,z,oc,vs,t',y,r⟩
 ·exact .inl z
 ·exact .inr ⟨c,z,oc,vs,t',kh _ _ y,r⟩
theorem TabOk.same {H H':Hp} {P:Addr} {q:Str} (x:TabOk H P q) (s:Same H H'):TabOk H' P q:=x.keep (fun _=>s _ _) fun _ _=>s _ _
theorem wC {l:Pos} {r:List Value}:∀ (a:List Value),TriplesOk a→codeAmong l (a++r)=(codeAmong l a).orElse fun _=>codeAmong l r:=fun a h=>by
 fun_induction TriplesOk a with
 | case1=>simp [codeAmong]
 | case2 x t y u z rest ih =>
  simp only [List.cons_append,codeAmong]
  split
  ·rfl
  ·exact ih h
 | case3 a h1 h2=>exact h.elim
section
variable {P:Program} {w:World} {fs:List Addr} {H:Hp} {h h':Heap} {T c fl:Addr} {ps more:Array Value} {oc ob:Obj}
theorem q8 {H:Hp} {h:Heap} {b:Addr} {o:Obj} (e:h.get? b=some o):ObjOk P w H h b (held o):=⟨e,trivial,⟨o,e⟩,fun _ _ _ _=>trivial⟩
theorem Et (hT:H T=some (.tbl ps)) (ok:HOk P w H h) (k:∀ b o,b≠T→h.get? b=some o→h'.get? b=some o) (hp:h'.get? T=some (tabObj (ps++more))) (hc:h.objs.size≤c) (hf:h.objs.size≤fl) (hcf:c≠fl) (ec:h'.get? c=some oc) (ef:h'.get? fl=some ob) :
  Un fs [] H (upd (upd (upd H T (.tbl (ps++more))) c (held oc)) fl (held ob)) h h'∧HOk P w (upd (upd (upd H T (.tbl (ps++more))) c (held oc)) fl (held ob)) h':=by
 have nc:=ok.fresh hc
 have nf:=ok.fresh hf
 have lt:∀ b u,H b=some u→b≠c∧b≠fl:=fun b u e=>⟨aG e nc,aG e nf⟩
 have at1:∀ b u,b≠T→H b=some u→upd (upd (upd H T (.tbl (ps++more))) c (held oc)) fl (held ob) b=some u:=fun b u n e=>by
  rw [az (lt b u e).2,az (lt b u e).1,az n]
  exact e
 have atT:upd (upd (upd H T (.tbl (ps++more))) c (held oc)) fl (held ob) T=some (.tbl (ps++more)):=by
  rw [az (lt T _ hT).2,az (lt T _ hT).1,ak]
 have old:∀ b o,h.get? b=some o→b≠c∧b≠fl:=fun b o e=>⟨Nat.ne_of_lt (Nat.lt_of_lt_of_le (Heap.lt_size e) hc),Nat.ne_of_lt (Nat.lt_of_lt_of_le (Heap.lt_size e) hf)⟩
 refine ⟨⟨fun b o e n _ _=>k b o (fun z=>(by rw [z,hT] at n; cases n)) e,fun b o e n _ _=>⟨o.slots,k b o (fun z=>(by rw [z,hT] at n; cases n)) e⟩,fun b o e n _=>?_,fun b o e _=>?_,fun b xs e=>at1 b _ (fun z=>(by rw [z,hT] at e; cases e)) e,fun b o u e=>at1 b _ (fun z=>(by rw [z,hT] at e; cases e)) e,fun b qs e=>?_⟩,fun b u e=>?_⟩
 ·rw [az (old b o e).2,az (old b o e).1,az fun z=>(by rw [z,hT] at n; cases n)]
  exact n
 ·by_cases z:b=T
  ·rw [z]
   exact ⟨_,hp⟩
  ·exact ⟨o,k b o z e⟩
 ·by_cases z:b=T
  ·subst z
   rw [hT] at e
   cases e
   exact ⟨more,atT⟩
  ·exact ⟨#[],by rw [Array.append_empty]; exact at1 b _ z e⟩
 ·by_cases z1:b=fl
  ·subst z1
   rw [ak] at e
   cases e
   exact q8 ef
  ·rw [az z1] at e
   by_cases z2:b=c
   ·subst z2
    rw [ak] at e
    cases e
    exact q8 ec
   ·rw [az z2] at e
    by_cases z3:b=T
    ·subst z3
     rw [ak] at e
     cases e
     exact hp
    ·rw [az z3] at e
     refine (ok b u e).stay (fun d v hd q=>k d v (fun y=>?_) q) (fun d q=>at1 d _ (fun y=>(by rw [y,hT] at q; cases q)) q) fun d xs q=>at1 d _ (fun y=>(by rw [y,hT] at q; cases q)) q
     subst y
     rcases hd with y | y
     ·exact z3 y.symm
     ·rw [hT] at y
      cases y
end
noncomputable def tMk (T:Addr) (q:Str) (params:Arguments) (body:Expr) (scope:Scope) (cl:List (Str×Addr)) (N:List Str):TE:=fun _ H Q=>TabOk H T q ∧
 ∀ fl pm cv ct H1,(∀ b o,b≠T→H b=some o→H1 b=some o)→TabOk H1 T q→H fl=none→LamObj H1 fl (kla_fn "<lambda>" q params body scope cl pm cv ct)→LamAt (kla_fn "<lambda>" q params body scope cl pm cv ct) body N→Q (.ref fl) H1
structure LamTx (X:Cx) (params:Arguments) (body:Expr) (scope:Scope) (N:List Str):Prop where
 df:defaultsOf params X.env=([],[])
 kd:scope.kind=.function
 co:scope.isCoroutine=false
 ge:scope.isGenerator=false
 fr:∀ p∈scope.names,p.2≠.cell
 fl:∀ p∈scope.names,p.2=NameKind.free→X.env.kindOf p.1=some .cell∨X.env.kindOf p.1=some .free
 ba:∀ qual cl pm cv ct,bindArgs (kla_fn "<lambda>" qual params body scope cl pm cv ct) ⟨[],[]⟩=pure []
 nm:∀ x∈N,scope.names.lookup x=some .free
theorem yr {X:Cx} {T cc:Addr} {params:Arguments} {body:Expr} {scope:Scope} {lpos:Pos} {N:List Str} (Z:LamTx X params body scope N) (hcode:X.env.code=.ref cc) (hC:CodeHd X.base cc T) (hB:X.base.BuiltinsAt X.mg T) :
  PE X (.Lambda params body scope lpos) (tMk T (X.env.qual++"<lambda>") params body scope (cu X.env.cells scope.names []) N):=by
 intro pins s σ H Q I h
 obtain ⟨⟨ps,hT,tr,am⟩,q⟩:=h
 have hs:∀ p∈scope.names,p.2=NameKind.free→(X.env.cells.lookup p.1).isSome=true:=fun p hp e=>by
  obtain ⟨c,z⟩:=I.ok.has p.1 (Z.fl p hp e)
  rw [z]
  rfl
 have lam:∀ qual pm cv ct,LamAt (kla_fn "<lambda>" qual params body scope (cu X.env.cells scope.names []) pm cv ct) body N:=fun qual pm cv ct =>
  ⟨rfl,rfl,rfl,Z.kd,Z.co,Z.ge,Z.fr,fun x hx=>jd _ _ (.inl ⟨_,PySem.mem_of_lookup hx,rfl⟩),fun x y c h1 h2=>by
   rcases gW _ _ hs h1 with z | z
   ·cases z
   ·rcases gW _ _ hs h2 with z2 | z2
    ·cases z2
    ·exact I.ok.inj x y c z z2,Z.ba _ _ _ _ _,Z.nm⟩
 have hg:=I.mod.glob.keeps I.bk
 have hP:s.heap.get? T=some (tabObj ps):=I.hok T _ hT
 have hgP:mainGlobals≠T:=fun z=>by
  obtain ⟨o,es,ep,e,_⟩:=I.mod.glob
  have:=(I.bs _ _ e).2
  rw [z,hT] at this
  cases this
 have hb:s.heap.BuiltinsAt X.mg T:=let ⟨bm,o,b1,b2,b3,b4,b5,r⟩:=hB; ⟨bm,o,b1,b2,b3,b4,I.bk _ _ b5,r⟩
 refine kla_eval Z.df ?_
 rcases am lpos with hn | ⟨c,hf,oc,vs,t,hc,hd,hv⟩
 ·refine kla_makeFunction (mg:=X.mg) (kJ hs) I.ok.glob hg hcode (hC.keeps I.bk) hP tr hn hgP hb fun c' ctv h' tk hx hge hlt hrec htb=>?_
  obtain ⟨c₂,oc,vs,t,e2,hoc,hd,hv⟩:=hrec
  cases e2
  obtain ⟨un,ok⟩:=Et (P:=X.prog) (w:=X.w) (fs:=frs X.stack) (h':=h'.push (kla_obj "<lambda>" (X.env.qual++"<lambda>") params body scope (cu X.env.cells scope.names []) ((X.mg "__name__").getD .none) c' ctv)) (fl:=h'.objs.size) hT I.hok
   (fun b o n e=>Heap.get?_push_of_some _ (hx b o n e)) (Heap.get?_push_of_some _ htb) hge (Nat.le_trans hge (Nat.le_of_lt hlt)) (Nat.ne_of_lt hlt) (Heap.get?_push_of_some _ hoc) (Heap.get?_push_size _ rfl)
  have J:=I.call (ch:=[]) (g':=s.gens) (t':=tk) (d':=s.drawn) un ok I.bare fun b z=>absurd z (by simp)
  have nc:H c'=none:=I.hok.fresh hge
  have nf:H h'.objs.size=none:=I.hok.fresh (Nat.le_trans hge (Nat.le_of_lt hlt))
  have kp:∀ b o,b≠T→H b=some o→upd (upd (upd H T (.tbl (ps++#[rawInt lpos.line,rawInt lpos.col,.ref c']))) c' (held oc)) h'.objs.size (held (kla_obj "<lambda>" (X.env.qual++"<lambda>") params body scope (cu X.env.cells scope.names []) ((X.mg "__name__").getD .none) c' ctv)) b=some o:=fun b o n e=>by
   rw [az (aG e nf),az (aG e nc),az n]
   exact e
  have cd:yq (upd (upd (upd H T (.tbl (ps++#[rawInt lpos.line,rawInt lpos.col,.ref c']))) c' (held oc)) h'.objs.size (held (kla_obj "<lambda>" (X.env.qual++"<lambda>") params body scope (cu X.env.cells scope.names []) ((X.mg "__name__").getD .none) c' ctv))) c' (X.env.qual++"<lambda>") :=
   ⟨oc,vs,t,by rw [az (Nat.ne_of_lt hlt),ak],hd,hv⟩
  refine ⟨.ref h'.objs.size,_,J,rfl,q _ ((X.mg "__name__").getD .none) (.ref c') ctv _ kp ⟨ps++#[rawInt lpos.line,rawInt lpos.col,.ref c'],?_,?_,fun l=>?_⟩ nf ⟨⟨_,ak,rfl⟩,?_⟩ (lam _ _ _ _)⟩
  ·rw [az (aG hT nf),az (aG hT nc),ak]
  ·rw [Array.toList_append]
   exact TriplesOk_snoc _ _ _ _ tr
  ·rw [Array.toList_append,wC _ tr]
   rcases am l with z | ⟨c,z,oc2,vs2,t2,y,r⟩
   ·rw [z]
    show codeAmong l [rawInt lpos.line,rawInt lpos.col,.ref c']=none∨_
    simp only [codeAmong,rawInt]
    by_cases e:((lpos.line:Int) == (l.line:Int) && (lpos.col:Int) == (l.col:Int))=true
    ·refine .inr ⟨c',?_,cd⟩
     show codeAmong l [rawInt lpos.line,rawInt lpos.col,.ref c']=some (.ref c')
     simp only [codeAmong,rawInt]
     rw [if_pos e]
    ·refine .inl ?_
     rw [if_neg e]
   ·rw [z]
    exact .inr ⟨c,rfl,oc2,vs2,t2,kp _ _ (fun w'=>by rw [w',hT] at y; cases y) y,r⟩
  ·obtain ⟨oc3,vs3,t3,a1,a2,a3⟩:=cd
   exact ⟨c',oc3,vs3,t3,rfl,a1,a2,a3⟩
 ·refine kla_makeFunctionHit (mg:=X.mg) (kJ hs) I.ok.glob hg hcode (hC.keeps I.bk) hP tr hf hb fun ctv h' tk hk hsz=>?_
  have J:=I.laid (a:=h'.objs.size) (o:=held (kla_obj "<lambda>" (X.env.qual++"<lambda>") params body scope (cu X.env.cells scope.names []) ((X.mg "__name__").getD .none) c ctv)) (h':=h'.push (kla_obj "<lambda>" (X.env.qual++"<lambda>") params body scope (cu X.env.cells scope.names []) ((X.mg "__name__").getD .none) c ctv)) (t':=tk)
   (fun b u e=>Heap.get?_push_of_some _ (hk b u e)) hsz (q8 (Heap.get?_push_size _ rfl))
  have nf:H h'.objs.size=none:=I.hok.fresh hsz
  have kp:Same H (upd H h'.objs.size (held (kla_obj "<lambda>" (X.env.qual++"<lambda>") params body scope (cu X.env.cells scope.names []) ((X.mg "__name__").getD .none) c ctv))):=fun b o e=>by
   rw [az (aG e nf)]
   exact e
  exact ⟨.ref h'.objs.size,_,J,rfl,q _ ((X.mg "__name__").getD .none) (.ref c) ctv _ (fun b o _ e=>kp b o e) (TabOk.same ⟨ps,hT,tr,am⟩ kp) nf ⟨⟨_,ak,rfl⟩,c,oc,vs,t,rfl,kp _ _ hc,hd,hv⟩ (lam _ _ _ _)⟩
structure CellsOf (cl:List (Str×Addr)) (N:List Str) (vs:List V) (H:Hp) (cs:List (Addr×Obj)):Prop where
 no:∀ b o,cs.lookup b=some o→H b=none
 cell:∀ x c,cl.lookup x=some c→∃ o v,cs.lookup c=some o∧o.data=.cell v
 val:∀ (i:Nat) (x:Str) (v:V),N[i]?=some x→vs[i]?=some v→∃ c u o,cl.lookup x=some c∧RelV v u∧cs.lookup c=some o∧o.data=.cell (some u)
theorem Eu {o:Obj} {b:Addr}:∀ {l:List (Addr×Obj)},l.lookup b=some o→(b,o)∈l
 | [],e=>by cases e
 | (a,x) :: r,e=>by
  rw [List.lookup_cons] at e
  cases z:b == a with
  | true=>rw [z] at e; cases e; rw [eq_of_beq z]; exact .head _
  | false=>rw [z] at e; exact .tail _ (Eu e)
theorem oO {h:Heap} {b:Addr} {o:Obj}:∀ {fp:List Addr},(dD fp h).lookup b=some o→b∈fp∧h.get? b=some o:=fun {fp} e=>nU (p:=(b,o)) (Eu e)
theorem j8 {h:Heap} {b:Addr} {o:Obj} (e:h.get? b=some o):∀ {fp:List Addr},b∈fp→(dD fp h).lookup b=some o
 | [],z=>absurd z (by simp)
 | a :: r,z=>by
  have un:dD (a :: r) h=match (h.get? a).map (fun o=>(a,o)) with | some p=>p :: dD r h | none=>dD r h:=by
   unfold dD
   rw [List.filterMap_cons]
   cases (h.get? a).map (fun o=>(a,o)) <;> rfl
  rw [un]
  by_cases y:b=a
  ·subst y
   rw [e]
   show List.lookup b ((b,o) :: dD r h)=_
   rw [List.lookup_cons,beq_self_eq_true]
  ·have ih:=j8 e (fp:=r) ((List.mem_cons.mp z).resolve_left y)
   cases q:h.get? a with
   | none=>exact ih
   | some o' =>
    show List.lookup b ((a,o') :: dD r h)=_
    rw [List.lookup_cons,show (b == a)=false by simpa using y]
    exact ih
theorem rP {cells:List (Str×Addr)} {q:Str×Addr}:∀ (l:List (Str×NameKind)) (acc:List (Str×Addr)),q∈cu cells l acc→q∈acc∨∃ k,(q.1,k)∈l∧k=NameKind.free∧q.2=(cells.lookup q.1).getD 0
 | [],_,h=>.inl h
 | (n,k) :: r,acc,h=>by
  have h':q∈cu cells r (if k=.free then (n,(cells.lookup n).getD 0) :: acc else acc):=h
  rcases rP r _ h' with e | ⟨k',e1,e2⟩
  ·by_cases hk:k=.free
   ·rw [if_pos hk] at e
    rcases List.mem_cons.mp e with z | z
    ·cases z
     exact .inr ⟨k,List.mem_cons_self,hk,rfl⟩
    ·exact .inl z
   ·rw [if_neg hk] at e
    exact .inl e
  ·exact .inr ⟨k',List.mem_cons_of_mem _ e1,e2⟩
noncomputable def BZ (sp:Sp) (N:List Str) (ix:List Nat) (cl:List (Str×Addr)) (te:TE):TE:=fun σ H Q=>te σ H fun v H1=>∃ vs:List V,vs.length=N.length∧(∀ (j i:Nat) (u:V),ix[j]?=some i→vs[j]?=some u→σ[i]?=some (some u)) ∧
 ∀ cs,CellsOf cl N vs H1 cs→sp [v] (fz H1 cs) (fun v H2=>Q v (er H2 cs)) E0
theorem Aq {X:Cx} {k:Nat} {f:Addr} {fd:FuncData} {y x:Str} {sp:Sp} {p pos lpos:Pos} {params:Arguments} {body:Expr} {scope:Scope} {N:List Str} {ix:List Nat} {te:TE} (F:FnOk X.prog X.w X.K X.mg X.base CX0 k f fd [y] sp) (hr:Room k X.A) (hg:Gl X x) (hm:X.mg x=some (.ref f))
  (hk:PySem.W.keepIn X.K (.ref f)=true) (hb:Binds X.K fd [y] []) (hx:X.ex=[]) (hp:∀ p∈scope.names,p.2=NameKind.free→X.env.kindOf p.1=some .cell∧X.fn p.1=true) (hN:∀ (j:Nat) (x:Str),N[j]?=some x→∃ i,ix[j]?=some i∧X.N[i]?=some x∧scope.names.lookup x=some .free)
  (ha:PE X (.Lambda params body scope lpos) te) (hdb:(x == ("__debug__" : Str))=false:=by decide) (he:starEach [.Lambda params body scope lpos] X.env=(false,eval (.Lambda params body scope lpos) X.env) :: starEach [] X.env:=by rfl) (hpl:(backTo pos (starEach [] X.env)).any (·.1)=false:=by rfl) :
  PE X (.Call (.Name x p) [.Lambda params body scope lpos] [] pos) (BZ sp N ix (cu X.env.cells scope.names []) te):=by
 intro pins s σ H Q I h
 refine wpAny_Call_Name_kw (iu I hg hm ?_ hdb)
 refine PySem.W.callWith_K (h₀:=X.base) I.ok.mod.kin hk (thn (aM ha aj he pos pins s σ H (fun vs H1=>∃ ws:List V,ws.length=N.length∧(∀ (j i:Nat) (u:V),ix[j]?=some i→ws[j]?=some u→σ[i]?=some (some u)) ∧
  ∀ cs,CellsOf (cu X.env.cells scope.names []) N ws H1 cs→sp vs (fz H1 cs) (fun v H2=>Q v (er H2 cs)) E0) I h) fun us s1 z=>?_) he hpl
 obtain ⟨vs,H1,I1,r,ws,hw,hσ,q⟩:=z
 refine ⟨I1.kIn,?_⟩
 have hs:∀ p∈scope.names,p.2=NameKind.free→(X.env.cells.lookup p.1).isSome=true:=fun p hpm e=>by
  obtain ⟨c,z⟩:=I1.ok.has p.1 (.inl (hp p hpm e).1)
  rw [z]
  rfl
 have sub:∀ x c,(cu X.env.cells scope.names []).lookup x=some c→X.env.cells.lookup x=some c:=fun x c e=>by
  rcases gW _ _ hs e with z | z
  ·cases z
  ·exact z
 have at':∀ b∈(cu X.env.cells scope.names []).map (·.2),∃ x,X.env.cells.lookup x=some b∧X.fn x=true:=fun b hb'=>by
  obtain ⟨q',hq',rfl⟩:=List.mem_map.mp hb'
  rcases rP _ _ hq' with z | ⟨k',hk',rfl,e⟩
  ·cases z
  ·obtain ⟨c,hc⟩:=Option.isSome_iff_exists.mp (hs _ hk' rfl)
   refine ⟨q'.1,?_,(hp _ hk' rfl).2⟩
   rw [e,show X.env.cells.lookup q'.1=some c from hc]
   rfl
 obtain ⟨cs,ecs⟩:∃ cs,cs=dD ((cu X.env.cells scope.names []).map (·.2)) s1.heap:=⟨_,rfl⟩
 have inn:∀ x c,(cu X.env.cells scope.names []).lookup x=some c→c∈(cu X.env.cells scope.names []).map (·.2):=fun x c e=>List.mem_map.mpr ⟨(x,c),PySem.mem_of_lookup e,rfl⟩
 have L:Loose H1 s1.heap (frs X.stack) cs:=fun b o e=>by
  rw [ecs] at e
  obtain ⟨hb',e'⟩:=oO e
  obtain ⟨x',hx',hfn⟩:=at' b hb'
  refine ⟨e',I1.freeC x' b hx',fun z=>?_⟩
  rcases List.mem_cons.mp (I1.stkSub b z) with y' | y'
  ·exact I1.cne x' b hx' y'
  ·obtain ⟨_,o',ho',_⟩:=I1.ok.funs.mem y'
   exact absurd (Nat.lt_of_lt_of_le (Heap.lt_size ho') (I1.ok.cab x' b hfn hx')) (Nat.lt_irrefl _)
 have C:CellsOf (cu X.env.cells scope.names []) N ws H1 cs:=by
  refine ⟨fun b o e=>(L b o e).2.1,fun x' c e=>?_,fun i x' v e1 e2=>?_⟩
  ·obtain ⟨v,o,ho,hd⟩:=I1.cell x' c (sub x' c e)
   exact ⟨o,v,by rw [ecs]; exact j8 ho (inn x' c e),hd⟩
  ·obtain ⟨j,e3,e4,e5⟩:=hN i x' e1
   obtain ⟨m,hn,hl⟩:=I1.loc
   have hkc:=(hp (x',.free) (PySem.mem_of_lookup e5) rfl).1
   obtain ⟨u,ru,lk⟩:=hl j x' v e4 (hσ i j v e3 e2) (.inr (.inl hkc))
   rcases lk with ⟨kl,_⟩ | ⟨_,c,ec,o,ho,hd⟩
   ·rw [hkc] at kl
    cases kl
   ·obtain ⟨c',hc'⟩:=jd (cells:=X.env.cells) (x:=x') scope.names [] (.inl ⟨_,PySem.mem_of_lookup e5,rfl⟩)
    have:=sub x' c' hc'
    rw [ec] at this
    cases this
    exact ⟨c,u,o,hc',ru,by rw [ecs]; exact j8 ho (inn x' c hc'),hd⟩
 have q:=q cs C
 have hok:=I1.hok.fz L
 have e0:Env0 X.prog X.w X.K X.mg X.base X.A X.stack s1 (fz H1 cs):=by
  have e1:=I1.env0
  refine ⟨e1.frames,e1.mod,fun b o e=>⟨(e1.bs b o e).1,?_⟩,e1.bsz,e1.funs,fun b hb'=>?_,hok,e1.bare⟩
  ·cases z:cs.lookup b with
   | none=>rw [cH z]; exact (e1.bs b o e).2
   | some o' =>
    have z':=z
    rw [ecs] at z'
    obtain ⟨x',hx',hfn⟩:=at' b (oO z').1
    exact absurd (Nat.lt_of_lt_of_le (Heap.lt_size (I1.ok.bs b o e).1) (I1.ok.cab x' b hfn hx')) (Nat.lt_irrefl _)
  ·cases z:cs.lookup b with
   | none=>rw [cH z]; exact e1.frf b hb'
   | some o'=>exact absurd hb' (L b o' z).2.2
 have hl:(us++[]).length=[y].length:=by rw [List.append_nil,← r.length]; exact F.len _ _ _ _ q
 have hbd:=hb s1 us I1.kIn hl
 rw [List.append_nil] at hbd
 refine wpAny_call (codeAny_mono (F.run X.A X.stack s1 (fz H1 cs) ⟨us,[]⟩ us vs _ E0 hr e0 hbd r q) fun rr s' hq=>?_)
 cases rr with
 | error e=>exact (show False from hq).elim
 | ok fl =>
  cases fl with
  | ret u =>
   obtain ⟨v,H2,os,bare,un,hok2,rv,qq⟩:=hq
   obtain ⟨un',ok',_⟩:=un.held hok2 L
   exact I1.after (Q:=Q) ⟨v,er H2 cs,os,bare,un',ok',rv,qq⟩
  | next=>exact False.elim hq
  | brk=>exact False.elim hq
  | cont=>exact False.elim hq
end L2

set_option Elab.async false
set_option linter.all false
set_option maxRecDepth 100000
namespace L2
open PySem PySem.Spec PyProof.Rows PySem.Calls PySem.W
noncomputable def Ca (scope sc:Scope) (NX N:List Str) (ix:List Nat):Bool :=
 decide (scope.kind=.function) && !scope.isCoroutine && !scope.isGenerator && scope.names.all (fun p=>decide (p.2≠NameKind.cell) && (decide (p.2≠NameKind.free) || decide (sc.names.lookup p.1=some NameKind.cell))) &&
 (N.zip ix).all (fun q=>decide (NX[q.2]?=some q.1) && decide (scope.names.lookup q.1=some NameKind.free)) && decide (N.length=ix.length)
theorem yt {X:Cx} {k:Nat} {f T cc:Addr} {fd:FuncData} {y x:Str} {sp:Sp} {p pos lpos:Pos} {params:Arguments} {body:Expr} {scope sc:Scope} {N NX:List Str} {ix:List Nat} (F:FnOk X.prog X.w X.K X.mg X.base CX0 k f fd [y] sp) (hr:Room k X.A) (hg:Gl X x) (hm:X.mg x=some (.ref f))
  (hk:PySem.W.keepIn X.K (.ref f)=true) (hb:Binds X.K fd [y] []) (hx:X.ex=[]) (hfn:∀ x,X.fn x=true) (hcode:X.env.code=.ref cc) (hC:CodeHd X.base cc T) (hB:X.base.BuiltinsAt X.mg T) (hsc:X.env.scope=sc) (hNX:X.N=NX)
  (hdf:defaultsOf params X.env=([],[])) (hba:∀ qual cl pm cv ct,bindArgs (kla_fn "<lambda>" qual params body scope cl pm cv ct) ⟨[],[]⟩=pure []) (ok:Ca scope sc NX N ix=true) (hdb:(x == ("__debug__" : Str))=false:=by decide)
  (he:starEach [.Lambda params body scope lpos] X.env=(false,eval (.Lambda params body scope lpos) X.env) :: starEach [] X.env:=by rfl) (hpl:(backTo pos (starEach [] X.env)).any (·.1)=false:=by rfl) :
  PE X (.Call (.Name x p) [.Lambda params body scope lpos] [] pos) (BZ sp N ix (cu X.env.cells scope.names []) (tMk T (X.env.qual++"<lambda>") params body scope (cu X.env.cells scope.names []) N)):=by
 subst hsc hNX
 unfold Ca at ok
 simp only [Bool.and_eq_true,decide_eq_true_eq,Bool.not_eq_true',List.all_eq_true,Bool.or_eq_true] at ok
 obtain ⟨⟨⟨⟨⟨kd,co⟩,ge⟩,nms⟩,zs⟩,hl⟩:=ok
 have kc:∀ p∈scope.names,p.2=NameKind.free→X.env.kindOf p.1=some .cell:=fun p hp e=>by
  rcases (nms p hp).2 with z | z
  ·exact absurd e z
  ·exact z
 have hz:∀ (j:Nat) (x:Str),N[j]?=some x→∃ i,ix[j]?=some i∧X.N[i]?=some x∧scope.names.lookup x=some .free:=fun j x e=>by
  have hj:=(List.getElem?_eq_some_iff.mp e).1
  have e2:ix[j]?=some (ix[j]'(by omega)):=List.getElem?_eq_getElem (by omega)
  have:=zs (x,ix[j]'(by omega)) (List.mem_of_getElem? (i:=j) (by rw [List.getElem?_zip_eq_some]; exact ⟨e,e2⟩))
  exact ⟨_,e2,this.1,this.2⟩
 refine Aq F hr hg hm hk hb hx (fun p hp e=>⟨kc p hp e,hfn _⟩) hz (yr ⟨hdf,kd,co,ge,fun p hp=>(nms p hp).1,fun p hp e=>.inl (kc p hp e),hba,fun x hx=>?_⟩ hcode hC hB) hdb he hpl
 obtain ⟨j,e⟩:=List.mem_iff_getElem?.mp hx
 obtain ⟨_,_,_,z⟩:=hz j x e
 exact z
theorem Fun.okC {P:Program} {w:World} {K:PySem.W.Frag} {mg:Str→Option Value} {base:Heap} {x qual:Str} {st:Stmt} {f cc:Addr} {fd:FuncData} {N ps:List Str} {k:Nat} {sp:Sp} (F:Fun K x qual st f fd) (hc:fd.code=.ref cc) (S:FnScope N ps (aD st)) (len:∀ vs H Q E,sp vs H Q E→vs.length=ps.length)
  (hbody:∀ (A:Around) (outer:List Env) (s:Shared) (H:Hp) (vs:List V) (Q:VK) (E:XK),Room k (A.deeper (envOfC qual (aD st) s.heap.objs.size f (.ref cc)))→sp vs H Q E →
   ∃ t,PSs (jB CX0 P w K mg base N qual (aD st) f (.ref cc) A outer s H E).nox (cZ st) t∧t { nx:=fun _ H'=>Q .non H',rt:=Q } (start N vs) H):FnOk P w K mg base CX0 (k+1) f fd ps sp:=by
 obtain ⟨oc,od,kV,doc,pm,an,cdv,ct,osl,rfl,lk,hcd⟩:=F.ex
 have hc:cdv=.ref cc:=hc
 subst hc
 refine xr lk hcd S len fun A outer s H vs Q E hr hsp=>?_
 obtain ⟨t,h,q⟩:=hbody A outer s H vs Q E hr hsp
 exact ⟨t,h.nox,q⟩
section
variable {S S':Addr→Prop} {H H':Hp} {cs:List (Addr×Obj)}
mutual
theorem IsTh.kp (k:∀ b o,(∀ ps,o≠HO.tbl ps)→(∀ ob u,o≠HO.frz ob u)→H b=some o→H' b=some o) (hS:∀ b o,(∀ ps,o≠HO.tbl ps)→(∀ ob u,o≠HO.frz ob u)→S b→H b=some o→S' b):∀ {v:V} {d:PyData},IsTh S H v d→IsTh S' H' v d
 | _,_,.non=>.non
 | _,_,.bl b=>.bl b
 | _,_,.int i=>.int i
 | _,_,.str x=>.str x
 | _,_,.lst s e r=>.lst (hS _ _ (fun _ z=>by cases z) (fun _ _ z=>by cases z) s e) (k _ _ (fun _ z=>by cases z) (fun _ _ z=>by cases z) e) (IsThs.kp k hS r)
 | _,_,.tup e r=>.tup (k _ _ (fun _ z=>by cases z) (fun _ _ z=>by cases z) e) (IsThs.kp k hS r)
 | _,_,.dct s e=>.dct (hS _ _ (fun _ z=>by cases z) (fun _ _ z=>by cases z) s e) (k _ _ (fun _ z=>by cases z) (fun _ _ z=>by cases z) e)
theorem IsThs.kp (k:∀ b o,(∀ ps,o≠HO.tbl ps)→(∀ ob u,o≠HO.frz ob u)→H b=some o→H' b=some o) (hS:∀ b o,(∀ ps,o≠HO.tbl ps)→(∀ ob u,o≠HO.frz ob u)→S b→H b=some o→S' b):∀ {vs:List V} {ds:List PyData},IsThs S H vs ds→IsThs S' H' vs ds
 | _,_,.nil=>.nil
 | _,_,.cons h t=>.cons (IsTh.kp k hS h) (IsThs.kp k hS t)
end
theorem IsTh.tbl {T:Addr} {q:Str} {v:V} {d:PyData} (h:IsTh S H v d) (t:TabOk H T q) (k:∀ b o,b≠T→H b=some o→H' b=some o):IsTh S H' v d :=
 h.kp (fun b o n1 _ e=>k b o (fun z=>by obtain ⟨ps,y,_⟩:=t; rw [z,y] at e; cases e; exact n1 _ rfl) e) fun _ _ _ _ s _=>s
theorem Ex (no:NoC cs H):er (fz H cs) cs=H:=by
 funext b
 cases q:cs.lookup b with
 | some o=>rw [jk q,no b o q]
 | none=>rw [eG q,cH q]
theorem Same.fz (s:Same H H'):Same (L2.fz H cs) (L2.fz H' cs):=fun b o e=>by
 cases q:cs.lookup b with
 | some u =>
  rw [oN q] at e ⊢
  exact e
 | none =>
  rw [cH q] at e ⊢
  exact s b o e
theorem kZ {H1:Hp} (s:Same (fz H cs) H1) {b:Addr} {o:HO} (n:∀ ob u,o≠HO.frz ob u) (e:H1 b=some o):er H1 cs b=some o:=by
 cases q:cs.lookup b with
 | some u =>
  rw [s b _ (oN q)] at e
  cases e
  exact absurd rfl (n _ _)
 | none=>rw [eG q]; exact e
theorem Same.er {H1:Hp} (s:Same (L2.fz H cs) H1) (no:NoC cs H):Same H (L2.er H1 cs):=fun b o e=>by
 cases q:cs.lookup b with
 | some u=>rw [no b u q] at e; cases e
 | none =>
  rw [eG q]
  exact s b o (by rw [cH q]; exact e)
end
end L2

set_option Elab.async false
set_option linter.all false
set_option maxRecDepth 100000
namespace L2
open PySem PySem.Spec PyProof.Rows PySem.W
theorem wD {P:Program} {w:World} {K:PySem.W.Frag} {mg mb:Str→Option Value} {CX:CXT} {k:Nat} {fa a c T:Addr} {fd:FuncData} {x qn:Str} {sp:Sp} {s₁:Shared} {vs:List Value} {ns:List Int}
  (KX:K.In s₁.heap) (hns:s₁.heap.Ns mainGlobals mg) (hb:s₁.heap.Ns builtinsNs mb) (hbb:∀ x:Str,x≠"__name__" → mb x=bootBuiltins x) (hlim:s₁.heap.NoLimit) (hg:s₁.gens=#[])
  (hC:CodeHd s₁.heap c T) (hT:s₁.heap.get? T=some (tabObj #[])) (hK:noTabs K=true) (bmain:∃ bm ob,mg "__builtins__" = some (.ref bm)∧bm≠builtinsNs∧s₁.heap.get? bm=some ob∧ob.cls=.type "module" ∧ ob.dict=some builtinsNs∧ob.data=.plain)
  (ha:s₁.heap.get? a=some { cls:=.type "list",data:=.seq vs.toArray }) (hi:IntsAre vs ns) (hl:ns.length≤sizeLine) (hr:Room k callerA)
  (F:∀ base:Heap,K.In base→base.Ns mainGlobals mg→CodeHd base c T→base.BuiltinsAt mg T→FnOk P w K mg base CX k fa fd [x] sp) (hbind:∀ (s:Shared) (u:Value),BindsTo s fd ⟨[u],[]⟩ [(x,u)])
  (hsp:∀ H:Hp,SqL K H a (ns.map V.int)→TabOk H T qn→sp [.ref a] H (fun v _=>v=.bl true) fun _ _ _=>False) (hCX:∀ (H:Hp) (e:Value) (s':Shared),CX [] H s₁ (fun _ _ _=>False) e s'→False) :
  codeAny (model P w) callerA (.call (.ref fa) ⟨[.ref a],[]⟩) (fun r s'=>r=.ok (.ret (.bool true))∧OldK s₁.heap s'.heap∧s'.os=s₁.os∧AllBare s'.gens) s₁:=by
 have rv:=jE hi
 have lenV:=hi.length
 have neT:a≠T:=fun z=>by
  rw [z,hT] at ha
  cases ha
 have noK:K.lookup T=none:=by
  cases e:K.lookup T with
  | none=>rfl
  | some o =>
   have h1:=KX _ _ e
   rw [hT] at h1
   cases h1
   have h2:=List.all_eq_true.mp hK _ (mem_of_lookupK e)
   exact absurd (show false=true from h2) Bool.false_ne_true
 have core:∀ H:Hp,H T=some (.tbl #[])→(∀ b,b≠T→H b=none∨∃ o xs,H b=some (.frz o (.lst xs)))→SqL K H a (ns.map V.int)→HOk P w H s₁.heap→(∀ b,H b≠none→b=a∨b=T)→(H a≠none→K.lookup a=none) →
   codeAny (model P w) callerA (.call (.ref fa) ⟨[.ref a],[]⟩) (fun r s'=>r=.ok (.ret (.bool true))∧OldK s₁.heap s'.heap∧s'.os=s₁.os∧AllBare s'.gens) s₁:=by
  intro H eT hO hS hok hA hKa
  have base_of:∀ {b:Addr} {o:Obj},s₁.heap.get? b=some o→H b=none→(lz s₁.heap H).get? b=some o:=fun e n=>wO e n
  have apart:∀ {b:Addr} {o:Obj},s₁.heap.get? b=some o→(∀ its n,o.data≠.seq its n)→o.cls≠.none→H b=none:=fun {b o} e h1 h2=>by
   cases q:H b with
   | none=>rfl
   | some u =>
    rcases hA b (by rw [q]; simp) with z | z
    ·rw [z,ha] at e
     cases e
     exact absurd rfl (h1 _ _)
    ·rw [z,hT] at e
     cases e
     exact absurd rfl h2
  have noA:∀ {b:Addr} {o:Obj} {es:Array DictEntry} {ep:Nat},s₁.heap.get? b=some o→o.data=.dict es ep→H b=none:=fun {b o es ep} e d=>by
   cases q:H b with
   | none=>rfl
   | some u =>
    rcases hA b (by rw [q]; simp) with z | z
    ·rw [z,ha] at e
     cases e
     cases d
    ·rw [z,hT] at e
     cases e
     cases d
  have nsK:∀ {b:Addr} {m:Str→Option Value},s₁.heap.Ns b m→(lz s₁.heap H).Ns b m:=fun {b m} ⟨o,es,ep,e,d,r⟩=>⟨o,es,ep,base_of e (noA e d),d,r⟩
  have hKb:K.In (lz s₁.heap H):=fun b o e=>base_of (KX b o e) (by
   cases q:H b with
   | none=>rfl
   | some u =>
    rcases hA b (by rw [q]; simp) with z | z
    ·subst z
     rw [hKa (by rw [q]; simp)] at e
     cases e
    ·rw [z,noK] at e
     cases e)
  have hM:Mod K mg (lz s₁.heap H):=⟨hKb,nsK hns,⟨mb,nsK hb,hbb⟩,let ⟨mc,h1,h2⟩:=hlim; ⟨mc,nsK h1,h2⟩⟩
  have e0:Env0 P w K mg (lz s₁.heap H) callerA [] s₁ H:=⟨rfl,hM,fun b o e=>zK e,Nat.le_of_eq (vK _ _),trivial,fun b hb=>absurd (show b∈([]:List Addr) from hb) (by simp),hok,.of_eq hg⟩
  have hCb:CodeHd (lz s₁.heap H) c T:=by
   obtain ⟨o,vs',file,tf,flags,tg,inF,text,tt,e,h1,h2,r⟩:=hC
   exact ⟨o,vs',file,tf,flags,tg,inF,text,tt,base_of e (apart e (fun its n z=>by rw [h2] at z; cases z) fun z=>by rw [h1] at z; cases z),h1,h2,r⟩
  have hBb:(lz s₁.heap H).BuiltinsAt mg T:=by
   obtain ⟨bm,ob,b1,b2,b3,b4,b5,b6⟩:=bmain
   refine ⟨bm,ob,b1,b2,fun z=>?_,fun z=>?_,base_of b3 (apart b3 (fun its n z=>by rw [b6] at z; cases z) fun z=>by rw [b4] at z; cases z),b4,b5,b6⟩
   ·obtain ⟨o,es,ep,e,d,_⟩:=hns
    rw [z,e] at b3
    cases b3
    rw [d] at b6
    cases b6
   ·rw [z,hT] at b3
    cases b3
    cases b4
  refine codeAny_mono ((F _ hKb (nsK hns) hCb hBb).run callerA [] s₁ H ⟨[.ref a],[]⟩ [.ref a] [.ref a] _ _ hr e0 (hbind s₁ (.ref a)) (.cons rfl .nil) (hsp H hS ⟨#[],eT,trivial,fun l=>.inl rfl⟩)) fun r s' h=>?_
  cases r with
  | error e=>exact (hCX H e s' h).elim
  | ok fl =>
   cases fl with
   | next=>exact False.elim h
   | brk=>exact False.elim h
   | cont=>exact False.elim h
   | ret u =>
    obtain ⟨v,H',os,bare,un,hok',r',q⟩:=h
    have q':v=.bl true:=q
    subst q'
    obtain rfl:u=Value.bool true:=r'
    have kept:∀ b o,b≠T→s₁.heap.get? b=some o→s'.heap.get? b=some o:=fun b o nb e=>by
     rcases hO b nb with z | ⟨ob,xs,z⟩
     ·exact un.keep b o e z (by intro z; exact absurd (show b∈([]:List Addr) from z) (by simp)) (by simp)
     ·have z2:=un.frzs b ob _ z
      obtain ⟨e1,_⟩:=hok b _ z
      obtain ⟨e2,_⟩:=hok' b _ z2
      rw [e] at e1
      cases e1
      exact e2
    obtain ⟨more,eT'⟩:=un.tbls T #[] eT
    have hT':s'.heap.get? T=some (tabObj (#[]++more)):=hok' T _ eT'
    refine ⟨rfl,⟨fun b o e=>?_,fun b o e=>?_⟩,os,bare⟩
    ·by_cases z:b=T
     ·subst z
      rw [hT] at e
      cases e
      exact .inr (.inl ⟨(hC.tab hT).isCodeTable,rfl,#[],more,rfl,hT'⟩)
     ·exact .inl (kept b o z e)
    ·by_cases z:b=T
     ·rw [z]
      exact ⟨_,hT'⟩
     ·exact ⟨o,kept b o z e⟩
 cases hk:K.lookup a with
 | some o =>
  have e:=KX a o hk
  rw [ha] at e
  cases e
  refine core (fun b=>if b=T then some (.tbl #[]) else none) (if_pos rfl) (fun b nb=>.inl (if_neg nb)) (.inr ⟨_,vs.toArray,_,hk,rfl,rfl,rfl,by rw [List.size_toArray,lenV]; exact hl,by simpa using rv⟩) (fun b u z=>?_) (fun b z=>?_) fun z=>absurd (if_neg neT) z
  ·by_cases hb':b=T
   ·have z':=(if_pos hb').symm.trans z
    cases z'
    subst hb'
    exact hT
   ·have z':=(if_neg hb').symm.trans z
    cases z'
  ·by_cases hb':b=T
   ·exact .inr hb'
   ·exact absurd (if_neg hb') z
 | none =>
  refine core (fun b=>if b=T then some (.tbl #[]) else if b=a then some (.frz { cls:=.type "list",data:=.seq vs.toArray } (.lst (ns.map V.int))) else none) (if_pos rfl) (fun b nb=>?_) (.inl (.inr ⟨{ cls:=.type "list",data:=.seq vs.toArray },(if_neg neT).trans (if_pos rfl)⟩)) (fun b u z=>?_) (fun b z=>?_) fun _=>hk
  ·by_cases hb':b=a
   ·exact .inr ⟨_,_,(if_neg nb).trans (if_pos hb')⟩
   ·exact .inl ((if_neg nb).trans (if_neg hb'))
  ·by_cases hb1:b=T
   ·have z':=(if_pos hb1).symm.trans z
    cases z'
    subst hb1
    exact hT
   ·by_cases hb':b=a
    ·have z':=((if_neg hb1).trans (if_pos hb')).symm.trans z
     cases z'
     subst hb'
     exact ⟨ha,by rw [List.length_map]; exact hl,vs,_,rv,ha⟩
    ·have z':=((if_neg hb1).trans (if_neg hb')).symm.trans z
     cases z'
  ·by_cases hb1:b=T
   ·exact .inr hb1
   ·by_cases hb':b=a
    ·exact .inl hb'
    ·exact absurd ((if_neg hb1).trans (if_neg hb')) z
theorem walk_ofT {l:PySem.W.OpenLaw} {n k:Nat} {q:Program} {loose:List Str} {XP:(Str→Option Value)→Heap→Prop} {YP:World→Heap→Prop} {d dr:DefRec} {K:Params→PySem.W.Frag} {CX:World→CXT} {sp:World→Sp} {x nm qn:Str} {c T:Addr}
  (hn:l.most=some n) (hn2:n≤sizeLine) (hdf:d.params.defaults=[]) (hr:Room k callerA)
  (hY:∀ (w:World) (h:Heap),YP w h→(K w.params).In h)
  (hfd:(recsOf q).find? (fun e=>e.name == nm)=some dr) (htb:∀ p:Params,tabIn (K p) nm=some (c,T)) (hnt:∀ p:Params,noTabs (K p)=true)
  (F:∀ (w:World) (mg:Str→Option Value) (fa:Addr) (h:Heap),(K w.params).In h→h.Ns mainGlobals mg→mg d.name=some (.ref fa) →
   ∃ fd:FuncData,(∀ (s:Shared) (u:Value),BindsTo s fd ⟨[u],[]⟩ [(x,u)]) ∧
    ∀ base:Heap,(K w.params).In base→base.Ns mainGlobals mg→CodeHd base c T→base.BuiltinsAt mg T→FnOk l.prog w (K w.params) mg base (CX w) k fa fd [x] (sp w))
  (hsp:∀ (w:World) (H:Hp) (a:Addr) (ns:List Int),ns.length≤n→SqL (K w.params) H a (ns.map V.int)→TabOk H T qn→sp w [.ref a] H (fun v _=>v=.bl true) fun _ _ _=>False)
  (hCX:∀ (w:World) (H:Hp) (s:Shared) (e:Value) (s':Shared),CX w [] H s (fun _ _ _=>False) e s'→False) :
  PySem.W.WalkO q loose XP YP l.row.toRowW d [] (fun f vs=>PySem.call f vs):=by
 refine Att.attach_call hn hdf fun w s₀ s₁ mg mb fa o pm cd doc a vs ns G Y ho hd hcd hmg hobj hints hlen hg=>?_
 have KX:=hY w _ Y
 obtain ⟨fd,hb,hF⟩:=F w mg fa _ KX G.T.g hmg
 obtain ⟨hC,hT⟩:=tab_of G.T KX hfd (htb w.params)
 exact wD KX G.T.g G.T.b G.T.builtins G.T.nolimit hg hC hT (hnt w.params) G.T.bmain hobj hints (Nat.le_trans hlen hn2) hr hF hb (fun H hS hTb=>hsp w H a ns hlen hS hTb) fun H e s'=>hCX w H s₁ e s'
end L2

set_option Elab.async false
set_option linter.all false
set_option maxRecDepth 100000
namespace K04
open PySem L2
noncomputable def top (i:Nat):Stmt:=PySem.Challenge.pw_woolyears_k04_holdings_told.main.body.getD i (.Pass ⟨0,0,0,0⟩)
noncomputable def bc (d:PyData):Bool:=jG d && !jg d
noncomputable def items:PyData→List PyData
 | .tuple ds=>ds
 | _=>[]
noncomputable def intOf:PyData→Int
 | .int i=>i
 | _=>0
noncomputable def bR (d:PyData) (f m:Int):Bool:=bL d && (decide (f≤(items d).length) && decide (((items d).length:Int)≤m))
noncomputable def bJ (d:PyData) (n:Int):Bool:=bR d n n && (items d).all bc
noncomputable def jl (d:PyData):Bool:=bJ d 3 && (items d).all fun x=>decide (0≤intOf x) && decide (intOf x≤999)
noncomputable def gJ (d:PyData):Bool:=bR d 1 20 && (items d).all jl
noncomputable def at_ (d:PyData) (i:Nat):Int:=intOf ((items d).getD i .none)
noncomputable def mj (a b c d e f:Int):Bool :=
 (decide (0≤a) && decide (a < 8)) && ((decide (0≤b) && decide (b < 3)) && ((decide (0≤c) && (decide (c≤d) && decide (d≤19))) && ((decide (1≤e) && decide (e≤99)) && (decide (0≤f) && decide (f≤1000000)))))
noncomputable def gP (d:PyData):Bool:=bJ d 6 && mj (at_ d 0) (at_ d 1) (at_ d 2) (at_ d 3) (at_ d 4) (at_ d 5)
noncomputable def dU (d:PyData):Bool:=bR d 0 10 && (items d).all gP
theorem nd1 (x:Str):([x]:List Str).Nodup:=by simp
theorem Dk (d:PyData):1≤sz d:=by cases d <;> simp [sz]
theorem lg:∀ (ds:List PyData),ds.length≤szs ds
 | []=>Nat.zero_le _
 | d :: ds=>by
  have:=lg ds
  have:=Dk d
  simp only [List.length_cons,szs]
  omega
theorem q9:∀ {ds:List PyData} {d:PyData},d∈ds→sz d≤szs ds
 | x :: ds,d,h=>by
  simp only [szs]
  rcases List.mem_cons.mp h with e | e
  ·rw [e]; omega
  ·have:=q9 e
   omega
theorem eX {ds:List PyData} {d:PyData} (h:d∈ds) (hz:sz (.tuple ds)≤4000):sz d≤4000:=by
 have:=q9 h
 simp only [sz] at hz
 omega
theorem cN {S:Addr→Prop} {H:Hp} {xs:List V} {ds:List PyData} (r:IsThs S H xs ds) (hz:sz (.tuple ds)≤4000):xs.length < sizeLine:=by
 have:=lg ds
 have:=r.length
 simp only [sz] at hz
 rw [sizeLine_eq]
 omega
noncomputable def spT (f:PyData→Bool):Sp:=fun vs H Q _=>∃ S v d,vs=[v]∧IsTh S H v d∧sz d≤4000∧∀ H',Same H H'→Q (.bl (f d)) H'
noncomputable def Ar (f:PyData→Int→Bool):Sp:=fun vs H Q _=>∃ S v d n,vs=[v,.int n]∧IsTh S H v d∧sz d≤4000∧∀ H',Same H H'→Q (.bl (f d n)) H'
noncomputable def km (f:PyData→Int→Int→Bool):Sp:=fun vs H Q _=>∃ S v d n m,vs=[v,.int n,.int m]∧IsTh S H v d∧sz d≤4000∧∀ H',Same H H'→Q (.bl (f d n m)) H'
structure Mg (mg:Str→Option Value):Prop where
 isinstance:mg "isinstance" = none
 int:mg "int" = none
 bool:mg "bool" = none
 tuple:mg "tuple" = none
 len:mg "len" = none
 all:mg "all" = none
theorem boot_int:bootBuiltins "int" = some (.type "int"):=by decide +kernel
theorem boot_bool:bootBuiltins "bool" = some (.type "bool"):=by decide +kernel
theorem boot_tuple:bootBuiltins "tuple" = some (.type "tuple"):=by decide +kernel
theorem boot_isinstance:bootBuiltins "isinstance" = some (.builtin "isinstance"):=by decide +kernel
theorem boot_all:bootBuiltins "all" = some (.builtin "all"):=by decide +kernel
theorem c7 {K:PySem.W.Frag} {S:Addr→Prop} {te:TE} {src:List (Option Nat)} {i j:Nat} {σ:St} {H:Hp} {Q:VK} {a:Addr} {xs:List V} {ds:List PyData} (f:PyData→Bool) (hσ:σ[i]?=some (some (.ref a))) (ea:H a=some (.tup xs)) (r:IsThs S H xs ds) (hl:xs.length < sizeLine)
  (hte:∀ v d H1 Q1,d∈ds→Same H H1→IsTh S H1 v d→(∀ H',Same H1 H'→Q1 (.bl (f d)) H')→te ((capσ σ src).set j (some v)) H1 Q1) (q:∀ H',Same H H'→Q (.bl (ds.all f)) H') :
  tCB (fun xs H Q=>∃ (p:Addr) (bs:List Bool),xs=[.ref p]∧SqL K H p (bs.map V.bl)∧Q (.bl (bs.all id)) H) (dG (BP (Eb K (vL i)) src (gq j) xH te) lD) σ H Q:=by
 refine ⟨_,hσ,a,rfl,⟨xs,SqT.of ea⟩,rB (j:=j) f ea r hl hte fun H2 s2 D hD=>⟨D,ds.map f,rfl,?_,?_⟩⟩
 ·rw [← xP]
  exact SqL.of ak
 ·rw [CV]
  exact q _ (s2.updR hD)
structure Nums (mg:Str→Option Value):Prop where
 sorts:∃ t,mg "SORTS" = some (.int 3 t)
 holders:∃ t,mg "HOLDERS" = some (.int 8 t)
 year:∃ t,mg "LAST_YEAR" = some (.int 19 t)
 clips:∃ t,mg "MOST_CLIPS" = some (.int 20 t)
 proms:∃ t,mg "MOST_PROMISES" = some (.int 10 t)
 wool:∃ t,mg "MOST_WOOL" = some (.int 999 t)
 sacks:∃ t,mg "MOST_SACKS" = some (.int 99 t)
 price:∃ t,mg "MOST_PRICE" = some (.int 1000000 t)
theorem jN {d:PyData} {n:Int} (h:bJ d n=true):bR d n n=true∧∀ x∈items d,bc x=true:=by
 unfold bJ at h
 rw [Bool.and_eq_true] at h
 exact ⟨h.1,List.all_eq_true.mp h.2⟩
theorem fB {S:Addr→Prop} {H:Hp} {v:V} {d:PyData} (h:IsTh S H v d) (e:bc d=true):∃ i,v=.int i∧d=.int i:=by
 cases h with
 | int i=>exact ⟨i,rfl,rfl⟩
 | _=>cases e
theorem jm {α:Type} {n:Nat} {l:List α} (h:l.length=n+1):∃ a t,l=a :: t∧t.length=n:=by
 cases l with
 | nil=>cases h
 | cons a t=>exact ⟨a,t,rfl,Nat.succ.inj h⟩
theorem Ey {α:Type} {l:List α} (h:l.length=5):∃ a b c d e,l=[a,b,c,d,e]:=by
 obtain ⟨a,l1,e1,h1⟩:=jm h
 obtain ⟨b,l2,e2,h2⟩:=jm h1
 obtain ⟨c,l3,e3,h3⟩:=jm h2
 obtain ⟨d,l4,e4,h4⟩:=jm h3
 obtain ⟨e,l5,e5,h5⟩:=jm h4
 exact ⟨a,b,c,d,e,by rw [e1,e2,e3,e4,e5,List.length_eq_zero_iff.mp h5]⟩
theorem Dl {α:Type} {l:List α} (h:l.length=6):∃ a b c d e f,l=[a,b,c,d,e,f]:=by
 obtain ⟨a,l1,e1,h1⟩:=jm h
 obtain ⟨b,c,d,e,f,e2⟩:=Ey h1
 exact ⟨a,b,c,d,e,f,by rw [e1,e2]⟩
theorem gA {S:Addr→Prop} {H:Hp} {xs:List V} {d:PyData} {ds:List PyData} (r:IsThs S H xs (d :: ds)) (e:bc d=true):∃ i t,xs=.int i :: t∧d=.int i∧IsThs S H t ds:=by
 cases r with
 | cons h1 r =>
  obtain ⟨i,rfl,rfl⟩:=fB h1 e
  exact ⟨i,_,rfl,rfl,r⟩
theorem mq {S:Addr→Prop} {H:Hp} {xs:List V} {d:PyData} {ds:List PyData} (r:IsThs S H xs (d :: ds)):∃ v t,xs=v :: t∧IsTh S H v d∧IsThs S H t ds:=by
 cases r with
 | cons h1 r=>exact ⟨_,_,rfl,h1,r⟩
theorem iD {S:Addr→Prop} {H:Hp} {xs:List V} {ds:List PyData} (r:IsThs S H xs ds) (hl:ds.length=3):∃ v0 v1 v2 d0 d1 d2,xs=[v0,v1,v2]∧ds=[d0,d1,d2]∧IsTh S H v0 d0∧IsTh S H v1 d1∧IsTh S H v2 d2:=by
 obtain ⟨d0,l1,e1,h1⟩:=jm hl
 obtain ⟨d1,l2,e2,h2⟩:=jm h1
 obtain ⟨d2,l3,e3,h3⟩:=jm h2
 have e:ds=[d0,d1,d2]:=by rw [e1,e2,e3,List.length_eq_zero_iff.mp h3]
 subst e
 obtain ⟨v0,t0,f0,i0,r0⟩:=mq r
 obtain ⟨v1,t1,f1,i1,r1⟩:=mq r0
 obtain ⟨v2,t2,f2,i2,r2⟩:=mq r1
 cases r2
 exact ⟨v0,v1,v2,d0,d1,d2,by rw [f0,f1,f2],rfl,i0,i1,i2⟩
theorem rQ {S:Addr→Prop} {H:Hp} {xs:List V} {ds:List PyData} (r:IsThs S H xs ds) (hl:ds.length=6) (hw:∀ x∈ds,bc x=true) :
  ∃ i1 i2 i3 i4 i5 i6:Int,xs=[.int i1,.int i2,.int i3,.int i4,.int i5,.int i6]∧ds=[.int i1,.int i2,.int i3,.int i4,.int i5,.int i6]:=by
 obtain ⟨d1,d2,d3,d4,d5,d6,rfl⟩:=Dl hl
 obtain ⟨i1,t1,e1,rfl,r1⟩:=gA r (hw _ (by simp))
 obtain ⟨i2,t2,e2,rfl,r2⟩:=gA r1 (hw _ (by simp))
 obtain ⟨i3,t3,e3,rfl,r3⟩:=gA r2 (hw _ (by simp))
 obtain ⟨i4,t4,e4,rfl,r4⟩:=gA r3 (hw _ (by simp))
 obtain ⟨i5,t5,e5,rfl,r5⟩:=gA r4 (hw _ (by simp))
 obtain ⟨i6,t6,e6,rfl,r6⟩:=gA r5 (hw _ (by simp))
 cases r6
 exact ⟨i1,i2,i3,i4,i5,i6,by rw [e1,e2,e3,e4,e5,e6],rfl⟩
theorem wF {ds:List PyData} {n m:Int} (h:bR (.tuple ds) n m=true):n≤(ds.length:Int)∧(ds.length:Int)≤m:=by
 have h:(true && (decide (n≤(ds.length:Int)) && decide ((ds.length:Int)≤m)))=true:=h
 rw [Bool.true_and,Bool.and_eq_true] at h
 exact ⟨of_decide_eq_true h.1,of_decide_eq_true h.2⟩
noncomputable def Cal (P:Program) (w:World) (K:PySem.W.Frag) (mg:Str→Option Value) (base:Heap) (k:Nat) (x:Str) (ps:List Str) (sp:Sp):Prop :=
 ∃ f fd,FnOk P w K mg base CX0 k f fd ps sp∧mg x=some (.ref f)∧PySem.W.keepIn K (.ref f)=true∧Binds K fd ps []
theorem aH {X:Cx} {k j:Nat} {x:Str} {ps:List Str} {sp:Sp} {p pos:Pos} {e:Expr} {es:List Expr} {t:TA} (c:Cal X.prog X.w X.K X.mg X.base j x ps sp) (hr:Room k X.A) (hjk:j≤k) (hg:Gl X x) (ha:PA X (e :: es) t)
  (hdb:(x == ("__debug__" : Str))=false:=by decide) (he:starEach (e :: es) X.env=(false,eval e X.env) :: starEach es X.env:=by rfl) (hpl:(backTo pos (starEach es X.env)).any (·.1)=false:=by rfl) :
  PE X (.Call (.Name x p) (e :: es) [] pos) (qI sp [] E0 t):=by
 obtain ⟨f,fd,F,hm,hk,hb⟩:=c
 exact uC F (hr.mono hjk) hg hm hk hb .nil El ha hdb he hpl
section
variable {P:Program} {w:World} {K:PySem.W.Frag} {mg:Str→Option Value} {base:Heap}
theorem sc1:FnScope ["thing"] ["thing"] (aD (top 20)):=⟨rfl,rfl,rfl,by decide +kernel,rfl,by decide +kernel,by decide +kernel⟩
theorem rR {f:Addr} {fd:FuncData} (F:Fun K "is_whole" "is_whole" (top 20) f fd) (T:Mg mg):FnOk P w K mg base CX0 1 f fd ["thing"] (spT bc):=by
 refine F.ok sc1 (fun vs H Q E h=>?_) (fun cdv A outer s H vs Q E hr h=>?_)
 ·obtain ⟨S,v,d,rfl,_⟩:=h
  rfl
 ·obtain ⟨S,v,d,rfl,th,hz,q⟩:=h
  refine ⟨_,aB (aN (bU (aJ bu rfl T.isinstance boot_isinstance (aM (pv 0) (aM (cB rfl T.int boot_int (v:=.ty "int") rfl) aj)))
   (dB (wR (aJ bu rfl T.isinstance boot_isinstance (aM (pv 0) (aM (cB rfl T.bool boot_bool (v:=.ty "bool") rfl) aj))))))),?_⟩
  refine ⟨_,rfl,v,_,"int",jG d,rfl,th.ty,uH d,_,rfl,?_⟩
  have fin:=q H (Same.refl H)
  unfold bc at fin
  cases e:jG d with
  | false =>
   rw [e] at fin
   exact bf fin
  | true =>
   rw [e] at fin
   exact aY ⟨_,rfl,v,_,"bool",jg d,rfl,th.ty,qX d,_,rfl,fin⟩
theorem sc2:FnScope ["thing","fewest","most"] ["thing","fewest","most"] (aD (top 22)):=⟨rfl,rfl,rfl,by decide +kernel,rfl,by decide +kernel,by decide +kernel⟩
theorem mz {f:Addr} {fd:FuncData} (F:Fun K "is_tuple_of" "is_tuple_of" (top 22) f fd) (T:Mg mg):FnOk P w K mg base CX0 1 f fd ["thing","fewest","most"] (km bR):=by
 refine F.ok sc2 (fun vs H Q E h=>?_) (fun cdv A outer s H vs Q E hr h=>?_)
 ·obtain ⟨S,v,d,n,m,rfl,_⟩:=h
  rfl
 ·obtain ⟨S,v,d,n,m,rfl,th,hz,q⟩:=h
  refine ⟨_,aB (aN (bU (aJ bu rfl T.isinstance boot_isinstance (aM (pv 0) (aM (cB rfl T.tuple boot_tuple (v:=.ty "tuple") rfl) aj)))
   (dB (cC bH bH (pv 1) (aJ aQ rfl T.len PySem.boot_len (aM (pv 0) aj)) (pv 2))))),?_⟩
  refine ⟨_,rfl,v,_,"tuple",bL d,rfl,th.ty,dY d,_,rfl,?_⟩
  have fin:=q H (Same.refl H)
  unfold bR at fin
  cases e:bL d with
  | false =>
   rw [e] at fin
   exact bf fin
  | true =>
   rw [e] at fin
   refine aY ?_
   cases th with
   | @tup a xs ds ea r =>
    have hl:=r.length
    refine ⟨_,rfl,_,rfl,a,xs,rfl,.inr (SqT.of ea),_,_,rfl,rfl,_,rfl,?_⟩
    rw [hl]
    have fin:Q (.bl (true && (decide (n≤(ds.length:Int)) && decide ((ds.length:Int)≤m)))) H:=fin
    cases e1:decide (n≤(ds.length:Int)) with
    | false =>
     rw [e1] at fin
     exact bf fin
    | true =>
     rw [e1] at fin
     exact aY ⟨_,rfl,_,_,rfl,rfl,fin⟩
   | _=>cases e
theorem sc3:FnScope ["thing","many"] ["thing","many"] (aD (top 23)):=⟨rfl,rfl,rfl,by decide +kernel,rfl,by decide +kernel,by decide +kernel⟩
theorem nH {f:Addr} {fd:FuncData} (F:Fun K "are_wholes" "are_wholes" (top 23) f fd) (T:Mg mg) (c1:Cal P w K mg base 1 "is_whole" ["thing"] (spT bc)) (c2:Cal P w K mg base 1 "is_tuple_of" ["thing","fewest","most"] (km bR)) :
  FnOk P w K mg base CX0 2 f fd ["thing","many"] (Ar bJ):=by
 refine F.ok sc3 (fun vs H Q E h=>?_) (fun cdv A outer s H vs Q E hr h=>?_)
 ·obtain ⟨S,v,d,n,rfl,_⟩:=h
  rfl
 ·obtain ⟨S,v,d,n,rfl,th,hz,q⟩:=h
  refine ⟨_,aB (aN (bU (aH c2 hr (Nat.le_refl _) rfl (aM (pv 0) (aM (pv 1) (aM (pv 1) aj))))
   (dB (aJ (cD rfl) rfl T.all boot_all (aM (cM ["part"] [none] rfl (fH (pv 0))
    (fun C fp pins s₂ H₂=>⟨aC (i:=0) (nd1 _) rfl (Or.inl rfl),cJ,aH c1 hr (Nat.le_refl _) rfl (aM (pv 0) aj)⟩) (fun C=>trivial) ⟨rfl,rfl,rfl,rfl⟩) aj))))),?_⟩
  refine ⟨_,rfl,_,rfl,_,rfl,S,v,d,n,n,rfl,th,hz,fun H1 s1=>⟨_,rfl,?_⟩⟩
  have th1:=th.same s1
  cases e:bR d n n with
  | false =>
   refine bf ?_
   have fin:=q H1 s1
   unfold bJ at fin
   rw [e] at fin
   exact fin
  | true =>
   refine aY ?_
   cases th1 with
   | @tup a xs ds ea r =>
    have ew:bJ (.tuple ds) n=ds.all bc:=by unfold bJ; rw [e]; rfl
    refine c7 bc rfl ea r (cN r hz) (fun v d H2 Q2 hm s2 t2 q2=>⟨_,rfl,S,v,d,rfl,t2,eX hm hz,q2⟩) fun H2 s2=>?_
    rw [← ew]
    exact q _ (s1.trans s2)
   | _=>cases e
theorem G8:FnScope ["thing"] ["thing"] (aD (top 34)):=⟨rfl,rfl,rfl,by decide +kernel,rfl,by decide +kernel,by decide +kernel⟩
theorem uc {f:Addr} {fd:FuncData} (F:Fun K "is_clip" "is_clip" (top 34) f fd) (T:Mg mg) (N:Nums mg) (c1:Cal P w K mg base 2 "are_wholes" ["thing","many"] (Ar bJ)) :
  FnOk P w K mg base CX0 3 f fd ["thing"] (spT jl):=by
 refine F.ok G8 (fun vs H Q E h=>?_) (fun cdv A outer s H vs Q E hr h=>?_)
 ·obtain ⟨S,v,d,rfl,_⟩:=h
  rfl
 ·obtain ⟨S,v,d,rfl,th,hz,q⟩:=h
  obtain ⟨t3,e3⟩:=N.sorts
  obtain ⟨t9,e9⟩:=N.wool
  refine ⟨_,aB (aN (bU (aH c1 hr (Nat.le_refl _) rfl (aM (pv 0) (aM (cj (v:=.int 3) rfl e3 ⟨_,rfl⟩) aj)))
   (dB (aJ (cD rfl) rfl T.all boot_all (aM (cM ["sacks"] [none] rfl (fH (pv 0))
    (fun C fp pins s₂ H₂=>⟨aC (i:=0) (nd1 _) rfl (Or.inl rfl),cJ,cC bH bH ao (pv 0) (cj (v:=.int 999) rfl e9 ⟨_,rfl⟩)⟩) (fun C=>trivial) ⟨rfl,rfl,rfl,rfl⟩) aj))))),?_⟩
  refine ⟨_,rfl,S,v,d,3,rfl,th,hz,fun H1 s1=>⟨_,rfl,?_⟩⟩
  have th1:=th.same s1
  have fin:=fun H' (s:Same H H')=>q H' s
  unfold jl at fin
  cases e:bJ d 3 with
  | false =>
   rw [e] at fin
   exact bf (fin _ s1)
  | true =>
   rw [e] at fin
   refine aY ?_
   obtain ⟨e1,e2⟩:=jN e
   cases th1 with
   | @tup a xs ds ea r =>
    refine c7 (fun x=>decide (0≤intOf x) && decide (intOf x≤999)) rfl ea r (cN r hz) (fun v d H2 Q2 hm s2 t2 q2=>?_) fun H2 s2=>fin _ (s1.trans s2)
    obtain ⟨i,rfl,rfl⟩:=fB t2 (e2 d hm)
    refine ⟨_,rfl,_,_,rfl,rfl,_,rfl,?_⟩
    have q3:=q2 H2 (Same.refl _)
    show if decide ((0:Int)≤i)=true then _ else _
    cases e5:decide ((0:Int)≤i) with
    | false =>
     refine bf ?_
     have q3:Q2 (.bl (decide ((0:Int)≤i) && decide (i≤999))) H2:=q3
     rw [e5] at q3
     exact q3
    | true =>
     refine aY ⟨_,_,rfl,rfl,?_⟩
     have q3:Q2 (.bl (decide ((0:Int)≤i) && decide (i≤999))) H2:=q3
     rw [e5] at q3
     exact q3
   | _=>cases e1
theorem G9:FnScope ["thing"] ["thing"] (aD (top 35)):=⟨rfl,rfl,rfl,by decide +kernel,rfl,by decide +kernel,by decide +kernel⟩
theorem qb {f:Addr} {fd:FuncData} (F:Fun K "are_clips" "are_clips" (top 35) f fd) (T:Mg mg) (N:Nums mg) (c1:Cal P w K mg base 3 "is_clip" ["thing"] (spT jl)) (c2:Cal P w K mg base 1 "is_tuple_of" ["thing","fewest","most"] (km bR)) :
  FnOk P w K mg base CX0 4 f fd ["thing"] (spT gJ):=by
 refine F.ok G9 (fun vs H Q E h=>?_) (fun cdv A outer s H vs Q E hr h=>?_)
 ·obtain ⟨S,v,d,rfl,_⟩:=h
  rfl
 ·obtain ⟨S,v,d,rfl,th,hz,q⟩:=h
  obtain ⟨t3,e3⟩:=N.clips
  refine ⟨_,aB (aN (bU (aH c2 hr (by decide) rfl (aM (pv 0) (aM ao (aM (cj (v:=.int 20) rfl e3 ⟨_,rfl⟩) aj))))
   (dB (aJ (cD rfl) rfl T.all boot_all (aM (cM ["part"] [none] rfl (fH (pv 0))
    (fun C fp pins s₂ H₂=>⟨aC (i:=0) (nd1 _) rfl (Or.inl rfl),cJ,aH c1 hr (by decide) rfl (aM (pv 0) aj)⟩) (fun C=>trivial) ⟨rfl,rfl,rfl,rfl⟩) aj))))),?_⟩
  refine ⟨_,rfl,S,v,d,1,20,rfl,th,hz,fun H1 s1=>⟨_,rfl,?_⟩⟩
  have th1:=th.same s1
  have fin:=fun H' (s:Same H H')=>q H' s
  unfold gJ at fin
  cases e:bR d 1 20 with
  | false =>
   rw [e] at fin
   exact bf (fin _ s1)
  | true =>
   rw [e] at fin
   refine aY ?_
   cases th1 with
   | @tup a xs ds ea r=>exact c7 jl rfl ea r (cN r hz) (fun v d H2 Q2 hm s2 t2 q2=>⟨_,rfl,S,v,d,rfl,t2,eX hm hz,q2⟩) fun H2 s2=>fin _ (s1.trans s2)
   | _=>cases e
theorem sc15:FnScope ["thing","holder","sort","first","last","sacks","price"] ["thing"] (aD (top 36)):=⟨rfl,rfl,rfl,by decide +kernel,rfl,by decide +kernel,by decide +kernel⟩
theorem nJ {f:Addr} {fd:FuncData} (F:Fun K "is_promise" "is_promise" (top 36) f fd) (T:Mg mg) (N:Nums mg) (c1:Cal P w K mg base 2 "are_wholes" ["thing","many"] (Ar bJ)) :
  FnOk P w K mg base CX0 3 f fd ["thing"] (spT gP):=by
 refine F.ok sc15 (fun vs H Q E h=>?_) (fun cdv A outer s H vs Q E hr h=>?_)
 ·obtain ⟨S,v,d,rfl,_⟩:=h
  rfl
 ·obtain ⟨S,v,d,rfl,th,hz,q⟩:=h
  obtain ⟨t1,e1⟩:=N.holders
  obtain ⟨t2,e2⟩:=N.sorts
  obtain ⟨t3,e3⟩:=N.year
  obtain ⟨t4,e4⟩:=N.sacks
  obtain ⟨t5,e5⟩:=N.price
  refine ⟨_,aA (bF (bA (bG (aH c1 hr (Nat.le_refl _) rfl (aM (pv 0) (aM ao aj))))) (aB (aN dw)) aV)
   (aA (dC (pv 0) (cR rfl (aF (aC (i:=1) sc15.nd rfl (Or.inl rfl)) (aF (aC (i:=2) sc15.nd rfl (Or.inl rfl)) (aF (aC (i:=3) sc15.nd rfl (Or.inl rfl))
    (aF (aC (i:=4) sc15.nd rfl (Or.inl rfl)) (aF (aC (i:=5) sc15.nd rfl (Or.inl rfl)) (aF (aC (i:=6) sc15.nd rfl (Or.inl rfl)) bV))))))))
   (aB (aN (bU (cC bH lB ao (pv 1) (cj (v:=.int 8) rfl e1 ⟨_,rfl⟩)) (bU (cC bH lB ao (pv 2) (cj (v:=.int 3) rfl e2 ⟨_,rfl⟩))
    (bU (vX bH bH bH ao (pv 3) (pv 4) (cj (v:=.int 19) rfl e3 ⟨_,rfl⟩)) (bU (cC bH bH ao (pv 5) (cj (v:=.int 99) rfl e4 ⟨_,rfl⟩))
     (dB (cC bH bH ao (pv 6) (cj (v:=.int 1000000) rfl e5 ⟨_,rfl⟩)))))))))),?_⟩
  refine ⟨_,rfl,S,v,d,6,rfl,th,hz,fun H1 s1=>⟨_,rfl,?_⟩⟩
  have th1:=th.same s1
  have fin:=fun H' (s:Same H H')=>q H' s
  unfold gP at fin
  cases e:bJ d 6 with
  | false =>
   rw [e] at fin
   exact aY (fin _ s1)
  | true =>
   rw [e] at fin
   refine bf ?_
   obtain ⟨z1,z2⟩:=jN e
   cases th1 with
   | @tup a xs ds ea r =>
    have hl:ds.length=6:=by
     have:=wF z1
     omega
    obtain ⟨i1,i2,i3,i4,i5,i6,rfl,rfl⟩:=rQ r hl z2
    refine ⟨_,rfl,a,_,rfl,SqT.of ea,rfl,_,_,rfl,_,_,rfl,_,_,rfl,_,_,rfl,_,_,rfl,_,_,rfl,rfl,?_⟩
    refine gH (bK dq (cU rfl) dq) (fun _=>gH (bK dq (cU rfl) dq) fun _=>gH (vY dq (cU rfl) (cU rfl) dq) fun _=>gH (bK dq (cU rfl) dq) fun _=>bK dq (cU rfl) dq) _ ?_
    exact fin H1 s1
   | _=>cases z1
theorem Ga:FnScope ["thing"] ["thing"] (aD (top 37)):=⟨rfl,rfl,rfl,by decide +kernel,rfl,by decide +kernel,by decide +kernel⟩
theorem kE {f:Addr} {fd:FuncData} (F:Fun K "are_promises" "are_promises" (top 37) f fd) (T:Mg mg) (N:Nums mg) (c1:Cal P w K mg base 3 "is_promise" ["thing"] (spT gP)) (c2:Cal P w K mg base 1 "is_tuple_of" ["thing","fewest","most"] (km bR)) :
  FnOk P w K mg base CX0 4 f fd ["thing"] (spT dU):=by
 refine F.ok Ga (fun vs H Q E h=>?_) (fun cdv A outer s H vs Q E hr h=>?_)
 ·obtain ⟨S,v,d,rfl,_⟩:=h
  rfl
 ·obtain ⟨S,v,d,rfl,th,hz,q⟩:=h
  obtain ⟨t3,e3⟩:=N.proms
  refine ⟨_,aB (aN (bU (aH c2 hr (by decide) rfl (aM (pv 0) (aM ao (aM (cj (v:=.int 10) rfl e3 ⟨_,rfl⟩) aj))))
   (dB (aJ (cD rfl) rfl T.all boot_all (aM (cM ["part"] [none] rfl (fH (pv 0))
    (fun C fp pins s₂ H₂=>⟨aC (i:=0) (nd1 _) rfl (Or.inl rfl),cJ,aH c1 hr (by decide) rfl (aM (pv 0) aj)⟩) (fun C=>trivial) ⟨rfl,rfl,rfl,rfl⟩) aj))))),?_⟩
  refine ⟨_,rfl,S,v,d,0,10,rfl,th,hz,fun H1 s1=>⟨_,rfl,?_⟩⟩
  have th1:=th.same s1
  have fin:=fun H' (s:Same H H')=>q H' s
  unfold dU at fin
  cases e:bR d 0 10 with
  | false =>
   rw [e] at fin
   exact bf (fin _ s1)
  | true =>
   rw [e] at fin
   refine aY ?_
   cases th1 with
   | @tup a xs ds ea r=>exact c7 gP rfl ea r (cN r hz) (fun v d H2 Q2 hm s2 t2 q2=>⟨_,rfl,S,v,d,rfl,t2,eX hm hz,q2⟩) fun H2 s2=>fin _ (s1.trans s2)
   | _=>cases e
end
end K04

set_option Elab.async false
set_option linter.all false
set_option maxRecDepth 100000
set_option maxHeartbeats 400000
namespace K04
open PySem L2
noncomputable def cX (d:PyData) (lo hi:Int):Bool:=bc d && (decide (lo≤intOf d) && decide (intOf d≤hi))
noncomputable def gm (d:PyData):Bool:=bL d && (decide ((items d).length=3) && (items d).all fun x=>cX x 0 999)
noncomputable def fV (d:PyData):Bool:=bL d && ((decide (1≤(items d).length) && decide ((items d).length≤20)) && (items d).all gm)
noncomputable def bounds:List PyData:=[.tuple [.int 0,.int 7],.tuple [.int 0,.int 2],.tuple [.int 0,.int 19],.tuple [.int 0,.int 19],.tuple [.int 1,.int 99],.tuple [.int 0,.int 1000000]]
noncomputable def qd (d e:PyData):Bool:=cX d (at_ e 0) (at_ e 1)
noncomputable def gn (d:PyData):Bool:=bL d && (decide ((items d).length=6) && ((List.zipWith qd (items d) bounds).all id && decide (at_ d 2≤at_ d 3)))
noncomputable def fW (d:PyData):Bool:=bL d && (decide ((items d).length≤10) && (items d).all gn)
theorem Dm {S:Addr→Prop} {H:Hp} {z:V} {lo hi:Int} (h:IsTh S H z (.tuple [.int lo,.int hi])):∃ t,z=.ref t∧H t=some (.tup [.int lo,.int hi]):=by
 cases h with
 | @tup a xs ds e r =>
  cases r with
  | cons h1 r=>cases r with
   | cons h2 r =>
    cases r
    cases h1
    cases h2
    exact ⟨a,rfl,e⟩
theorem wG {e:PyData} (h:e∈bounds):∃ lo hi,e=.tuple [.int lo,.int hi]:=by
 simp only [bounds,List.mem_cons,List.not_mem_nil,or_false] at h
 rcases h with z | z | z | z | z | z <;> exact ⟨_,_,z⟩
section
variable {P:Program} {w:World} {K:PySem.W.Frag} {mg:Str→Option Value} {base:Heap}
theorem Gb:FnScope ["_law_thing"] ["_law_thing"] (aD (top 61)):=⟨rfl,rfl,rfl,by decide +kernel,rfl,by decide +kernel,by decide +kernel⟩
theorem wH {f:Addr} {fd:FuncData} (F:Fun K "_law_whole" "_law_whole" (top 61) f fd) (T:Mg mg):FnOk P w K mg base CX0 1 f fd ["_law_thing"] (spT bc):=by
 refine F.ok Gb (fun vs H Q E h=>?_) (fun cdv A outer s H vs Q E hr h=>?_)
 ·obtain ⟨S,v,d,rfl,_⟩:=h
  rfl
 ·obtain ⟨S,v,d,rfl,th,hz,q⟩:=h
  refine ⟨_,aB (aN (bU (aJ bu rfl T.isinstance boot_isinstance (aM (pv 0) (aM (cB rfl T.int boot_int (v:=.ty "int") rfl) aj)))
   (dB (wR (aJ bu rfl T.isinstance boot_isinstance (aM (pv 0) (aM (cB rfl T.bool boot_bool (v:=.ty "bool") rfl) aj))))))),?_⟩
  exact gH (b:=jG d) (c:=!jg d) (fun Q h=>⟨_,rfl,v,_,"int",jG d,rfl,th.ty,uH d,h⟩) (fun _ Q h=>⟨_,rfl,v,_,"bool",jg d,rfl,th.ty,qX d,_,rfl,h⟩) _ (q H (Same.refl H))
theorem Gd:FnScope ["_law_thing","_law_low","_law_high"] ["_law_thing","_law_low","_law_high"] (aD (top 62)):=⟨rfl,rfl,rfl,by decide +kernel,rfl,by decide +kernel,by decide +kernel⟩
theorem rT {f:Addr} {fd:FuncData} (F:Fun K "_law_between" "_law_between" (top 62) f fd) (c1:Cal P w K mg base 1 "_law_whole" ["_law_thing"] (spT bc)):FnOk P w K mg base CX0 2 f fd ["_law_thing","_law_low","_law_high"] (km cX):=by
 refine F.ok Gd (fun vs H Q E h=>?_) (fun cdv A outer s H vs Q E hr h=>?_)
 ·obtain ⟨S,v,d,n,m,rfl,_⟩:=h
  rfl
 ·obtain ⟨S,v,d,n,m,rfl,th,hz,q⟩:=h
  refine ⟨_,aB (aN (bU (aH c1 hr (Nat.le_refl _) rfl (aM (pv 0) aj)) (dB (cC bH bH (pv 1) (pv 0) (pv 2))))),?_⟩
  refine ⟨_,rfl,S,v,d,rfl,th,hz,fun H1 s1=>⟨_,rfl,?_⟩⟩
  have fin:=q H1 s1
  unfold cX at fin
  cases e:bc d with
  | false =>
   rw [e] at fin
   exact bf fin
  | true =>
   rw [e] at fin
   obtain ⟨i,rfl,rfl⟩:=fB th e
   exact aY (bK (cU rfl) (cU rfl) (cU rfl) _ fin)
theorem Ge:FnScope ["_law_thing"] ["_law_thing"] (aD (top 63)):=⟨rfl,rfl,rfl,by decide +kernel,rfl,by decide +kernel,by decide +kernel⟩
theorem rW {f:Addr} {fd:FuncData} (F:Fun K "_law_is_clip" "_law_is_clip" (top 63) f fd) (T:Mg mg) (c1:Cal P w K mg base 2 "_law_between" ["_law_thing","_law_low","_law_high"] (km cX)) :
  FnOk P w K mg base CX0 3 f fd ["_law_thing"] (spT gm):=by
 refine F.ok Ge (fun vs H Q E h=>?_) (fun cdv A outer s H vs Q E hr h=>?_)
 ·obtain ⟨S,v,d,rfl,_⟩:=h
  rfl
 ·obtain ⟨S,v,d,rfl,th,hz,q⟩:=h
  refine ⟨_,aA (bF (PW.pt (eV (bA (bG (aJ bu rfl T.isinstance boot_isinstance (aM (pv 0) (aM (cB rfl T.tuple boot_tuple (v:=.ty "tuple") rfl) aj)))))
    (eO (bD nW (aJ aQ rfl T.len PySem.boot_len (aM (pv 0) aj)) ao (bj _))))) (aB (aN dw)) aV)
   (aB (aN (aJ (cD rfl) rfl T.all boot_all (aM (cM ["_law_one"] [none] rfl (fH (pv 0))
    (fun C fp pins s₂ H₂=>⟨aC (i:=0) (nd1 _) rfl (Or.inl rfl),cJ,aH c1 hr (by decide) rfl (aM (pv 0) (aM ao (aM ao aj)))⟩) (fun C=>trivial) ⟨rfl,rfl,rfl,rfl⟩) aj)))),?_⟩
  have fin:=fun H' (s:Same H H')=>q H' s
  unfold gm at fin
  refine ⟨_,rfl,v,_,"tuple",bL d,rfl,th.ty,dY d,_,rfl,?_⟩
  cases e:bL d with
  | false =>
   rw [e] at fin
   exact aY (aY (fin H (Same.refl H)))
  | true =>
   rw [e] at fin
   refine bf ?_
   cases th with
   | @tup a xs ds ea r =>
    have hl:=r.length
    refine ⟨_,rfl,a,xs,rfl,.inr (SqT.of ea),rfl,_,rfl,?_⟩
    have fin:∀ H',Same H H'→Q (.bl (true && (decide (ds.length=3) && ds.all fun x=>cX x 0 999))) H':=fin
    by_cases e3:ds.length=3
    ·refine xG (by rw [hl,e3] <;> rfl) ?_
     rw [decide_eq_true e3] at fin
     exact c7 (fun x=>cX x 0 999) rfl ea r (cN r hz) (fun v d H2 Q2 hm s2 t2 q2=>⟨_,rfl,S,v,d,0,999,rfl,t2,eX hm hz,q2⟩) fin
    ·rw [decide_eq_false e3] at fin
     have ne:¬ (V.int (xs.length:Int)=V.int 3):=fun z=>by
      injection z with z
      omega
     rw [decide_eq_false ne]
     exact aY (fin H (Same.refl H))
   | _=>cases e
theorem Gf:FnScope ["_law_thing"] ["_law_thing"] (aD (top 64)):=⟨rfl,rfl,rfl,by decide +kernel,rfl,by decide +kernel,by decide +kernel⟩
theorem nM {f:Addr} {fd:FuncData} (F:Fun K "_law_are_clips" "_law_are_clips" (top 64) f fd) (T:Mg mg) (c1:Cal P w K mg base 3 "_law_is_clip" ["_law_thing"] (spT gm)) :
  FnOk P w K mg base CX0 4 f fd ["_law_thing"] (spT fV):=by
 refine F.ok Gf (fun vs H Q E h=>?_) (fun cdv A outer s H vs Q E hr h=>?_)
 ·obtain ⟨S,v,d,rfl,_⟩:=h
  rfl
 ·obtain ⟨S,v,d,rfl,th,hz,q⟩:=h
  refine ⟨_,aA (bF (PW.pt (eV (bA (bG (aJ bu rfl T.isinstance boot_isinstance (aM (pv 0) (aM (cB rfl T.tuple boot_tuple (v:=.ty "tuple") rfl) aj)))))
    (eO (bA (dZ bH bH ao (aJ aQ rfl T.len PySem.boot_len (aM (pv 0) aj)) ao))))) (aB (aN dw)) aV)
   (aB (aN (aJ (cD rfl) rfl T.all boot_all (aM (cM ["_law_one"] [none] rfl (fH (pv 0))
    (fun C fp pins s₂ H₂=>⟨aC (i:=0) (nd1 _) rfl (Or.inl rfl),cJ,aH c1 hr (by decide) rfl (aM (pv 0) aj)⟩) (fun C=>trivial) ⟨rfl,rfl,rfl,rfl⟩) aj)))),?_⟩
  have fin:=fun H' (s:Same H H')=>q H' s
  unfold fV at fin
  refine ⟨_,rfl,v,_,"tuple",bL d,rfl,th.ty,dY d,_,rfl,?_⟩
  cases e:bL d with
  | false =>
   rw [e] at fin
   exact aY (aY (fin H (Same.refl H)))
  | true =>
   rw [e] at fin
   refine bf ?_
   cases th with
   | @tup a xs ds ea r =>
    have hl:=r.length
    have fin:∀ H',Same H H'→Q (.bl (true && ((decide (1≤ds.length) && decide (ds.length≤20)) && ds.all gm))) H':=fin
    refine bK (p:=fun i j=>decide (i≤j)) (q:=fun i j=>decide (i≤j)) (j:=(xs.length:Int)) dq (fun Q h=>⟨_,rfl,a,xs,rfl,.inr (SqT.of ea),h⟩) dq _ ⟨_,rfl,?_⟩
    have ee:(decide ((1:Int)≤(xs.length:Int)) && decide ((xs.length:Int)≤20))=(decide (1≤ds.length) && decide (ds.length≤20)):=by
     rw [hl]
     congr 1
     ·exact decide_eq_decide.mpr (by omega)
     ·exact decide_eq_decide.mpr (by omega)
    rw [ee]
    cases e2:(decide (1≤ds.length) && decide (ds.length≤20)) with
    | false =>
     rw [e2] at fin
     exact aY (fin H (Same.refl H))
    | true =>
     rw [e2] at fin
     refine bf ?_
     exact c7 gm rfl ea r (cN r hz) (fun v d H2 Q2 hm s2 t2 q2=>⟨_,rfl,S,v,d,rfl,t2,eX hm hz,q2⟩) fin
   | _=>cases e
theorem sc27:FnScope ["_law_thing","_law_tops"] ["_law_thing"] (aD (top 65)):=⟨rfl,rfl,rfl,by decide +kernel,rfl,by decide +kernel,by decide +kernel⟩
theorem nd3:(["_law_one","_law_low","_law_high"]:List Str).Nodup:=by decide +kernel
theorem mD {f:Addr} {fd:FuncData} (F:Fun K "_law_is_promise" "_law_is_promise" (top 65) f fd) (T:Mg mg) (Tz:mg "zip" = none) (c1:Cal P w K mg base 2 "_law_between" ["_law_thing","_law_low","_law_high"] (km cX)) :
  FnOk P w K mg base CX0 3 f fd ["_law_thing"] (spT gn):=by
 refine F.ok sc27 (fun vs H Q E h=>?_) (fun cdv A outer s H vs Q E hr h=>?_)
 ·obtain ⟨S,v,d,rfl,_⟩:=h
  rfl
 ·obtain ⟨S,v,d,rfl,th,hz,q⟩:=h
  refine ⟨_,oH (bI ⟨bF (PW.pt (eV (bA (bG (aJ bu rfl T.isinstance boot_isinstance (aq (pv 0) (aq (cB rfl T.tuple boot_tuple (v:=.ty "tuple") rfl) aj)))))
    (eO (bD nW (aJ aQ rfl T.len PySem.boot_len (aq (pv 0) aj)) ao (bj _))))) (aB (aN dw)) aV⟩
   (bI (dM (i:=1) sc27.nd rfl (Or.inl rfl) (dI (aR lU (aR lU (aR lU (aR lU (aR lU (aR Af bC))))))))
   (bI ⟨bF (bA (bG (aJ (cD rfl) rfl T.all boot_all (aq (cM (g:=wX K 2 (lA (gq 0) (lA (wX K 2 (lA (gq 1) (lA (gq 2) zN))) zN))) ["_law_one","_law_low","_law_high"] [none,none,none] rfl (CT rfl Tz (aq (pv 0) (aq (pv 1) aj)))
    (fun C fp pins s₂ H₂=>⟨pW rfl rfl (aF (aC (i:=0) nd3 rfl (Or.inl rfl) (Or.inr rfl)) (aF (pW rfl rfl (aF (aC (i:=1) nd3 rfl (Or.inl rfl) (Or.inr rfl)) (aF (aC (i:=2) nd3 rfl (Or.inl rfl) (Or.inr rfl)) bV))) bV)),cJ,
     aH c1 hr (by decide) rfl (aq (pv 0) (aq (pv 1) (aq (pv 2) aj)))⟩) (fun C=>trivial) ⟨rfl,rfl,rfl,rfl⟩) aj)))) (aB (aN dw)) aV⟩
   (dJ ⟨aN (eZ bH (bh bx (pv 0) ao (fun _ _=>rfl)) (bh bx (pv 0) ao (fun _ _=>rfl)) (bj _))⟩)))),?_⟩
  have fin:=fun H' (s:Same H H')=>q H' s
  unfold gn at fin
  refine ⟨_,rfl,v,_,"tuple",bL d,rfl,th.ty,dY d,_,rfl,?_⟩
  cases e:bL d with
  | false =>
   rw [e] at fin
   exact aY (aY (fin H (Same.refl H)))
  | true =>
   rw [e] at fin
   refine bf ?_
   cases th with
   | @tup a xs ds ea r =>
    have hl:=r.length
    refine ⟨_,rfl,a,xs,rfl,.inr (SqT.of ea),rfl,_,rfl,?_⟩
    have fin:∀ H',Same H H'→Q (.bl (true && (decide (ds.length=6) && ((List.zipWith qd ds bounds).all id && decide (at_ (.tuple ds) 2≤at_ (.tuple ds) 3))))) H':=fin
    by_cases e3:ds.length=6
    ·refine xG (by rw [hl,e3] <;> rfl) ?_
     rw [decide_eq_true e3] at fin
     have two:∀ {i j:Int} {σ:St},ThE (fun _=>False) σ H (mV (rD [i,j])) (.tuple [.int i,.int j]):=fun {i j σ}=>ig (Ah [i,j]) (by show 2≤4000; decide)
     have twoP:∀ {σ:St},ThE (fun _=>False) σ H (mV (dG (tC (.int 0)) (dG (tOp (rI xj fun i j=>.int (i ^ j.toNat)) (tC (.int 10)) (tC (.int 6))) lD))) (.tuple [.int 0,.int 1000000]):=fun {σ} =>
      ig (aW ie (aW (xZ (i:=1000000) fun H'=>xT (g:=fun i j=>V.int (i ^ j.toNat)) dq dq ⟨by decide,by decide,by decide⟩) eU)) (by show 2≤4000; decide)
     refine bN ?_
     dsimp only
     refine aK ?_
     refine aZ ?_
     refine j7 ?_
     refine aW two (aW two (aW two (aW two (aW two (aW twoP eU))))) H (Same.refl H) _ fun zs H1 s1 t1=>?_
     have t1:IsThs (fun _=>False) H1 zs bounds:=t1
     refine ⟨by rw [t1.length]; show 6≤sizeLine; decide,fun l hl'=>?_⟩
     have s2:Same H (upd H1 l (.lst zs)):=s1.updR hl'
     have ea2:=s2 _ _ ea
     refine ⟨_,rfl,_,rfl,a,l,xs,zs,rfl,SqT.of ea2,SqL.of ak,yd qd (fun σ=>∃ x y z,σ=[x,y,z]) ⟨_,_,_,rfl⟩ ea2 ak (r.same s2) (t1.same (Same.upd hl')) e3 (cN r hz) ?_ fun H3 s3 D hD=>⟨D,List.zipWith qd ds bounds,rfl,SqL.of ak,_,rfl,?_⟩⟩
     ·rintro T x z dx dz σ H3 R hd he ⟨y1,y2,y3,rfl⟩ s3 eT tx tz hR
      obtain ⟨lo,hi,rfl⟩:=wG he
      obtain ⟨t,rfl,et⟩:=Dm tz
      refine ⟨T,_,rfl,SqT.of eT,rfl,_,_,rfl,_,_,rfl,⟨t,_,rfl,SqT.of et,rfl,_,_,rfl,_,_,rfl,rfl,rfl,?_⟩⟩
      exact ⟨_,rfl,_,rfl,_,rfl,S,x,dx,lo,hi,rfl,tx,eX hd hz,fun H4 s4=>hR _ _ ⟨_,_,_,rfl⟩ s4⟩
     ·have s4:Same H (upd H3 D (.lst ((List.zipWith qd ds bounds).map V.bl))):=(s2.trans s3).updR hD
      cases e5:(List.zipWith qd ds bounds).all id with
      | false =>
       rw [e5] at fin
       exact aY (fin _ s4)
      | true =>
       rw [e5] at fin
       refine bf ?_
       have hw:∀ x∈ds,bc x=true:=fun x hx=>by
        obtain ⟨i,hi,rfl⟩:=List.getElem_of_mem hx
        have hb:i < bounds.length:=by
         rw [e3] at hi
         exact hi
        have:=List.all_eq_true.mp e5 (qd ds[i] bounds[i]) (List.mem_of_getElem? (i:=i) (by rw [List.getElem?_zipWith,List.getElem?_eq_getElem hi,List.getElem?_eq_getElem hb]))
        have this:(bc ds[i] && _)=true:=this
        rw [Bool.and_eq_true] at this
        exact this.1
       obtain ⟨i1,i2,i3,i4,i5,i6,rfl,rfl⟩:=rQ r e3 hw
       have ea4:=s4 _ _ ea
       refine ⟨_,rfl,a,_,2,.int i3,rfl,rfl,SqT.of ea4,rfl,_,rfl,a,_,3,.int i4,rfl,rfl,SqT.of ea4,rfl,_,_,rfl,rfl,fin _ s4⟩
    ·rw [decide_eq_false e3] at fin
     have ne:¬ (V.int (xs.length:Int)=V.int 6):=fun z=>by
      injection z with z
      omega
     rw [decide_eq_false ne]
     exact aY (fin H (Same.refl H))
   | _=>cases e
theorem Gg:FnScope ["_law_thing"] ["_law_thing"] (aD (top 66)):=⟨rfl,rfl,rfl,by decide +kernel,rfl,by decide +kernel,by decide +kernel⟩
theorem jO {f:Addr} {fd:FuncData} (F:Fun K "_law_are_promises" "_law_are_promises" (top 66) f fd) (T:Mg mg) (c1:Cal P w K mg base 3 "_law_is_promise" ["_law_thing"] (spT gn)) :
  FnOk P w K mg base CX0 4 f fd ["_law_thing"] (spT fW):=by
 refine F.ok Gg (fun vs H Q E h=>?_) (fun cdv A outer s H vs Q E hr h=>?_)
 ·obtain ⟨S,v,d,rfl,_⟩:=h
  rfl
 ·obtain ⟨S,v,d,rfl,th,hz,q⟩:=h
  refine ⟨_,aA (bF (PW.pt (eV (bA (bG (aJ bu rfl T.isinstance boot_isinstance (aq (pv 0) (aq (cB rfl T.tuple boot_tuple (v:=.ty "tuple") rfl) aj)))))
    (eO (bD lC (aJ aQ rfl T.len PySem.boot_len (aq (pv 0) aj)) ao (bj _))))) (aB (aN dw)) aV)
   (aB (aN (aJ (cD rfl) rfl T.all boot_all (aq (cM ["_law_one"] [none] rfl (fH (pv 0))
    (fun C fp pins s₂ H₂=>⟨aC (i:=0) (nd1 _) rfl (Or.inl rfl),cJ,aH c1 hr (by decide) rfl (aq (pv 0) aj)⟩) (fun C=>trivial) ⟨rfl,rfl,rfl,rfl⟩) aj)))),?_⟩
  have fin:=fun H' (s:Same H H')=>q H' s
  unfold fW at fin
  refine ⟨_,rfl,v,_,"tuple",bL d,rfl,th.ty,dY d,_,rfl,?_⟩
  cases e:bL d with
  | false =>
   rw [e] at fin
   exact aY (aY (fin H (Same.refl H)))
  | true =>
   rw [e] at fin
   refine bf ?_
   cases th with
   | @tup a xs ds ea r =>
    have hl:=r.length
    refine ⟨_,rfl,a,xs,rfl,.inr (SqT.of ea),_,_,rfl,rfl,_,rfl,?_⟩
    have fin:∀ H',Same H H'→Q (.bl (true && (decide (ds.length≤10) && ds.all gn))) H':=fin
    by_cases e3:ds.length≤10
    ·rw [decide_eq_true e3] at fin
     rw [decide_eq_false (by omega)]
     refine bf ?_
     exact c7 gn rfl ea r (cN r hz) (fun v d H2 Q2 hm s2 t2 q2=>⟨_,rfl,S,v,d,rfl,t2,eX hm hz,q2⟩) fin
    ·rw [decide_eq_false e3] at fin
     rw [decide_eq_true (by omega)]
     exact aY (fin H (Same.refl H))
   | _=>cases e
end
end K04

set_option Elab.async false
set_option linter.all false
set_option maxRecDepth 100000
namespace K04
open PySem L2
theorem uQ {α:Type} (p q:α→Bool):∀ l:List α,(l.all fun x=>p x && q x)=(l.all p && l.all q)
 | []=>rfl
 | x :: l=>by
  rw [List.all_cons,List.all_cons,List.all_cons,uQ p q l]
  cases p x <;> cases q x <;> cases l.all p <;> cases l.all q <;> rfl
theorem kI (d:PyData):jl d=gm d:=by
 cases d with
 | tuple ds =>
  have e1:jl (.tuple ds)=((((decide ((3:Int)≤(ds.length:Int)) && decide ((ds.length:Int)≤3))) && ds.all bc) && ds.all fun x=>decide (0≤intOf x) && decide (intOf x≤999)):=rfl
  have e2:gm (.tuple ds)=(decide (ds.length=3) && ds.all fun x=>bc x && (decide (0≤intOf x) && decide (intOf x≤999))):=rfl
  rw [e1,e2,uQ bc]
  have e3:(decide ((3:Int)≤(ds.length:Int)) && decide ((ds.length:Int)≤3))=decide (ds.length=3):=by
   rw [← Bool.decide_and]
   exact decide_eq_decide.mpr (by omega)
  rw [e3,Bool.and_assoc]
 | _=>rfl
theorem yu (d:PyData):gJ d=fV d:=by
 cases d with
 | tuple ds =>
  have e1:gJ (.tuple ds)=((decide ((1:Int)≤(ds.length:Int)) && decide ((ds.length:Int)≤20)) && ds.all jl):=rfl
  have e2:fV (.tuple ds)=((decide (1≤ds.length) && decide (ds.length≤20)) && ds.all gm):=rfl
  rw [e1,e2]
  have e3:(decide ((1:Int)≤(ds.length:Int)) && decide ((ds.length:Int)≤20))=(decide (1≤ds.length) && decide (ds.length≤20)):=by
   rw [← Bool.decide_and,← Bool.decide_and]
   exact decide_eq_decide.mpr (by omega)
  rw [e3,show jl=gm from funext kI]
 | _=>rfl
theorem dh (d:PyData):(∃ i,d=.int i)∨bc d=false:=by
 cases d with
 | int i=>exact .inl ⟨i,rfl⟩
 | _=>exact .inr rfl
theorem Av (d:PyData):gP d=gn d:=by
 cases d with
 | tuple ds =>
  have e1:gP (.tuple ds)=(((decide ((6:Int)≤(ds.length:Int)) && decide ((ds.length:Int)≤6)) && ds.all bc) && mj (at_ (.tuple ds) 0) (at_ (.tuple ds) 1) (at_ (.tuple ds) 2) (at_ (.tuple ds) 3) (at_ (.tuple ds) 4) (at_ (.tuple ds) 5)):=rfl
  have e2:gn (.tuple ds)=(decide (ds.length=6) && ((List.zipWith qd ds bounds).all id && decide (at_ (.tuple ds) 2≤at_ (.tuple ds) 3))):=rfl
  rw [e1,e2]
  have e3:(decide ((6:Int)≤(ds.length:Int)) && decide ((ds.length:Int)≤6))=decide (ds.length=6):=by
   rw [← Bool.decide_and]
   exact decide_eq_decide.mpr (by omega)
  rw [e3]
  by_cases hl:ds.length=6
  ·rw [decide_eq_true hl,Bool.true_and,Bool.true_and]
   obtain ⟨d1,d2,d3,d4,d5,d6,rfl⟩:=Dl hl
   have e4:(List.zipWith qd [d1,d2,d3,d4,d5,d6] bounds).all id=(cX d1 0 7 && (cX d2 0 2 && (cX d3 0 19 && (cX d4 0 19 && (cX d5 1 99 && (cX d6 0 1000000 && true)))))):=rfl
   have e5:[d1,d2,d3,d4,d5,d6].all bc=(bc d1 && (bc d2 && (bc d3 && (bc d4 && (bc d5 && (bc d6 && true)))))):=rfl
   rw [e4,e5]
   unfold cX
   rcases dh d1 with ⟨i1,rfl⟩ | z
   ·rcases dh d2 with ⟨i2,rfl⟩ | z
    ·rcases dh d3 with ⟨i3,rfl⟩ | z
     ·rcases dh d4 with ⟨i4,rfl⟩ | z
      ·rcases dh d5 with ⟨i5,rfl⟩ | z
       ·rcases dh d6 with ⟨i6,rfl⟩ | z
        ·show (true && mj i1 i2 i3 i4 i5 i6)=((true && (decide (0≤i1) && decide (i1≤7))) && ((true && (decide (0≤i2) && decide (i2≤2))) && ((true && (decide (0≤i3) && decide (i3≤19))) && ((true && (decide (0≤i4) && decide (i4≤19))) && ((true && (decide (1≤i5) && decide (i5≤99))) && ((true && (decide (0≤i6) && decide (i6≤1000000))) && true))))) && decide (i3≤i4))
         unfold mj
         simp only [Bool.true_and,Bool.and_true]
         apply Bool.eq_iff_iff.mpr
         simp only [Bool.and_eq_true,decide_eq_true_eq]
         omega
        ·rw [z]; simp
       ·rw [z]; simp
      ·rw [z]; simp
     ·rw [z]; simp
    ·rw [z]; simp
   ·rw [z]; simp
  ·rw [decide_eq_false hl,Bool.false_and,Bool.false_and,Bool.false_and]
 | _=>rfl
theorem rY (d:PyData):dU d=fW d:=by
 cases d with
 | tuple ds =>
  have e1:dU (.tuple ds)=((decide ((0:Int)≤(ds.length:Int)) && decide ((ds.length:Int)≤10)) && ds.all gP):=rfl
  have e2:fW (.tuple ds)=(decide (ds.length≤10) && ds.all gn):=rfl
  rw [e1,e2]
  have e3:(decide ((0:Int)≤(ds.length:Int)) && decide ((ds.length:Int)≤10))=decide (ds.length≤10):=by
   rw [← Bool.decide_and]
   exact decide_eq_decide.mpr (by omega)
  rw [e3,show gP=gn from funext Av]
 | _=>rfl
end K04

set_option Elab.async false
set_option linter.all false
set_option maxRecDepth 100000
set_option maxHeartbeats 400000
namespace K04
open PySem L2
noncomputable def fP (H:Hp) (st:Addr):Prop:=∃ a b:Int,H st=some (.lst [.int a,.int b])∧0≤a∧0≤b∧b < 4294967296
noncomputable def But (st:Addr) (H H':Hp):Prop:=∀ b o,H b=some o→b≠st→H' b=some o
noncomputable def yw (K:PySem.W.Frag):Sp:=fun vs H Q _=>∃ (a:Addr) (ns:List Int) (k:Int),vs=[.ref a,.int k]∧SqL K H a (ns.map V.int)∧0≤k∧∀ i,Q (.int i) H
noncomputable def uR (K:PySem.W.Frag):Sp:=fun vs H Q _=>∃ (a:Addr) (ns:List Int) (k:Int),vs=[.ref a,.int k]∧SqL K H a (ns.map V.int)∧0≤k∧∀ (p:Addr) (x y:Int),H p=none→0≤x→0≤y→y < 4294967296→Q (.ref p) (upd H p (.lst [.int x,.int y]))
noncomputable def ik:Sp:=fun vs H Q _=>∃ (st:Addr) (n:Int),vs=[.ref st,.int n]∧fP H st∧1≤n∧n < 1073741824∧∀ r a' b':Int,0≤r→r < n→0≤a'→0≤b'→b' < 4294967296→Q (.int r) (upd H st (.lst [.int a',.int b']))
section
variable {P:Program} {w:World} {K:PySem.W.Frag} {mg:Str→Option Value} {base:Heap}
theorem Gh:FnScope ["_law_script","_law_k"] ["_law_script","_law_k"] (aD (top 47)):=⟨rfl,rfl,rfl,by decide +kernel,rfl,by decide +kernel,by decide +kernel⟩
theorem Aw {f:Addr} {fd:FuncData} (F:Fun K "_law_cell_at" "_law_cell_at" (top 47) f fd) (T:Mg mg):FnOk P w K mg base CX0 1 f fd ["_law_script","_law_k"] (yw K):=by
 refine F.ok Gh (fun vs H Q E h=>?_) (fun cdv A outer s H vs Q E hr h=>?_)
 ·obtain ⟨a,ns,k,rfl,_⟩:=h
  rfl
 ·obtain ⟨a,ns,k,rfl,hS,h0,q⟩:=h
  refine ⟨_,aA (bF (bD lB (pv 1) (aJ aQ rfl T.len PySem.boot_len (aM (pv 0) aj)) (bj _)) (aB (aN (bh bz (pv 0) (pv 1) (fun _ _=>rfl)))) aV) (aB (aN ao)),?_⟩
  refine ⟨_,rfl,_,rfl,a,_,rfl,.inl hS,_,_,rfl,rfl,_,rfl,?_⟩
  refine mX (fun c=>?_) (fun _=>q 0)
  have c:=of_decide_eq_true c
  rw [List.length_map] at c
  have hk:k.toNat < ns.length:=by omega
  refine ⟨_,rfl,_,rfl,a,_,k,.int ns[k.toNat],rfl,rfl,hS,?_,q _⟩
  have e:(ns.map V.int)[k.toNat]?=some (.int ns[k.toNat]):=by rw [List.getElem?_map,List.getElem?_eq_getElem hk]; rfl
  have:=gC e
  rw [show ((k.toNat:Nat):Int)=k by omega] at this
  exact this
theorem sc19:FnScope ["_law_script","_law_k","_law_cell"] ["_law_script","_law_k"] (aD (top 48)):=⟨rfl,rfl,rfl,by decide +kernel,rfl,by decide +kernel,by decide +kernel⟩
theorem yx {f:Addr} {fd:FuncData} (F:Fun K "_law_state" "_law_state" (top 48) f fd) (c1:Cal P w K mg base 1 "_law_cell_at" ["_law_script","_law_k"] (yw K)):FnOk P w K mg base CX0 2 f fd ["_law_script","_law_k"] (uR K):=by
 refine F.ok sc19 (fun vs H Q E h=>?_) (fun cdv A outer s H vs Q E hr h=>?_)
 ·obtain ⟨a,ns,k,rfl,_⟩:=h
  rfl
 ·obtain ⟨a,ns,k,rfl,hS,h0,q⟩:=h
  refine ⟨_,aA (bw (i:=2) sc19.nd rfl (Or.inl rfl) (aH c1 hr (Nat.le_refl _) rfl (aM (pv 0) (aM (pv 1) aj))))
   (aA (bF (bD xn (pv 2) (aX jy ao ao) (bj _)) (aB (aN (eQ (aq (aX jw (pv 2) (aX jy ao ao)) (aq (aX bT (aX gR (pv 2) ao) ao) aj))))) aV)
   (aB (aN (eQ (aq ao (aq (aX bT (aX gR (pv 2) ao) ao) aj)))))),?_⟩
  refine ⟨_,rfl,_,rfl,a,ns,k,rfl,hS,h0,fun c=>?_⟩
  refine ⟨_,rfl,_,_,rfl,rfl,⟨by decide,by decide,by decide⟩,_,_,rfl,rfl,_,rfl,?_⟩
  refine mX (fun hc=>?_) (fun _=>?_)
  ·have hc:=of_decide_eq_true hc
   refine ⟨_,rfl,_,_,rfl,rfl,⟨by decide,by decide,by decide⟩,_,_,rfl,rfl,_,rfl,_,_,rfl,rfl,(by show (0:Int) < 2147483629; decide),_,_,rfl,rfl,(by show 2≤sizeLine; decide),fun p hp=>?_⟩
   refine q p _ _ hp ?_ ?_ ?_
   ·show 0≤c - (10:Int) ^ 18
    have hc:(10:Int) ^ 18≤c:=hc
    omega
   ·show 0≤c % 2147483629+1
    omega
   ·show c % 2147483629+1 < 4294967296
    omega
  ·refine ⟨_,rfl,_,_,rfl,rfl,(by show (0:Int) < 2147483647; decide),_,_,rfl,rfl,(by show 2≤sizeLine; decide),fun p hp=>?_⟩
   refine q p _ _ hp (Int.le_refl 0) ?_ ?_
   ·show 0≤c % 2147483647+1
    omega
   ·show c % 2147483647+1 < 4294967296
    omega
theorem sc20:FnScope ["_law_state_here","_law_many","_law_found","_law_stirred"] ["_law_state_here","_law_many"] (aD (top 49)):=⟨rfl,rfl,rfl,by decide +kernel,rfl,by decide +kernel,by decide +kernel⟩
theorem Ax {f:Addr} {fd:FuncData} (F:Fun K "_law_take" "_law_take" (top 49) f fd):FnOk P w K mg base CX0 1 f fd ["_law_state_here","_law_many"] ik:=by
 refine F.ok sc20 (fun vs H Q E h=>?_) (fun cdv A outer s H vs Q E hr h=>?_)
 ·obtain ⟨st,n,rfl,_⟩:=h
  rfl
 ·obtain ⟨st,n,rfl,⟨a,b,es,ha,hb,hb2⟩,h1,h2,q⟩:=h
  refine ⟨_,aA (bF (bD lC (bh bz (pv 0) ao (fun _ _=>rfl)) ao (bj _))
    (aA (bw (i:=2) sc20.nd rfl (Or.inl rfl) (aX gR (bh bz (pv 0) ao (fun _ _=>rfl)) (pv 1)))
     (aA (dC (aX uw (bh bz (pv 0) ao (fun _ _=>rfl)) (pv 1)) (ph (pv 0) ao set_list)) (aB (aN (pv 2))))) aV)
   (aA (dC (aX gR (aX bT (aX jx (bh bz (pv 0) ao (fun _ _=>rfl)) ao) ao) ao) (ph (pv 0) ao set_list))
   (aA (bw (i:=3) sc20.nd rfl (Or.inl rfl) (aX gR (aX bT (aX bT (aX jx (bh bz (pv 0) ao (fun _ _=>rfl)) (bh bz (pv 0) ao (fun _ _=>rfl))) (aX jx ao (bh bz (pv 0) ao (fun _ _=>rfl)))) ao) ao))
   (aA (bw (i:=3) sc20.nd rfl (Or.inl rfl) (aX gR (aX bT (aX bT (aX jx (pv 3) (pv 3)) (aX jx ao (pv 3))) ao) ao))
   (aB (aN (aX gR (aX uw (pv 3) ao) (pv 1))))))),?_⟩
  refine ⟨_,rfl,st,_,0,.int a,rfl,rfl,SqL.of es,rfl,_,_,rfl,rfl,_,rfl,?_⟩
  refine mX (fun hc=>?_) (fun _=>?_)
  ·refine ⟨_,rfl,st,_,0,.int a,rfl,rfl,SqL.of es,rfl,_,rfl,_,_,rfl,rfl,(by show 0 < n; omega),?_⟩
   refine ⟨_,rfl,st,_,0,.int a,rfl,rfl,SqL.of es,rfl,_,rfl,_,_,rfl,rfl,⟨by omega,h2⟩,_,rfl,st,_,0,0,rfl,rfl,es,rfl,_,rfl,?_⟩
   exact q (a % n) (a / n) b (Int.emod_nonneg a (by omega)) (Int.emod_lt_of_pos a (by omega)) (Int.ediv_nonneg ha (by omega)) hb hb2
  ·refine ⟨_,rfl,st,_,1,.int b,rfl,rfl,SqL.of es,rfl,_,_,rfl,rfl,.inl ⟨by omega,by omega⟩,_,_,rfl,rfl,_,_,rfl,rfl,(by show (0:Int) < 2147483647; decide),_,rfl,st,_,1,1,rfl,rfl,es,rfl,?_⟩
   have hm0:0≤(b * 48271+29) % 2147483647:=Int.emod_nonneg _ (by decide)
   have hm1:(b * 48271+29) % 2147483647 < 2147483647:=Int.emod_lt_of_pos _ (by decide)
   obtain ⟨m,hm⟩:∃ m,m=(b * 48271+29) % 2147483647:=⟨_,rfl⟩
   rw [← hm] at hm0 hm1
   have eL:([V.int a,V.int b].set 1 ((fun i j:Int=>V.int (i % j)) (b * 48271+29) 2147483647))=[V.int a,V.int m]:=by rw [hm]; rfl
   rw [eL]
   have es':upd H st (.lst [.int a,.int m]) st=some (.lst [.int a,.int m]):=ak
   refine ⟨_,rfl,st,_,1,.int m,rfl,rfl,SqL.of es',rfl,_,rfl,st,_,1,.int m,rfl,rfl,SqL.of es',rfl,_,_,rfl,rfl,.inl ⟨by omega,by omega⟩,_,rfl,st,_,1,.int m,rfl,rfl,SqL.of es',rfl,_,_,rfl,rfl,.inl ⟨by decide,by decide⟩,_,_,rfl,rfl,_,_,rfl,rfl,_,_,rfl,rfl,(by show (0:Int) < 2147483629; decide),?_⟩
   have hx0:0≤(m * m+39373 * m+7) % 2147483629:=Int.emod_nonneg _ (by decide)
   have hx1:(m * m+39373 * m+7) % 2147483629 < 2147483629:=Int.emod_lt_of_pos _ (by decide)
   refine ⟨_,rfl,_,rfl,_,_,rfl,rfl,.inl ⟨Int.lt_of_lt_of_le (by decide) hx0,Int.lt_trans hx1 (by decide)⟩,_,rfl,_,_,rfl,rfl,.inl ⟨by decide,by decide⟩,_,_,rfl,rfl,_,_,rfl,rfl,_,_,rfl,rfl,(by show (0:Int) < 2147483587; decide),?_⟩
   refine ⟨_,rfl,_,_,rfl,rfl,⟨by decide,by decide⟩,_,rfl,_,_,rfl,rfl,(by show 0 < n; omega),?_⟩
   exact q _ a m (Int.emod_nonneg _ (by omega)) (Int.emod_lt_of_pos _ (by omega)) ha hm0 (by omega)
end
end K04

set_option Elab.async false
set_option linter.all false
set_option maxRecDepth 100000
set_option maxHeartbeats 400000
namespace K04
open PySem L2
theorem gK:bootBuiltins "repr" = some (.builtin "repr"):=by decide +kernel
noncomputable def yz:Sp:=fun vs H Q _=>∃ S v u d e,vs=[v,u]∧¬ S sysModules∧IsTh S H v d∧IsTh S H u e∧tame d=true∧tame e=true∧sz d≤1000∧sz e≤1000∧Q (.bl (decide (V.str d.shown=V.str e.shown))) H
section
variable {P:Program} {w:World} {K:PySem.W.Frag} {mg:Str→Option Value} {base:Heap}
theorem lq {A:Around} {k:Nat} (hr:Room k A) (hk:60≤k) {d:PyData} (h:sz d≤1000):A.units+(sz d+1) < cLine:=by
 have:=hr.un
 omega
theorem Gi:FnScope ["_law_found","_law_due"] ["_law_found","_law_due"] (aD (top 72)):=⟨rfl,rfl,rfl,by decide +kernel,rfl,by decide +kernel,by decide +kernel⟩
theorem Ay {f:Addr} {fd:FuncData} (F:Fun K "_law_same" "_law_same" (top 72) f fd) (Tr:mg "repr" = none):FnOk P w K mg base CX0 61 f fd ["_law_found","_law_due"] yz:=by
 refine F.ok Gi (fun vs H Q E h=>?_) (fun cdv A outer s H vs Q E hr h=>?_)
 ·obtain ⟨S,v,u,d,e,rfl,_⟩:=h
  rfl
 ·obtain ⟨S,v,u,d,e,rfl,hS,t1,t2,m1,m2,z1,z2,q⟩:=h
  refine ⟨_,aB (aN (eZ iJ (aJ (iz (S:=S) hr.gd hS) rfl Tr gK (aM (pv 0) aj)) (aJ (iz (S:=S) hr.gd hS) rfl Tr gK (aM (pv 1) aj)) (bj _))),?_⟩
  exact ⟨_,rfl,v,d,rfl,t1,m1,by omega,lq hr (Nat.le_refl _) z1,_,rfl,u,e,rfl,t2,m2,by omega,lq hr (Nat.le_refl _) z2,rfl,q⟩
end
end K04

set_option Elab.async false
set_option linter.all false
set_option maxRecDepth 100000
namespace K04
open PySem L2
mutual
noncomputable def tm (B:Nat):PyData→Bool
 | .none=>true
 | .bool _=>true
 | .int i=>decide (i.natAbs < B)
 | .str x=>decide (x.length≤10) && x.cps.toList.all fun c=>decide (c < 16 ^ 8)
 | .list xs=>tms B xs
 | .tuple xs=>tms B xs
 | .dict kvs=>cY B kvs
noncomputable def tms (B:Nat):List PyData→Bool
 | []=>true
 | x :: xs=>tm B x && tms B xs
noncomputable def cY (B:Nat):List (PyData×PyData)→Bool
 | []=>true
 | (.int i,.int j) :: r=>decide (i.natAbs < B) && decide (j.natAbs < B) && cY B r
 | _ :: _=>false
end
theorem uT {B C:Nat} (h:B≤C):∀ (kvs:List (PyData×PyData)),cY B kvs=true→cY C kvs=true
 | [],_=>rfl
 | (.int i,.int j) :: r,e=>by
  have e:(decide (i.natAbs < B) && decide (j.natAbs < B) && cY B r)=true:=e
  simp only [Bool.and_eq_true,decide_eq_true_eq] at e
  show (decide (i.natAbs < C) && decide (j.natAbs < C) && cY C r)=true
  rw [uT h r e.2,decide_eq_true (by omega:i.natAbs < C),decide_eq_true (by omega:j.natAbs < C)]
  rfl
 | (.none,_) :: _,h=>by simp [cY] at h
 | (.bool _,_) :: _,h=>by simp [cY] at h
 | (.str _,_) :: _,h=>by simp [cY] at h
 | (.list _,_) :: _,h=>by simp [cY] at h
 | (.tuple _,_) :: _,h=>by simp [cY] at h
 | (.dict _,_) :: _,h=>by simp [cY] at h
 | (.int _,.none) :: _,h=>by simp [cY] at h
 | (.int _,.bool _) :: _,h=>by simp [cY] at h
 | (.int _,.str _) :: _,h=>by simp [cY] at h
 | (.int _,.list _) :: _,h=>by simp [cY] at h
 | (.int _,.tuple _) :: _,h=>by simp [cY] at h
 | (.int _,.dict _) :: _,h=>by simp [cY] at h
mutual
theorem tm_up {B C:Nat} (h:B≤C):∀ (d:PyData),tm B d=true→tm C d=true
 | .none,_=>rfl
 | .bool _,_=>rfl
 | .int i,e=>by
  have e:decide (i.natAbs < B)=true:=e
  rw [decide_eq_true_eq] at e
  exact decide_eq_true (show i.natAbs < C by omega)
 | .str _,e=>e
 | .list xs,e=>qe h xs e
 | .tuple xs,e=>qe h xs e
 | .dict kvs,e=>uT h kvs e
theorem qe {B C:Nat} (h:B≤C):∀ (ds:List PyData),tms B ds=true→tms C ds=true
 | [],_=>rfl
 | d :: ds,e=>by
  have e:(tm B d && tms B ds)=true:=e
  rw [Bool.and_eq_true] at e
  show (tm C d && tms C ds)=true
  rw [tm_up h d e.1,qe h ds e.2]
  rfl
end
theorem oR:∀ (kvs:List (PyData×PyData)),cY (2 ^ 128) kvs=true→aO kvs=true
 | [],_=>rfl
 | (.int i,.int j) :: r,e=>by
  have e:(decide (i.natAbs < 2 ^ 128) && decide (j.natAbs < 2 ^ 128) && cY (2 ^ 128) r)=true:=e
  rw [Bool.and_eq_true] at e
  show (decide (i.natAbs < 2 ^ 128) && decide (j.natAbs < 2 ^ 128) && aO r)=true
  rw [e.1,oR r e.2]
  rfl
 | (.none,_) :: _,h=>by simp [cY] at h
 | (.bool _,_) :: _,h=>by simp [cY] at h
 | (.str _,_) :: _,h=>by simp [cY] at h
 | (.list _,_) :: _,h=>by simp [cY] at h
 | (.tuple _,_) :: _,h=>by simp [cY] at h
 | (.dict _,_) :: _,h=>by simp [cY] at h
 | (.int _,.none) :: _,h=>by simp [cY] at h
 | (.int _,.bool _) :: _,h=>by simp [cY] at h
 | (.int _,.str _) :: _,h=>by simp [cY] at h
 | (.int _,.list _) :: _,h=>by simp [cY] at h
 | (.int _,.tuple _) :: _,h=>by simp [cY] at h
 | (.int _,.dict _) :: _,h=>by simp [cY] at h
mutual
theorem uU:∀ (d:PyData),tm (2 ^ 128) d=true→tame d=true
 | .none,_=>rfl
 | .bool _,_=>rfl
 | .int i,e=>e
 | .str _,e=>e
 | .list xs,e=>mF xs e
 | .tuple xs,e=>mF xs e
 | .dict kvs,e=>oR kvs e
theorem mF:∀ (ds:List PyData),tms (2 ^ 128) ds=true→dH ds=true
 | [],_=>rfl
 | d :: ds,e=>by
  have e:(tm (2 ^ 128) d && tms (2 ^ 128) ds)=true:=e
  rw [Bool.and_eq_true] at e
  show (tame d && dH ds)=true
  rw [uU d e.1,mF ds e.2]
  rfl
end
theorem qg {B:Nat} {d:PyData} (h:tm B d=true) (hB:B≤2 ^ 128):tame d=true:=uU d (tm_up hB d h)
theorem tms_all {B:Nat}:∀ {ds:List PyData},tms B ds=true↔∀ d∈ds,tm B d=true
 | []=>Iff.intro (fun _ _ h=>absurd h List.not_mem_nil) (fun _=>rfl)
 | x :: ds=>by
  show (tm B x && tms B ds)=true↔_
  rw [Bool.and_eq_true,tms_all (ds:=ds)]
  exact ⟨fun ⟨h1,h2⟩ d hd=>(List.mem_cons.mp hd).elim (fun e=>e ▸ h1) (h2 d),fun h=>⟨h x List.mem_cons_self,fun d hd=>h d (List.mem_cons_of_mem _ hd)⟩⟩
theorem lr:∀ (ds es:List PyData),szs (ds++es)=szs ds+szs es
 | [],es=>by show szs es=0+szs es; omega
 | d :: ds,es=>by
  show sz d+szs (ds++es)=sz d+szs ds+szs es
  rw [lr ds es]
  omega
theorem uV (ds:List PyData) (i:Nat) (e:PyData):szs (ds.take i++e :: ds.drop i)=szs ds+sz e:=by
 have h:szs (ds.take i++ds.drop i)=szs ds:=by rw [List.take_append_drop]
 rw [lr] at h ⊢
 show szs (ds.take i)+(sz e+szs (ds.drop i))=_
 omega
theorem qi:∀ {ds:List PyData} {i:Nat} {d:PyData},ds[i]?=some d→szs (ds.eraseIdx i)+sz d=szs ds
 | x :: ds,0,d,h=>by
  have:x=d:=by simpa using h
  subst this
  show szs ds+sz x=sz x+szs ds
  omega
 | x :: ds,i+1,d,h=>by
  have:=qi (ds:=ds) (i:=i) (d:=d) (by simpa using h)
  show sz x+szs (ds.eraseIdx i)+sz d=sz x+szs ds
  omega
theorem uW:∀ {ds:List PyData} {i:Nat} {d e:PyData},ds[i]?=some d→szs (ds.set i e)+sz d=szs ds+sz e
 | x :: ds,0,d,e,h=>by
  have:x=d:=by simpa using h
  subst this
  show sz e+szs ds+sz x=sz x+szs ds+sz e
  omega
 | x :: ds,i+1,d,e,h=>by
  have:=uW (ds:=ds) (i:=i) (d:=d) (e:=e) (by simpa using h)
  show sz x+szs (ds.set i e)+sz d=sz x+szs ds+sz e
  omega
end K04

set_option Elab.async false
set_option linter.all false
set_option maxRecDepth 100000
set_option maxHeartbeats 400000
namespace K04
open PySem L2
noncomputable def Az:List PyData:=[.none,.bool true,.bool false,.int 0,.int 1,.int (-1),.int (10 ^ 29),.str "",.str "a",.str "0/0/0",.tuple [],.list [],.dict [],.tuple [.int 0],.list [.int 0],.tuple [.none],.tuple [.tuple []]]
noncomputable def Ba:List PyData:=[.str "-",.dict [(.int 0,.int 1)],.tuple [.int 0,.int 0,.int 0]]
theorem yC:∀ d∈Az++Ba,tm (2 ^ 100) d=true∧sz d≤6:=by
 have h:((Az++Ba).all fun d=>tm (2 ^ 100) d && decide (sz d≤6))=true:=by decide +kernel
 intro d hd
 have:=List.all_eq_true.mp h d hd
 rw [Bool.and_eq_true,decide_eq_true_eq] at this
 exact this
noncomputable def Made (st:Addr) (H:Hp) (n:Nat) (v:V) (H':Hp):Prop:=∃ d,But st H H'∧fP H' st∧IsTh (fun a=>H a=none∧a≠sysModules) H' v d∧tm (2 ^ 100) d=true∧sz d≤n
noncomputable def Ez (st:Addr) (H:Hp) (n:Nat) (v:V) (H':Hp):Prop:=∃ ds,But st H H'∧fP H' st∧IsTh (fun a=>H a=none∧a≠sysModules) H' v (.tuple ds)∧tms (2 ^ 100) ds=true∧1+szs ds≤n
noncomputable def yD:Sp:=fun vs H Q _=>∃ st,vs=[.ref st]∧fP H st∧∀ v H',Made st H 6 v H'→Q v H'
section
variable {P:Program} {w:World} {K:PySem.W.Frag} {mg:Str→Option Value} {base:Heap}
theorem sc29:FnScope ["_law_state_here","_law_some"] ["_law_state_here"] (aD (top 70)):=⟨rfl,rfl,rfl,by decide +kernel,rfl,by decide +kernel,by decide +kernel⟩
theorem Dn {f:Addr} {fd:FuncData} (F:Fun K "_law_odd" "_law_odd" (top 70) f fd) (c1:Cal P w K mg base 1 "_law_take" ["_law_state_here","_law_many"] ik):FnOk P w K mg base CX0 2 f fd ["_law_state_here"] yD:=by
 refine F.ok sc29 (fun vs H Q E h=>?_) (fun cdv A outer s H vs Q E hr h=>?_)
 ·obtain ⟨st,rfl,_⟩:=h
  rfl
 ·obtain ⟨st,rfl,hst,q⟩:=h
  refine ⟨_,oH (bI (dM (i:=1) sc29.nd rfl (Or.inl rfl) (dI (aR pX (aR lR (aR lR (aR cV (aR cV (aR u6 (aR xV (aR bY (aR bY (aR bY (aR (gk bC) (aR (uL bC) (aR xW (aR (gk (aR cV bC)) (aR (uL (aR cV bC)) (aR (gk (aR pX bC)) (aR (gk (aR (gk bC) bC)) bC)))))))))))))))))))
   (dJ (jL (gO bz (oJ jD ⟨pv 1⟩ (dI (aR bY (aR xX (aR (gk (aR cV (aR cV (aR cV bC)))) bC)))))
    ⟨aH c1 hr (by decide) rfl (aq (pv 0) (aq ao aj))⟩ (fun _ _=>rfl))))),?_⟩
  have hS:∀ H0,Same H H0→∀ p,H0 p=none→p≠sysModules→(H p=none∧p≠sysModules):=fun H0 s0 p hp np=>⟨s0.free hp,np⟩
  have z0:∀ {n:Nat},n≤3→n≤4000:=fun h=>by omega
  refine aK ?_
  refine aZ ?_
  refine j7 ?_
  refine (aW xY (aW BV (aW BV (aW ie (aW ie (aW (xZ (i:=-1) fun H' Q h=>⟨1,rfl,h⟩) (aW (xZ (i:=10 ^ 29) fun H'=>xT (g:=fun i j=>V.int (i ^ j.toNat)) dq dq ⟨by decide,by decide,by decide⟩) (aW pY (aW pY (aW pY
   (aW (ig eU (by decide)) (aW (uM eU (by decide) hS) (aW (Ai hS) (aW (ig (aW ie eU) (by decide)) (aW (uM (aW ie eU) (by decide) hS) (aW (ig (aW xY eU) (by decide)) (aW (ig (aW (ig eU (by decide)) eU) (by decide)) eU))))))))))))))))) H (Same.refl H) _ fun xs H1 s1 t1=>?_
  have t1:IsThs (fun a=>H a=none∧a≠sysModules) H1 xs Az:=t1
  refine ⟨by rw [t1.length]; show 17≤sizeLine; decide,fun p hp=>?_⟩
  refine aP ?_
  dsimp only
  refine CZ ?_
  have s2:Same H (upd H1 p (.lst xs)):=s1.updR hp
  refine ⟨_,rfl,?_⟩
  refine (aW pY (aW (yc hS) (aW (ig (aW ie (aW ie (aW ie eU))) (by decide)) eU))) (upd H1 p (.lst xs)) s2 _ fun ys H2 s3 t2=>?_
  have t2:IsThs (fun a=>H a=none∧a≠sysModules) H2 ys Ba:=t2
  refine ⟨by rw [t2.length]; show 3≤sizeLine; decide,fun p2 hp2=>?_⟩
  have s4:Same (upd H1 p (.lst xs)) (upd H2 p2 (.lst ys)):=s3.updR hp2
  refine ⟨p,p2,xs,ys,rfl,rfl,s4 _ _ ak,ak,by rw [t1.length,t2.length]; show 20≤sizeLine; decide,fun l hl=>?_⟩
  have s5:Same H (upd (upd H2 p2 (.lst ys)) l (.lst (xs++ys))):=(s2.trans s4).updR hl
  obtain ⟨a,b,es,h1,h2,h3⟩:=hst
  refine ⟨_,rfl,st,20,rfl,⟨a,b,s5 _ _ es,h1,h2,h3⟩,by decide,by decide,fun r a' b' r0 r1 g1 g2 g3=>?_⟩
  have nl:l≠st:=fun z=>by
   have:=(s2.trans s4) _ _ es
   rw [z,this] at hl
   cases hl
  have t3:IsThs (fun a=>H a=none∧a≠sysModules) (upd (upd H2 p2 (.lst ys)) l (.lst (xs++ys))) (xs++ys) (Az++Ba) :=
   (((t1.same (Same.upd hp)).same s4).same (Same.upd hl)).append ((t2.same (Same.upd hp2)).same (Same.upd hl))
  have hlen:(xs++ys).length=20:=by
   rw [t3.length]
   rfl
  have hr':r.toNat < (xs++ys).length:=by omega
  have e:(xs++ys)[r.toNat]?=some ((xs++ys)[r.toNat]):=List.getElem?_eq_getElem hr'
  obtain ⟨d,hd,td⟩:=t3.get e
  have hat:atI (xs++ys) r=some ((xs++ys)[r.toNat]):=by
   have:=gC e
   rw [show ((r.toNat:Nat):Int)=r by omega] at this
   exact this
  refine ⟨l,_,r,_,rfl,rfl,SqL.of (by rw [az nl]; exact ak),hat,q _ _ ⟨d,fun b' o' e' ne=>?_,⟨a',b',ak,g1,g2,g3⟩,?_,(yC d (List.mem_of_getElem? hd)).1,(yC d (List.mem_of_getElem? hd)).2⟩⟩
  ·rw [az ne]
   exact s5 _ _ e'
  ·refine td.keep (fun c l' e'=>?_) (fun c o' hc e'=>?_) fun _ _ z _=>z
   ·have:c≠st:=fun z=>by
     rw [z,s5 _ _ es] at e'
     cases e'
    rw [az this]
    exact e'
   ·have:c≠st:=fun z=>by
     rw [z,es] at hc
     cases hc.1
    rw [az this]
    exact e'
end
end K04

set_option Elab.async false
set_option linter.all false
set_option maxRecDepth 100000
set_option maxHeartbeats 400000
namespace K04
open PySem L2
theorem rZ {X:Cx} {K:PySem.W.Frag} (hK:X.K=K):IxR X (Ej K):=by
 subst hK
 exact bz
theorem mG:∀ {ds:List PyData} {d:PyData},tms (2 ^ 100) ds=true→tm (2 ^ 100) d=true→tms (2 ^ 100) (ds++[d])=true
 | [],d,_,h=>by
  show (tm (2 ^ 100) d && true)=true
  rw [h]
  rfl
 | x :: ds,d,h,h'=>by
  have h:(tm (2 ^ 100) x && tms (2 ^ 100) ds)=true:=h
  rw [Bool.and_eq_true] at h
  show (tm (2 ^ 100) x && tms (2 ^ 100) (ds++[d]))=true
  rw [h.1,mG h.2 h']
  rfl
theorem mH:∀ {is:List Int},(∀ v∈is,0≤v∧v < 1000)→tms (2 ^ 100) (is.map PyData.int)=true
 | [],_=>rfl
 | i :: is,h=>by
  have h1:=h i List.mem_cons_self
  show (decide (i.natAbs < 2 ^ 100) && tms (2 ^ 100) (is.map PyData.int))=true
  rw [mH fun v hv=>h v (List.mem_cons_of_mem _ hv),decide_eq_true (show i.natAbs < 2 ^ 100 by omega)]
  rfl
theorem wI {is:List Int} (h:∀ v∈is,0≤v∧v < 1000):tm (2 ^ 100) (.tuple (is.map PyData.int))=true:=mH h
theorem sr:∀ (ds:List PyData) (d:PyData),szs (ds++[d])=szs ds+sz d
 | [],d=>by show sz d+0=0+sz d; omega
 | x :: ds,d=>by
  show sz x+szs (ds++[d])=sz x+szs ds+sz d
  rw [sr ds d]
  omega
theorem mJ:∀ (is:List Int),szs (is.map PyData.int)=is.length
 | []=>rfl
 | i :: is=>by
  show 1+szs (is.map PyData.int)=is.length+1
  rw [mJ is]
  omega
theorem Gj:(["_law_sort","_law_state_here","_law_wide"]:List Str).Nodup:=by decide +kernel
section
variable {P:Program} {w:World} {K:PySem.W.Frag} {mg:Str→Option Value} {base:Heap}
theorem sc21:FnScope ["_law_state_here","_law_most","_law_wide","_law_found","_law_turn"] ["_law_state_here","_law_most"] (aD (top 50)):=⟨rfl,rfl,rfl,by decide +kernel,rfl,by decide +kernel,by decide +kernel⟩
noncomputable def uX:Sp:=fun vs H Q _=>∃ st n,vs=[.ref st,.int n]∧fP H st∧1≤n∧n≤20∧∀ v H',Ez st H 81 v H'→Q v H'
theorem yE {f:Addr} {fd:FuncData} (F:Fun K "_law_clips" "_law_clips" (top 50) f fd) (T:Mg mg) (Tr:mg "range" = none) (c1:Cal P w K mg base 1 "_law_take" ["_law_state_here","_law_many"] ik):FnOk P w K mg base CX0 2 f fd ["_law_state_here","_law_most"] uX:=by
 refine F.ok sc21 (fun vs H Q E h=>?_) (fun cdv A outer s H vs Q E hr h=>?_)
 ·obtain ⟨st,n,rfl,_⟩:=h
  rfl
 ·obtain ⟨st,n,rfl,hst,n1,n2,q⟩:=h
  refine ⟨_,aA (bw (i:=2) sc21.nd rfl (Or.inr rfl) (bh bz (eQ (iB (by repeat constructor))) (aH c1 hr (by decide) rfl (aq (pv 0) (aq ao aj))) (fun _ _=>rfl)))
   (aA (bw (i:=3) sc21.nd rfl (Or.inl rfl) (eQ aj))
   (aA (dF PassesOwn.never rfl (dg rfl Tr (aq (aX bT ao (aH c1 hr (by decide) rfl (aq (pv 0) (aq (pv 1) aj)))) aj)) (aC (i:=4) sc21.nd rfl (Or.inl rfl))
    (aB (eY (iK PySem.F.plainAttrs_list PySem.F.slot_list_append PySem.F.type_list_append iy (pv 3) (aq (dR dX rfl T.tuple boot_tuple (aq
     (cM ["_law_sort","_law_state_here","_law_wide"] [none,some 0,some 2] rfl (dg rfl Tr (aq ao aj))
      (fun C fp pins s₂ H₂=>⟨aC (i:=0) Gj rfl (Or.inl rfl),cJ,aH c1 hr (by decide) rfl (aq (pv 1) (aq (bh (rZ (K:=K) rfl) (eQ (aq (pv 2) (aq ao (aq (pv 2) (aq ao aj))))) (aH c1 hr (by decide) rfl (aq (pv 1) (aq ao aj))) (fun _ _=>rfl)) aj))⟩)
      (fun C=>⟨⟨rfl,.inl rfl,rfl,.inl rfl⟩,⟨rfl,.inl rfl,rfl,.inl rfl⟩,trivial⟩) ⟨rfl,rfl,rfl,rfl⟩) aj)) aj)))))
   (aB (aN (dR dX rfl T.tuple boot_tuple (aq (pv 3) aj)))))),?_⟩
  obtain ⟨a,b,es,h1,h2,h3⟩:=id hst
  refine aK ?_
  refine aZ ?_
  refine ⟨(by show 4≤sizeLine; decide),fun p hp=>?_⟩
  have np:p≠st:=fun z=>by
   rw [z,es] at hp
   cases hp
  have es1:∀ o,upd H p o st=some (.lst [.int a,.int b]):=fun o=>by rw [az np.symm]; exact es
  refine ⟨_,rfl,st,4,rfl,⟨a,b,es1 _,h1,h2,h3⟩,by decide,by decide,fun r a1 b1 r0 r1 g1 g2 g3=>?_⟩
  obtain ⟨wd,hw,w1,w2⟩:∃ wd:Int,atI (([4,14,45,1000]:List Int).map V.int) r=some (.int wd)∧1≤wd∧wd≤1000:=by
   have:r=0∨r=1∨r=2∨r=3:=by omega
   rcases this with rfl | rfl | rfl | rfl
   ·exact ⟨4,rfl,by decide,by decide⟩
   ·exact ⟨14,rfl,by decide,by decide⟩
   ·exact ⟨45,rfl,by decide,by decide⟩
   ·exact ⟨1000,rfl,by decide,by decide⟩
  refine ⟨p,_,r,.int wd,rfl,rfl,SqL.of (by rw [az np]; exact ak),hw,?_⟩
  refine aP ?_
  dsimp only
  refine aK ?_
  refine aZ ?_
  refine ⟨(by show 0≤sizeLine; decide),fun p3 hp3=>?_⟩
  refine aP ?_
  dsimp only
  refine aK ?_
  have np3:p3≠st:=fun z=>by
   rw [z,ak] at hp3
   cases hp3
  refine ⟨_,rfl,_,rfl,st,n,rfl,⟨a1,b1,by rw [az np3.symm]; exact ak,g1,g2,g3⟩,n1,by omega,fun r2 a2 b2 x0 x1 y1 y2 y3=>⟨_,_,rfl,rfl,1+r2,rfl,by omega,by omega,?_⟩⟩
  have keep0:∀ b' o',H b'=some o'→b'≠st→b'≠p∧b'≠p3:=fun b' o' e' ne=>by
   have z:b'≠p:=aG e' hp
   refine ⟨z,fun z2=>?_⟩
   rw [← z2,az ne,az z,e'] at hp3
   cases hp3
  refine cQ (lo:=0) (n:=(1+r2).toNat) (fun i σ H'=>∃ xs ds x4,σ=[some (.ref st),some (.int n),some (.int wd),some (.ref p3),x4]∧But st H H'∧fP H' st∧H' p3=some (.lst xs)∧IsThs (fun _=>False) H' xs ds∧tms (2 ^ 100) ds=true∧szs ds=4 * i∧xs.length=i) ?_ ?_ ?_
  ·refine ⟨[],[],none,rfl,fun b' o' e' ne=>?_,⟨a2,b2,ak,y1,y2,y3⟩,?_,.nil,rfl,rfl,rfl⟩
   ·obtain ⟨k1,k2⟩:=keep0 b' o' e' ne
    rw [az ne,az k2,az ne,az k1]
    exact e'
   ·rw [az np3]
    exact ak
  ·rintro i σ H' hi ⟨xs,ds,x4,rfl,bt,sa,e3,ts,tm,hs,hl⟩
   refine aP ?_
   refine ⟨_,rfl,.inl ⟨rfl,_,SqL.of e3⟩,3,rfl,by decide,by decide,?_⟩
   refine ⟨fun j m ys σc H2=>m=3 - j∧j≤3∧∃ is x0,ys=is.map V.int∧is.length=j∧(∀ v∈is,0≤v∧v < 1000)∧σc=[x0,some (.ref st),some (.int wd)]∧But st H' H2∧fP H2 st,⟨3,rfl,by decide,[],none,rfl,rfl,(fun _ h=>nomatch h),rfl,fun _ _ e _=>e,sa⟩,?_⟩
   rintro j m ys σc H2 ⟨rfl,hj,is,x0,rfl,hil,hv,rfl,bt2,sa2⟩
   refine ⟨by rw [List.length_map,hil,sizeLine_eq]; omega,?_⟩
   by_cases hlt:j < 3
   ·refine .inr ⟨hlt,fun x H3 y=>?_⟩
    obtain ⟨e5,e6⟩:=y
    subst e5
    subst e6
    refine aP ?_
    obtain ⟨a5,b5,e7,k1,k2,k3⟩:=sa2
    refine ⟨_,rfl,_,rfl,_,rfl,(by show 4≤sizeLine; decide),fun p4 hp4=>?_⟩
    have np4:p4≠st:=fun z=>by
     rw [z,e7] at hp4
     cases hp4
    refine ⟨_,rfl,st,4,rfl,⟨a5,b5,by rw [az np4.symm]; exact e7,k1,k2,k3⟩,by decide,by decide,fun r3 a6 b6 z0 z1 l1 l2 l3=>?_⟩
    obtain ⟨wn,hwn,u1,u2⟩:∃ wn:Int,atI [V.int wd,V.int 1,V.int wd,V.int 3] r3=some (.int wn)∧1≤wn∧wn≤1000:=by
     have:r3=0∨r3=1∨r3=2∨r3=3:=by omega
     rcases this with rfl | rfl | rfl | rfl
     ·exact ⟨wd,rfl,w1,w2⟩
     ·exact ⟨1,rfl,by decide,by decide⟩
     ·exact ⟨wd,rfl,w1,w2⟩
     ·exact ⟨3,rfl,by decide,by decide⟩
    refine ⟨p4,_,r3,.int wn,rfl,rfl,SqL.of (by rw [az np4]; exact ak),hwn,st,wn,rfl,⟨a6,b6,ak,l1,l2,l3⟩,u1,by omega,fun r4 a7 b7 v0 v1 m1 m2 m3=>?_⟩
    refine ⟨3 - (j+1),by omega,rfl,hlt,is++[r4],_,by rw [List.map_append]; rfl,by rw [List.length_append,hil]; rfl,fun v hv'=>?_,rfl,fun b' o' e' ne=>?_,⟨a7,b7,ak,m1,m2,m3⟩⟩
    ·rcases List.mem_append.mp hv' with z | z
     ·exact hv v z
     ·rw [List.mem_singleton.mp z]
      omega
    ·have e8:=bt2 b' o' e' ne
     rw [az ne,az ne,az (aG e8 hp4)]
     exact e8
   ·have e5:j=3:=by omega
    subst e5
    have e9:=bt2 _ _ e3 np3
    refine .inl ⟨Nat.le_refl _,fun D hD=>⟨D,_,rfl,.inl ⟨SqL.of ak,fun l hl4=>?_⟩⟩⟩
    have sm:Same H2 (upd (upd H2 D (.lst (is.map V.int))) l (.tup (is.map V.int))):=(Same.upd hD).updR hl4
    refine ⟨p3,xs,.ref l,rfl,rfl,sm _ _ e9,by rw [hl,sizeLine_eq]; omega,?_⟩
    have nl3:l≠p3:=fun z=>by
     rw [z,Same.upd hD _ _ e9] at hl4
     cases hl4
    have tk:∀ c l',(upd (upd H2 D (.lst (is.map V.int))) l (.tup (is.map V.int))) c=some (.tup l')→(upd (upd (upd H2 D (.lst (is.map V.int))) l (.tup (is.map V.int))) p3 (.lst (xs++[.ref l]))) c=some (.tup l'):=fun c l' e'=>by
     have:c≠p3:=fun z=>by
      rw [z,sm _ _ e9] at e'
      cases e'
     rw [az this]
     exact e'
    refine ⟨xs++[.ref l],ds++[.tuple (is.map PyData.int)],_,rfl,fun b' o' e' ne=>?_,?_,ak,?_,?_,?_,by rw [List.length_append,hl]; rfl⟩
    ·have k4:=(keep0 b' o' e' ne).2
     rw [az k4]
     exact sm _ _ (bt2 _ _ (bt b' o' e' ne) ne)
    ·obtain ⟨a5,b5,e7,k1,k2,k3⟩:=sa2
     exact ⟨a5,b5,by rw [az np3.symm]; exact sm _ _ e7,k1,k2,k3⟩
    ·refine IsThs.append ?_ (.cons (.tup (by rw [az nl3]; exact ak) (IsThs.ints is)) .nil)
     have ts2:IsThs (fun _=>False) H2 xs ds:=ts.keep (fun c l' e'=>bt2 c _ e' (fun z=>by
      obtain ⟨a5,b5,e7,_⟩:=sa
      rw [z,e7] at e'
      cases e')) (fun _ _ z _=>z.elim) fun _ _ z _=>z.elim
     exact (ts2.same sm).keep tk (fun _ _ z _=>z.elim) fun _ _ z _=>z.elim
    ·exact mG tm (wI hv)
    ·rw [sr,hs]
     show 4 * i+(1+szs (is.map PyData.int))=4 * (i+1)
     rw [mJ,hil]
     omega
  ·rintro σ H' ⟨xs,ds,x4,rfl,bt,sa,e3,ts,tm,hs,hl⟩
   refine ⟨_,rfl,p3,xs,rfl,.inl ⟨SqL.of e3,fun l hl'=>q _ _ ⟨ds,fun b' o' e' ne=>?_,?_,.tup ak ?_,tm,?_⟩⟩⟩
   ·rw [az (aG (bt b' o' e' ne) hl')]
    exact bt b' o' e' ne
   ·obtain ⟨a',b',e',j1,j2,j3⟩:=sa
    exact ⟨a',b',by rw [az (aG e' hl')]; exact e',j1,j2,j3⟩
   ·exact (ts.same (Same.upd hl')).keep (fun _ _ e=>e) (fun _ _ z _=>z.elim) fun _ _ z _=>z.elim
   ·show 1+szs ds≤81
    rw [hs]
    omega
end
end K04

set_option Elab.async false
set_option linter.all false
set_option maxRecDepth 100000
set_option maxHeartbeats 4000000
namespace K04
open PySem L2
structure Mk3 (st p3:Addr) (xs:List V) (ds:List PyData) (H H':Hp):Prop where
 bt:But st H H'
 sa:fP H' st
 e3:H' p3=some (.lst xs)
 ts:IsThs (fun _=>False) H' xs ds
theorem Mk3.take {st p3:Addr} {xs:List V} {ds:List PyData} {H H':Hp} (g:Mk3 st p3 xs ds H H') (np:p3≠st) {a b:Int} (h1:0≤a) (h2:0≤b) (h3:b < 4294967296):Mk3 st p3 xs ds H (upd H' st (.lst [.int a,.int b])):=by
 refine ⟨fun b' o' e' ne=>?_,⟨a,b,ak,h1,h2,h3⟩,by rw [az np]; exact g.e3,g.ts.keep (fun c l e=>?_) (fun _ _ z _=>z.elim) fun _ _ z _=>z.elim⟩
 ·rw [az ne]
  exact g.bt b' o' e' ne
 ·obtain ⟨x,y,e7,_⟩:=g.sa
  have:c≠st:=fun z=>by
   rw [z,e7] at e
   cases e
  rw [az this]
  exact e
theorem Mk3.new {st p3 p:Addr} {xs:List V} {ds:List PyData} {H H':Hp} {o:HO} (g:Mk3 st p3 xs ds H H') (hp:H' p=none):Mk3 st p3 xs ds H (upd H' p o):=by
 obtain ⟨x,y,e7,k⟩:=g.sa
 exact ⟨fun b' o' e' ne=>Same.upd hp _ _ (g.bt b' o' e' ne),⟨x,y,Same.upd hp _ _ e7,k⟩,Same.upd hp _ _ g.e3,g.ts.same (Same.upd hp)⟩
section
variable {P:Program} {w:World} {K:PySem.W.Frag} {mg:Str→Option Value} {base:Heap}
theorem boot_min:bootBuiltins "min" = some (.builtin "min"):=by decide +kernel
theorem sc22:FnScope ["_law_state_here","_law_most","_law_years","_law_found","_law_wide","_law_turn","_law_first","_law_last","_law_price","_law_holder"] ["_law_state_here","_law_most","_law_years"] (aD (top 51)):=⟨rfl,rfl,rfl,by decide +kernel,rfl,by decide +kernel,by decide +kernel⟩
end
end K04

set_option Elab.async false
set_option linter.all false
set_option maxRecDepth 100000
set_option maxHeartbeats 400000
namespace K04
open PySem L2
structure Dr (st:Addr) (H H':Hp):Prop where
 bt:But st H H'
 sa:fP H' st
theorem But.refl {st:Addr} {H:Hp}:But st H H:=fun _ _ e _=>e
theorem Dr.same {st:Addr} {H H1 H2:Hp} (g:Dr st H H1) (s:Same H1 H2):Dr st H H2:=by
 obtain ⟨a,b,e,k⟩:=g.sa
 exact ⟨fun b' o' e' ne=>s _ _ (g.bt b' o' e' ne),a,b,s _ _ e,k⟩
theorem Dr.trans {st:Addr} {H H1 H2:Hp} (g:Dr st H H1) (g':Dr st H1 H2):Dr st H H2:=⟨fun b' o' e' ne=>g'.bt _ _ (g.bt b' o' e' ne) ne,g'.sa⟩
theorem Dr.take {st:Addr} {H H1:Hp} (g:Dr st H H1) {a b:Int} (h1:0≤a) (h2:0≤b) (h3:b < 4294967296):Dr st H (upd H1 st (.lst [.int a,.int b])) :=
 ⟨fun b' o' e' ne=>by rw [az ne]; exact g.bt b' o' e' ne,a,b,ak,h1,h2,h3⟩
theorem Dr.new {st p:Addr} {o:HO} {H H1:Hp} (g:Dr st H H1) (hp:H1 p=none):Dr st H (upd H1 p o):=g.same (Same.upd hp)
theorem Dr.ne {st p:Addr} {H H1:Hp} (g:Dr st H H1) (hp:H1 p=none):p≠st:=fun z=>by
 obtain ⟨a,b,e,_⟩:=g.sa
 rw [z,e] at hp
 cases hp
theorem Dr.free {st p:Addr} {H H1:Hp} (g:Dr st H H1) (hp:H1 p=none):H p=none:=by
 cases e:H p with
 | none=>rfl
 | some o =>
  rw [g.bt _ _ e (g.ne hp)] at hp
  cases hp
theorem Dr.put {st p:Addr} {o:HO} {H H1:Hp} (g:Dr st H H1) (hp:H p=none) (np:p≠st):Dr st H (upd H1 p o):=by
 obtain ⟨a,b,e,k⟩:=g.sa
 refine ⟨fun b' o' e' ne=>?_,a,b,by rw [az np.symm]; exact e,k⟩
 rw [az (aG e' hp)]
 exact g.bt b' o' e' ne
theorem Dr.th {F:Addr→Prop} {st:Addr} {H H1:Hp} {v:V} {d:PyData} (g:Dr st H H1) (h0:fP H st) (hF:F st) (t:IsTh (fun a=>¬ F a) H v d):IsTh (fun a=>¬ F a) H1 v d:=by
 obtain ⟨a,b,e,_⟩:=h0
 refine t.keep (fun c l e'=>g.bt _ _ e' fun z=>?_) (fun c o hc e'=>g.bt _ _ e' fun z=>hc (z ▸ hF)) fun _ _ z _=>z
 rw [z,e] at e'
 cases e'
theorem Dr.ths {F:Addr→Prop} {st:Addr} {H H1:Hp} {v:List V} {d:List PyData} (g:Dr st H H1) (h0:fP H st) (hF:F st) (t:IsThs (fun a=>¬ F a) H v d):IsThs (fun a=>¬ F a) H1 v d:=by
 obtain ⟨a,b,e,_⟩:=h0
 refine t.keep (fun c l e'=>g.bt _ _ e' fun z=>?_) (fun c o hc e'=>g.bt _ _ e' fun z=>hc (z ▸ hF)) fun _ _ z _=>z
 rw [z,e] at e'
 cases e'
structure Fb (F:Addr→Prop) (st:Addr) (H:Hp):Prop where
 st:F st
 sys:F sysModules
 new:∀ a,F a→H a=none→a=sysModules
theorem Fb.dr {F:Addr→Prop} {st:Addr} {H H1:Hp} (f:Fb F st H) (g:Dr st H H1):Fb F st H1:=⟨f.st,f.sys,fun a ha hn=>f.new a ha (g.free hn)⟩
theorem Fb.with {F:Addr→Prop} {st p:Addr} {H:Hp} {o:HO} (f:Fb F st H) (hp:H p=some o):Fb (fun a=>F a∨a=p) st H:=⟨.inl f.st,.inl f.sys,fun a ha hn=>ha.elim (fun z=>f.new a z hn) fun z=>by rw [z,hp] at hn; cases hn⟩
theorem Made.dr {st:Addr} {H H':Hp} {n:Nat} {v:V} (m:Made st H n v H') {F:Addr→Prop} (f:Fb F st H):∃ d,Dr st H H'∧IsTh (fun a=>¬ F a) H' v d∧tm (2 ^ 100) d=true∧sz d≤n:=by
 obtain ⟨d,bt,sa,t,m1,z⟩:=m
 exact ⟨d,⟨bt,sa⟩,t.keep (fun _ _ e=>e) (fun _ _ _ e=>e) fun a o ha _ hF=>ha.2 (f.new a hF ha.1),m1,z⟩
noncomputable def jn (k:Int):Sp:=fun vs H Q _=>∃ (F:Addr→Prop) (st:Addr) (v:V) (d:PyData) (deep:Int) (B:Nat),vs=[.ref st,v,.int deep]∧fP H st∧Fb F st H∧0≤deep∧deep < k∧IsTh (fun a=>¬ F a) H v d∧tm B d=true∧2 ^ 100≤B∧sz d≤1000 ∧
 ∀ v' H' d',Dr st H H'→IsTh (fun a=>¬ F a) H' v' d'→tm (B+1000000) d'=true→sz d'≤2 * sz d+10→Q v' H'
theorem Bb {A:Around} {k:Nat} (hr:Room k A):A.units < cLine:=by
 have:=hr.un
 omega
theorem j9:bootBuiltins "list" = some (.type "list"):=by decide +kernel
section
variable {P:Program} {w:World} {K:PySem.W.Frag} {mg:Str→Option Value} {base:Heap}
theorem sc30:FnScope ["_law_state_here","_law_thing","_law_deep","_law_at","_law_kind_here","_law_row"] ["_law_state_here","_law_thing","_law_deep"] (aD (top 71)):=⟨rfl,rfl,rfl,by decide +kernel,rfl,by decide +kernel,by decide +kernel⟩
theorem iG {k:Nat} {f:Addr} {fd:FuncData} (F:Fun K "_law_spoilt" "_law_spoilt" (top 71) f fd) (T:Mg mg) (Tl:mg "list" = none) (c1:Cal P w K mg base 1 "_law_take" ["_law_state_here","_law_many"] ik)
  (c2:Cal P w K mg base 1 "_law_whole" ["_law_thing"] (spT bc)) (c3:Cal P w K mg base 2 "_law_odd" ["_law_state_here"] yD) (c4:Cal P w K mg base (3+k) "_law_spoilt" ["_law_state_here","_law_thing","_law_deep"] (jn k)) :
  FnOk P w K mg base CX0 (3+k+1) f fd ["_law_state_here","_law_thing","_law_deep"] (jn (k+1:Nat)):=by
 refine F.ok sc30 (fun vs H Q E h=>?_) (fun cdv A outer s H vs Q E hr h=>?_)
 ·obtain ⟨F,st,v,d,deep,B,rfl,_⟩:=h
  rfl
 ·obtain ⟨F,st,v,d,deep,B,rfl,hst,fb,d0,d1,th,tmd,hB,hz,q⟩:=h
  refine ⟨_,aA (bF (PW.pt (wQ (bG (aH c2 hr (by omega) rfl (aq (pv 1) aj))) (ur (bD lC (aH c1 hr (by omega) rfl (aq (pv 0) (aq ao aj))) ao (bj _)))))
    (aB (aN (aX bT (pv 1) (bh bz (pU (j6 ao (j6 (xg tM ao) (j6 ao (j6 (xg tM ao) (j6 ao (j6 (aX jy ao ao) bC))))))) (aH c1 hr (by omega) rfl (aq (pv 0) (aq ao aj))) (fun _ _=>rfl))))) aV)
   (aA (bF (PW.pt (eV (bA (bG (aJ bu rfl T.isinstance boot_isinstance (aq (pv 1) (aq (cB rfl T.tuple boot_tuple (v:=.ty "tuple") rfl) aj)))))
     (eV (bD (vW (Bb hr)) (pv 1) (uK bC) (bj _)) (eO (bD iJ (pv 2) ao (bj _)))))) (aB (aN (aH c3 hr (by omega) rfl (aq (pv 0) aj)))) aV)
   (aA (Ak (i:=3) (j:=4) (k:=5) rfl sc30.nd rfl rfl rfl (by decide) (by decide) (by decide) rfl rfl rfl (aq (aH c1 hr (by omega) rfl (aq (pv 0) (aq (aJ aQ rfl T.len PySem.boot_len (aq (pv 1) aj)) aj))) (aq (aH c1 hr (by omega) rfl (aq (pv 0) (aq ao aj))) (aq (dR nA rfl Tl j9 (aq (pv 1) aj)) aj))) rfl)
   (aA (bF (bD iJ (pv 4) ao (bj _))
     (aB (eY (iK PySem.F.plainAttrs_list PySem.F.slot_list_insert PySem.F.type_list_insert oG (pv 5) (aq (pv 3) (aq (aH c3 hr (by omega) rfl (aq (pv 0) aj)) aj)))))
    (aB (bF (bD iJ (pv 4) ao (bj _))
     (aB (eY (iK PySem.F.plainAttrs_list PySem.F.slot_list_pop PySem.F.type_list_pop qL (pv 5) (aq (pv 3) aj))))
    (aB (bF (bD iJ (pv 4) ao (bj _))
     (aB (eY (iK PySem.F.plainAttrs_list PySem.F.slot_list_insert PySem.F.type_list_insert oG (pv 5) (aq (pv 3) (aq (bh bz (pv 5) (pv 3) (fun _ _=>rfl)) aj)))))
    (aB (bF (bD iJ (pv 4) ao (bj _))
     (aB (aN (pv 5)))
    (aB (bF (bD iJ (pv 4) ao (bj _))
     (aB (eY (iK PySem.F.plainAttrs_list PySem.F.slot_list_append PySem.F.type_list_append iy (pv 5) (aq (iK PySem.F.plainAttrs_list PySem.F.slot_list_pop PySem.F.type_list_pop qL (pv 5) (aq (pv 3) aj)) aj))))
    (aB (dC (aH c4 hr (by omega) rfl (aq (pv 0) (aq (bh bz (pv 5) (pv 3) (fun _ _=>rfl)) (aq (aX jw (pv 2) ao) aj)))) (ph (pv 5) (pv 3) set_list))))))))))))
   (aB (aN (dR dX rfl T.tuple boot_tuple (aq (pv 5) aj))))))),?_⟩
  have hz4:sz d≤4000:=by omega
  have g0:Dr st H H:=⟨But.refl,hst⟩
  refine aK ?_
  refine ⟨_,rfl,_,v,d,rfl,th,hz4,fun H1 s1=>⟨_,rfl,?_⟩⟩
  have g1:Dr st H H1:=g0.same s1
  have odd:∀ H2 v' H',Dr st H H2→Made st H2 6 v' H'→Q v' H':=fun H2 v' H' g2 m=>by
   obtain ⟨d',g3,t3,m3,z3⟩:=m.dr (fb.dr g2)
   exact q v' H' d' (g2.trans g3) t3 (tm_up (by omega) _ m3) (by omega)
  cases ew:bc d with
  | true =>
   obtain ⟨i,rfl,rfl⟩:=fB th ew
   refine aY ?_
   refine ⟨_,rfl,st,4,rfl,g1.sa,by decide,by decide,fun r a1 b1 r0 r1 k1 k2 k3=>⟨_,_,rfl,rfl,_,rfl,?_⟩⟩
   have g2:=g1.take k1 k2 k3
   refine mX (fun _=>?_) (fun _=>?_)
   ·refine ⟨_,rfl,1,rfl,5,rfl,_,_,rfl,rfl,⟨by decide,by decide,by decide⟩,(by show 6≤sizeLine; decide),fun p hp=>?_⟩
    have g3:=g2.new (o:=.lst [V.int 1,V.int (-1),V.int 5,V.int (-5),V.int 1000,V.int (10 ^ (6:Int).toNat)]) hp
    refine ⟨_,rfl,st,6,rfl,g3.sa,by decide,by decide,fun r2 a2 b2 x0 x1 y1 y2 y3=>?_⟩
    obtain ⟨wd,hw,w1,w2⟩:∃ wd:Int,atI [V.int 1,V.int (-1),V.int 5,V.int (-5),V.int 1000,V.int (10 ^ (6:Int).toNat)] r2=some (.int wd)∧-5≤wd∧wd≤1000000:=by
     have:r2=0∨r2=1∨r2=2∨r2=3∨r2=4∨r2=5:=by omega
     rcases this with rfl | rfl | rfl | rfl | rfl | rfl
     ·exact ⟨1,rfl,by decide,by decide⟩
     ·exact ⟨-1,rfl,by decide,by decide⟩
     ·exact ⟨5,rfl,by decide,by decide⟩
     ·exact ⟨-5,rfl,by decide,by decide⟩
     ·exact ⟨1000,rfl,by decide,by decide⟩
     ·exact ⟨_,rfl,by decide,by decide⟩
    refine ⟨p,_,r2,.int wd,rfl,rfl,SqL.of (by rw [az (g2.ne hp)]; exact ak),hw,i,wd,rfl,rfl,?_⟩
    have tmd:decide (i.natAbs < B)=true:=tmd
    rw [decide_eq_true_eq] at tmd
    exact q _ _ (.int (i+wd)) (g3.take y1 y2 y3) (.int _) (decide_eq_true (show (i+wd).natAbs < B+1000000 by omega)) (by show 1≤2 * 1+10; decide)
   ·refine ⟨_,rfl,.int i,_,"tuple",false,rfl,(IsTh.int (S:=fun _=>False) i).ty,dY (.int i),_,rfl,?_⟩
    exact aY (aY ⟨_,rfl,st,rfl,g2.sa,fun v' H' m=>odd _ _ _ g2 m⟩)
  | false =>
   refine bf ?_
   refine bN ?_
   dsimp only
   refine aK ?_
   refine ⟨_,rfl,v,_,"tuple",bL d,rfl,(g1.th hst fb.st th).ty,dY d,_,rfl,?_⟩
   cases et:bL d with
   | false=>exact aY (aY ⟨_,rfl,st,rfl,g1.sa,fun v' H' m=>odd _ _ _ g1 m⟩)
   | true =>
    refine bf ?_
    cases th with
    | @tup a xs ds ea r =>
     have hl:=r.length
     have hls:=lg ds
     have hz':1+szs ds≤1000:=hz
     have na:a≠st:=fun z=>by
      obtain ⟨x,y,e,_⟩:=hst
      rw [z,e] at ea
      cases ea
     refine ⟨_,rfl,(by show 0≤sizeLine; decide),fun p0 hp0=>⟨a,p0,xs,rfl,rfl,SqT.of (Same.upd hp0 _ _ (s1 _ _ ea)),SqT.of ak,_,rfl,?_⟩⟩
     have g2:=g1.new (o:=.tup []) hp0
     cases hx:xs.isEmpty with
     | true=>exact aY (aY ⟨_,rfl,st,rfl,g2.sa,fun v' H' m=>odd _ _ _ g2 m⟩)
     | false =>
      refine bf ?_
      refine ⟨_,rfl,rfl,_,rfl,?_⟩
      by_cases hd0:deep=0
      ·subst hd0
       exact aY ⟨_,rfl,st,rfl,g2.sa,fun v' H' m=>odd _ _ _ g2 m⟩
      ·rw [decide_eq_false (fun z:V.int deep=V.int 0=>hd0 (by injection z))]
       refine bf ?_
       refine bN ?_
       dsimp only
       refine aK ?_
       have hx1:1≤xs.length:=by
        cases xs with
        | nil=>cases hx
        | cons _ _=>exact Nat.le_add_left 1 _
       have ea2:=g2.bt _ _ ea na
       refine ⟨_,rfl,_,rfl,a,xs,rfl,.inr (SqT.of ea2),st,_,rfl,g2.sa,by omega,by omega,fun r1 a1 b1 r0 rn k1 k2 k3=>?_⟩
       have g3:=g2.take k1 k2 k3
       refine ⟨_,rfl,st,10,rfl,g3.sa,by decide,by decide,fun kd a2 b2 _ _ k4 k5 k6=>?_⟩
       have g4:=g3.take k4 k5 k6
       refine ⟨_,rfl,a,xs,rfl,SqT.of (g4.bt _ _ ea na),fun p hp np=>⟨_,_,_,rfl,?_⟩⟩
       have p0:=g4.free hp
       have pst:=g4.ne hp
       have g5:=g4.new (o:=.lst xs) hp
       generalize hH5:upd (upd (upd (upd H1 _ _) st _) st _) p (.lst xs)=H5 at g5 ⊢
       have e5:H5 p=some (.lst xs):=by rw [← hH5]; exact ak
       clear hH5
       have fb5:Fb (fun a=>F a∨a=p) st H5:=(fb.dr g5).with e5
       have r5:IsThs (fun a=>¬ (F a∨a=p)) H5 xs ds:=r.keep (fun c l e'=>g5.bt _ _ e' fun z=>by
         obtain ⟨x,y,e,_⟩:=hst
         rw [z,e] at e'
         cases e') (fun c o hc e'=>g5.bt _ _ e' fun z=>hc (z ▸ fb.st)) fun c o hc e'=>fun z=>z.elim hc fun z=>by
         rw [z,p0] at e'
         cases e'
       /- while the row is written,its things stand -/
       have put:∀ {Hc:Hp} {ys zs ws:List V} {es:List PyData},Hc p=some (.lst ys)→IsThs (fun a=>¬ (F a∨a=p)) Hc ws es→IsThs (fun a=>¬ (F a∨a=p)) (upd Hc p (.lst zs)) ws es:=fun {Hc ys zs ws es} e t=>t.keep (fun c l e'=>by
         have:c≠p:=fun z=>by
          rw [z,e] at e'
          cases e'
         rw [az this]
         exact e') (fun c o hc e'=>by
         have:c≠p:=fun z=>hc (.inr z)
         rw [az this]
         exact e') fun _ _ z _=>z
       have putT:∀ {Hc:Hp} {ys zs:List V} {w:V} {e1:PyData},Hc p=some (.lst ys)→IsTh (fun a=>¬ (F a∨a=p)) Hc w e1→IsTh (fun a=>¬ (F a∨a=p)) (upd Hc p (.lst zs)) w e1:=fun {Hc ys zs w e1} e t=>by
        have:=put (zs:=zs) e (.cons t .nil)
        cases this with
        | cons h _=>exact h
       have fin:∀ {Hc:Hp} {ys:List V} {es:List PyData} {l:Addr},Dr st H Hc→Hc p=some (.lst ys)→IsThs (fun a=>¬ (F a∨a=p)) Hc ys es→tms (B+1000000) es=true→1+szs es≤2 * (1+szs ds)+10→Hc l=none→Q (.ref l) (upd Hc l (.tup ys)):=fun {Hc ys es l} g e t h1 h2 hn =>
        q _ _ (.tuple es) (g.new hn) (.tup ak ((t.same (Same.upd hn)).keep (fun _ _ e=>e) (fun _ _ _ e=>e) fun _ _ z _ zF=>z (.inl zF))) h1 h2
       have hr1:r1.toNat < xs.length:=by omega
       have er:xs[r1.toNat]?=some xs[r1.toNat]:=List.getElem?_eq_getElem hr1
       obtain ⟨di,hdi,ti⟩:=r5.get er
       have hat:atI xs r1=some xs[r1.toNat]:=by
        have:=gC er
        rw [show ((r1.toNat:Nat):Int)=r1 by omega] at this
        exact this
       have hix:ixN xs.length r1=some r1.toNat:=by
        unfold ixN
        rw [if_pos r0,if_pos (by omega)]
       have hsq:=pC hix
       have tmd:tms B ds=true:=tmd
       have tmu:tms (B+1000000) ds=true:=qe (by omega) _ tmd
       have tmi:tm B di=true:=tms_all.mp tmd di (List.mem_of_getElem? hdi)
       have tmiu:tm (B+1000000) di=true:=tm_up (by omega) _ tmi
       have zi:=q9 (List.mem_of_getElem? hdi)
       have hsl:xs.length < sizeLine:=by rw [sizeLine_eq]; omega
       refine aK ?_
       refine ⟨_,rfl,rfl,_,rfl,mX (fun _=>?_) fun _=>⟨_,rfl,rfl,_,rfl,mX (fun _=>?_) fun _=>⟨_,rfl,rfl,_,rfl,mX (fun _=>?_) fun _=>⟨_,rfl,rfl,_,rfl,mX (fun _=>?_) fun _=>⟨_,rfl,rfl,_,rfl,mX (fun _=>?_) fun _=>?_⟩⟩⟩⟩⟩
       ·refine ⟨_,rfl,.inl ⟨rfl,_,SqL.of e5⟩,_,rfl,_,rfl,st,rfl,g5.sa,fun v' H6 m=>?_⟩
        obtain ⟨d',g6,t6,m6,z6⟩:=m.dr fb5
        have e6:=g6.bt _ _ e5 pst
        refine ⟨p,xs,r1,v',rfl,rfl,e6,r0,by omega,hsl,?_⟩
        refine ⟨_,rfl,p,_,rfl,.inl ⟨SqL.of ak,fun l hl'=>fin (es:=ds.take r1.toNat++d' :: ds.drop r1.toNat) ((g5.trans g6).put p0 pst) ak ?_ ?_ ?_ hl'⟩⟩
        ·have r6:=g6.ths g5.sa fb5.st r5
         exact put e6 ((r6.take _).append (.cons t6 (r6.drop _)))
        ·refine tms_all.mpr fun x hx=>?_
         rcases List.mem_append.mp hx with z | z
         ·exact tms_all.mp tmu x (List.mem_of_mem_take z)
         ·rcases List.mem_cons.mp z with z | z
          ·rw [z]
           exact tm_up (by omega) _ m6
          ·exact tms_all.mp tmu x (List.mem_of_mem_drop z)
        ·rw [uV]
         omega
       ·refine ⟨_,rfl,.inl ⟨rfl,_,SqL.of e5⟩,_,rfl,?_⟩
        refine ⟨p,xs,r1,r1.toNat,_,rfl,rfl,e5,by omega,by omega,hsq.1,er,?_⟩
        refine ⟨_,rfl,p,_,rfl,.inl ⟨SqL.of ak,fun l hl'=>fin (es:=ds.eraseIdx r1.toNat) (g5.put p0 pst) ak (put e5 (r5.erase _)) ?_ ?_ hl'⟩⟩
        ·exact tms_all.mpr fun x hx=>tms_all.mp tmu x (List.mem_of_mem_eraseIdx hx)
        ·have:=qi hdi
         omega
       ·refine ⟨_,rfl,.inl ⟨rfl,_,SqL.of e5⟩,_,rfl,_,rfl,_,rfl,p,xs,r1,_,rfl,rfl,SqL.of e5,hat,?_⟩
        refine ⟨p,xs,r1,_,rfl,rfl,e5,r0,by omega,hsl,?_⟩
        refine ⟨_,rfl,p,_,rfl,.inl ⟨SqL.of ak,fun l hl'=>fin (es:=ds.take r1.toNat++di :: ds.drop r1.toNat) (g5.put p0 pst) ak (put e5 ((r5.take _).append (.cons ti (r5.drop _)))) ?_ ?_ hl'⟩⟩
        ·refine tms_all.mpr fun x hx=>?_
         rcases List.mem_append.mp hx with z | z
         ·exact tms_all.mp tmu x (List.mem_of_mem_take z)
         ·rcases List.mem_cons.mp z with z | z
          ·rw [z]
           exact tmiu
          ·exact tms_all.mp tmu x (List.mem_of_mem_drop z)
        ·rw [uV]
         omega
       ·refine ⟨_,rfl,?_⟩
        refine q _ _ (.list ds) g5 (.lst (fun z=>np (fb.new p z p0)) e5 (r5.keep (fun _ _ e=>e) (fun _ _ _ e=>e) fun _ _ z _ zF=>z (.inl zF))) tmu ?_
        show 1+szs ds≤2 * (1+szs ds)+10
        omega
       ·refine ⟨_,rfl,.inl ⟨rfl,_,SqL.of e5⟩,_,rfl,.inl ⟨rfl,_,SqL.of e5⟩,_,rfl,?_⟩
        refine ⟨p,xs,r1,r1.toNat,_,rfl,rfl,e5,by omega,by omega,hsq.1,er,?_⟩
        have hle:=jC xs r1.toNat
        refine ⟨p,_,_,rfl,rfl,ak,by omega,?_⟩
        refine ⟨_,rfl,p,_,rfl,.inl ⟨SqL.of ak,fun l hl'=>fin (es:=ds.eraseIdx r1.toNat++[di]) ((g5.put p0 pst).put p0 pst) ak (put ak ((put e5 (r5.erase _)).append (.cons (putT e5 ti) .nil))) ?_ ?_ hl'⟩⟩
        ·refine tms_all.mpr fun x hx=>?_
         rcases List.mem_append.mp hx with z | z
         ·exact tms_all.mp tmu x (List.mem_of_mem_eraseIdx z)
         ·rw [List.mem_singleton.mp z]
          exact tmiu
        ·have:=qi hdi
         rw [lr]
         show 1+(szs (ds.eraseIdx r1.toNat)+(sz di+0))≤_
         omega
       ·refine ⟨_,rfl,_,rfl,_,rfl,p,xs,r1,_,rfl,rfl,SqL.of e5,hat,_,rfl,_,_,rfl,rfl,?_⟩
        refine ⟨_,st,_,di,deep - 1,B,rfl,g5.sa,fb5,by omega,by omega,ti,tmi,hB,by omega,fun v' H6 d' g6 t6 m6 z6=>?_⟩
        have e6:=g6.bt _ _ e5 pst
        refine ⟨_,rfl,_,rfl,p,xs,r1,r1.toNat,rfl,rfl,e6,hix,?_⟩
        refine ⟨_,rfl,p,_,rfl,.inl ⟨SqL.of ak,fun l hl'=>fin (es:=ds.set r1.toNat d') ((g5.trans g6).put p0 pst) ak (put e6 ((g6.ths g5.sa fb5.st r5).set t6 _)) ?_ ?_ hl'⟩⟩
        ·refine tms_all.mpr fun x hx=>?_
         rcases List.mem_or_eq_of_mem_set hx with z | z
         ·exact tms_all.mp tmu x z
         ·rw [z]
          exact m6
        ·have:=uW (e:=d') hdi
         omega
    | _=>cases et
theorem ud {f:Addr} {fd:FuncData}:FnOk P w K mg base CX0 3 f fd ["_law_state_here","_law_thing","_law_deep"] (jn (0:Nat)):=by
 refine ⟨fun vs H Q E h=>?_,fun A outer s H args us vs Q E hr he hb hv h=>?_⟩
 ·obtain ⟨F,st,v,d,deep,B,rfl,_⟩:=h
  rfl
 ·obtain ⟨F,st,v,d,deep,B,rfl,_,_,h0,h1,_⟩:=h
  exact absurd h1 (by omega)
end
end K04

set_option Elab.async false
set_option linter.all false
set_option maxRecDepth 100000
set_option maxHeartbeats 400000
namespace K04
open PySem L2
noncomputable def Bc (P:Program) (w:World) (K:PySem.W.Frag) (mg:Str→Option Value) (base:Heap) (k:Nat) (x:Str) (ps:List Str) (sp:Sp):Prop :=
 ∃ f fd,FnOk P w K mg base (CX1 P w) k f fd ps sp∧mg x=some (.ref f)∧PySem.W.keepIn K (.ref f)=true∧Binds K fd ps []
theorem uY {X:Cx} {k j:Nat} {x:Str} {ps:List Str} {sp:Sp} {E:XK} {p pos:Pos} {e:Expr} {es:List Expr} {t:TA} (c:Bc X.prog X.w X.K X.mg X.base j x ps sp) (hr:Room k X.A) (hjk:j≤k) (hg:Gl X x) (W:rJ X fun a C H=>E (.ref a) (some C) H) (hx:X.ex=[]) (ha:PA X (e :: es) t)
  (hdb:(x == ("__debug__" : Str))=false:=by decide) (he:starEach (e :: es) X.env=(false,eval e X.env) :: starEach es X.env:=by rfl) (hpl:(backTo pos (starEach es X.env)).any (·.1)=false:=by rfl) :
  PE X (.Call (.Name x p) (e :: es) [] pos) (qI sp [] E t):=by
 obtain ⟨f,fd,F,m,k',b⟩:=c
 exact uC F (hr.mono hjk) hg m k' b .nil (BX W hx) ha hdb he hpl
noncomputable abbrev VE:List Value:=[.type "ValueError",.type "Exception",.type "BaseException",.type "object"]
noncomputable def words:List Str:=["clips","promises","sales","book","number","year","weights","paper","growth","promise","sort","clip","sale","deed","text","line"]
noncomputable def iM (j:Nat):PyData:=.tuple [.str (words.getD j "")]
noncomputable abbrev New (H:Hp) (a:Addr):Prop:=H a=none∧a≠sysModules
theorem lu {S:Addr→Prop} {H:Hp} {p:Addr} {j:Nat} {x:Str} (e:H p=some (.tup [.str x])) (hx:words.getD j "" = x):IsTh S H (.ref p) (iM j):=by
 unfold iM
 rw [hx]
 exact .tup e (.cons (.str x) .nil)
theorem cW {t:TS} {D:Ends} {σ:L2.St} {H:Hp} (C:Hp→Prop) (c:C H) (h:∀ H',C H'→t D σ H'):t D σ H:=h H c
theorem bZ {te:TE} {tr:TA} {σ:L2.St} {H:Hp} {Q:List V→Hp→Prop} (h:te σ H fun x H1=>tr σ H1 fun xs H2=>Q (x :: xs) H2):dG te tr σ H Q:=h
theorem yF {X:Cx} {e:Expr}:PE X e (fun _ _ _=>False):=fun _ _ _ _ _ _ h=>h.elim
theorem EY {X:Cx} {body:List Stmt} {t:TS} {R:TS→Prop} (h:BSs X body t) (q:R t):∃ t,PSs X body t∧R t:=⟨t,h.run,q⟩
structure BT (X:Cx) (e:Expr) (t:TT):Prop where
 run:PT X e t
section
variable {X:Cx} {a b c l:Expr} {ta tb tl:TE} {t u:TT} {pos p q:Pos}
theorem yG {k:Bool} {j} {y:Str} {q':Pos} (hl:BE X (.Name y q') tl) (hline:(p.endLine == pos.line)=true:=by rfl):BE X (.Call (.Attribute (.Name y q') "count" p) [.Constant (.bool k) j q] [] pos) (tBM X.K "list" uO tl (dG (tC (.bl k)) lD)):=⟨iK PySem.F.plainAttrs_list PySem.F.slot_list_count PySem.F.type_list_count wA hl.run (aq dw aj) (hline:=hline)⟩
theorem yH {k:Bool} {j} {y:Str} {q':Pos} (hl:BE X (.Name y q') tl) (hline:(p.endLine == pos.line)=true:=by rfl):BE X (.Call (.Attribute (.Name y q') "index" p) [.Constant (.bool k) j q] [] pos) (tBM X.K "list" uP tl (dG (tC (.bl k)) lD)):=⟨iK PySem.F.plainAttrs_list PySem.F.slot_list_index PySem.F.type_list_index wB hl.run (aq dw aj) (hline:=hline)⟩
theorem Do (hc:BT X c t) (ha:BE X a ta) (hb:BE X b tb):BE X (.IfExp c a b pos) (tIf t ta tb):=⟨wU hc.run ha.run hb.run⟩
theorem Dp (h:BE X (.Subscript a b p) ta):BT X (.Subscript a b p) (tB ta):=⟨bG h.run⟩
theorem qj {es ks} (h:BE X (.Call a es ks p) ta):BT X (.Call a es ks p) (tB ta):=⟨bG h.run⟩
theorem ue (h:BT X a t):BT X (.UnaryOp .Not a pos) (DP t):=⟨bA h.run⟩
theorem Dq (ha:BT X a t) (hb:BT X b u):BT X (.BoolOp .Or [a,b] pos) (tOr t u):=⟨PW.pt (eV ha.run (eO hb.run))⟩
theorem Fd {i:Int} {j} (ha:BE X a ta):BT X (.Compare a [.NotEq] [.Constant (.int i) j q] pos) (xq (tOp rNe ta (tC (.int i)))):=⟨bD nW ha.run ao (bj _)⟩
theorem yI {x y:List Stmt} {v z:TS} (hc:BT X c t) (hx:BSs X x v) (hy:BSs X y z):BS X (.If c x y pos) (DW t v z):=⟨bF hc.run hx.run hy.run⟩
theorem ql:BSs X [] wV:=⟨aV⟩
end
structure Clss (mg:Str→Option Value) (Cs:Nat→Addr):Prop where
 n0:mg "NoClips" = some (.ref (Cs 0))
 n1:mg "NoPromises" = some (.ref (Cs 1))
 n2:mg "NoSales" = some (.ref (Cs 2))
 n3:mg "NoBook" = some (.ref (Cs 3))
 n4:mg "NoNumber" = some (.ref (Cs 4))
 n5:mg "NoYear" = some (.ref (Cs 5))
 n6:mg "NoWeights" = some (.ref (Cs 6))
 n7:mg "NoPaper" = some (.ref (Cs 7))
 n8:mg "NoGrowth" = some (.ref (Cs 8))
 n9:mg "NoPromise" = some (.ref (Cs 9))
 n10:mg "NoSort" = some (.ref (Cs 10))
 n11:mg "NoClip" = some (.ref (Cs 11))
 n12:mg "NoSale" = some (.ref (Cs 12))
 n13:mg "NoDeed" = some (.ref (Cs 13))
 n14:mg "NoText" = some (.ref (Cs 14))
 n15:mg "NoLine" = some (.ref (Cs 15))
 n16:mg "TooMany" = some (.ref (Cs 16))
 wool:mg "WoolError" = some (.ref (Cs 17))
structure Kind (K:PySem.W.Frag) (Cs:Nat→Addr) (j:Nat):Prop where
 lt:j < 16
 ex:ExcC K (Cs j)
 ca:CatchC K (Cs j) (Cs 17)
 on:∀ i,i < 17→PySem.W.kitOne K (.ref (Cs j)) (.ref (Cs i))=some (decide (i=j))
 ve:PySem.W.kitOne K (.ref (Cs j)) (.type "ValueError")=some true
noncomputable def yJ (K:PySem.W.Frag) (Cs:Nat→Addr):Sp:=fun vs H Q _=>∃ a j,vs=[.ref a]∧H a=some (.ext (excAt a (Cs j)))∧Kind K Cs j∧∀ p H',Same H H'→H' p=some (.tup [.str (words.getD j "")])→Q (.ref p) H'
noncomputable def marks (j:Nat):List Bool:=(List.range 17).map fun i=>decide (i=j)
theorem sE:∀ j,j < 17→(marks j).count true=1:=by decide +kernel
theorem yK {j:Nat} (h:j < 17):(marks j)[j]?=some true:=by
 unfold marks
 rw [List.getElem?_map,List.getElem?_range h]
 simp
theorem yL {j i:Nat} (h:i < j):(marks j)[i]?≠some true:=by
 unfold marks
 rw [List.getElem?_map]
 by_cases hi:i < 17
 ·rw [List.getElem?_range hi]
  simp
  omega
 ·rw [List.getElem?_eq_none (by simp; omega)]
  simp
theorem Bd:bootBuiltins "ValueError" = some (.type "ValueError"):=by decide +kernel
theorem yM {j:Nat} (h:j < 16):atI (words.map V.str) (j:Int)=some (.str (words.getD j "")):=by
 have hl:words.length=16:=rfl
 have:words[j]?=some (words.getD j ""):=by
  rw [List.getD_eq_getElem?_getD,List.getElem?_eq_getElem (by omega)]
  rfl
 refine gC ?_
 rw [List.getElem?_map,this]
 rfl
section
variable {P:Program} {w:World} {K:PySem.W.Frag} {mg:Str→Option Value} {base:Heap}
theorem cO {X:Cx} {x:Str} {D:Addr} {p q r pos:Pos} {y:Str} {i:Nat} (hN:X.N[i]?=some y) (hv:Vis X.env.scope y) (hI:Gl X "isinstance") (mI:X.mg "isinstance" = none) (hg:Gl X x) (hm:X.mg x=some (.ref D)) (hd:(y == ("__debug__" : Str))=false:=by decide) (hcd:(y == ("__classdict__" : Str))=false:=by decide) (hd2:(x == ("__debug__" : Str))=false:=by decide) :
  BE X (.Call (.Name "isinstance" p) [.Name y q,.Name x r] [] pos) (tCB (fun xs H Q=>∃ a C c b,xs=[.ref a,c]∧H a=some (.ext (excAt a C))∧ExcC X.K C∧((∃ D,c=.ref D∧PySem.W.kitOne X.K (.ref C) (.ref D)=some b)∨∃ n,c=.ty n∧PySem.W.kitOne X.K (.ref C) (.type n)=some b)∧Q (.bl b) H) (dG (vL i) (dG (tC (.ref D)) lD))) :=
 ⟨aJ jj hI mI boot_isinstance (aq (tG hN hv hd hcd) (aq (cj (v:=.ref D) hg hm rfl hd2) aj))⟩
theorem cP {K:PySem.W.Frag} {σ:L2.St} {H:Hp} {a:Addr} {Cs:Nat→Addr} {i j:Nat} {Q:VK} (Z:Kind K Cs j) (hi:i < 17) (e:H a=some (.ext (excAt a (Cs j)))) (hσ:σ[0]?=some (some (.ref a))) (h:Q (.bl (decide (i=j))) H) :
  tCB (fun xs H Q=>∃ a C c b,xs=[.ref a,c]∧H a=some (.ext (excAt a C))∧ExcC K C∧((∃ D,c=.ref D∧PySem.W.kitOne K (.ref C) (.ref D)=some b)∨∃ n,c=.ty n∧PySem.W.kitOne K (.ref C) (.type n)=some b)∧Q (.bl b) H) (dG (vL 0) (dG (tC (.ref (Cs i))) lD)) σ H Q :=
 ⟨_,hσ,a,Cs j,.ref (Cs i),_,rfl,e,Z.ex,.inl ⟨_,rfl,Z.on i hi⟩,h⟩
theorem sc43:FnScope ["_law_e","_law_names","_law_kinds"] ["_law_e"] (aD (top 59)):=⟨rfl,rfl,rfl,by decide +kernel,rfl,by decide +kernel,by decide +kernel⟩
theorem Be {f:Addr} {Cs:Nat→Addr} {fd:FuncData} (F:Fun K "_law_kind" "_law_kind" (top 59) f fd) (T:Mg mg) (Tv:mg "ValueError" = none) (L:Clss mg Cs):FnOkU P w K mg base CX0 1 f fd ["_law_e"] (yJ K Cs):=by
 refine F.okU sc43 (fun vs H Q E h=>?_) (fun cdv A outer s H vs Q E hr h=>?_)
 ·obtain ⟨a,j,rfl,_⟩:=h
  rfl
 ·obtain ⟨a,j,rfl,ea,Z,q⟩:=h
  refine EY (bI (dM (i:=1) sc43.nd rfl (Or.inl rfl) (dI (aR bY (aR bY (aR bY (aR bY (aR bY (aR bY (aR bY (aR bY (aR bY (aR bY (aR bY bC)))))))))))))
   (bI (dM (i:=1) sc43.nd rfl (Or.inl rfl) (oJ jD ⟨pv 1⟩ (dI (aR bY (aR bY (aR bY (aR bY (aR bY bC))))))))
   (bI (dM (i:=2) sc43.nd rfl (Or.inl rfl) (dI (aR (cO (i:=0) rfl (Or.inl rfl) rfl T.isinstance rfl L.n0) (aR (cO (i:=0) rfl (Or.inl rfl) rfl T.isinstance rfl L.n1) (aR (cO (i:=0) rfl (Or.inl rfl) rfl T.isinstance rfl L.n2) (aR (cO (i:=0) rfl (Or.inl rfl) rfl T.isinstance rfl L.n3) bC))))))
   (bI (dM (i:=2) sc43.nd rfl (Or.inl rfl) (oJ jD ⟨pv 2⟩ (dI (aR (cO (i:=0) rfl (Or.inl rfl) rfl T.isinstance rfl L.n4) (aR (cO (i:=0) rfl (Or.inl rfl) rfl T.isinstance rfl L.n5) (aR (cO (i:=0) rfl (Or.inl rfl) rfl T.isinstance rfl L.n6) bC))))))
   (bI (dM (i:=2) sc43.nd rfl (Or.inl rfl) (oJ jD ⟨pv 2⟩ (dI (aR (cO (i:=0) rfl (Or.inl rfl) rfl T.isinstance rfl L.n7) (aR (cO (i:=0) rfl (Or.inl rfl) rfl T.isinstance rfl L.n8) (aR (cO (i:=0) rfl (Or.inl rfl) rfl T.isinstance rfl L.n9) bC))))))
   (bI (dM (i:=2) sc43.nd rfl (Or.inl rfl) (oJ jD ⟨pv 2⟩ (dI (aR (cO (i:=0) rfl (Or.inl rfl) rfl T.isinstance rfl L.n10) (aR (cO (i:=0) rfl (Or.inl rfl) rfl T.isinstance rfl L.n11) (aR (cO (i:=0) rfl (Or.inl rfl) rfl T.isinstance rfl L.n12) (aR (cO (i:=0) rfl (Or.inl rfl) rfl T.isinstance rfl L.n13) bC)))))))
   (bI (dM (i:=2) sc43.nd rfl (Or.inl rfl) (oJ jD ⟨pv 2⟩ (dI (aR (cO (i:=0) rfl (Or.inl rfl) rfl T.isinstance rfl L.n14) (aR (cO (i:=0) rfl (Or.inl rfl) rfl T.isinstance rfl L.n15) (aR (cO (i:=0) rfl (Or.inl rfl) rfl T.isinstance rfl L.n16) bC))))))
   (bI (yI (Dq (Fd (yG ⟨pv 2⟩)) (ue (qj ⟨aJ jj rfl T.isinstance boot_isinstance (aq (pv 0) (aq (cB rfl Tv Bd (v:=.ty "ValueError") rfl) aj))⟩))) (dJ (jL (gk (aR bY bC)))) ql)
   (dJ (jL (Do (Dp (gO bz ⟨pv 2⟩ cV (fun _ _=>rfl))) ⟨yF⟩ (gk (aR (gO bz ⟨pv 1⟩ (yH ⟨pv 2⟩) (fun _ _=>rfl)) bC))))))))))))) ?_
  refine aK ?_
  refine ⟨by decide,fun p1 hp1=>?_⟩
  refine aP ?_
  dsimp only
  refine cW (fun H1=>Same H H1∧H1 p1=some (.lst [.str "clips",.str "promises",.str "sales",.str "book",.str "number",.str "year",.str "weights",.str "paper",.str "growth",.str "promise",.str "sort"])) ⟨Same.upd hp1,ak⟩ fun H1 ⟨s1,e1⟩=>?_
  refine aK ?_
  refine ⟨_,rfl,by decide,fun p2 hp2=>⟨p1,p2,_,_,rfl,rfl,Same.upd hp2 _ _ e1,ak,by decide,fun l2 hl2=>?_⟩⟩
  refine aP ?_
  dsimp only
  refine cW (fun H2=>Same H H2∧H2 l2=some (.lst (words.map V.str))) ⟨(s1.updR hp2).updR hl2,ak⟩ fun H2 ⟨s2,e2⟩=>?_
  have ea2:=s2 _ _ ea
  refine aK ?_
  refine aZ ?_
  refine j7 ?_
  refine bZ ?_
  refine cP (i:=0) Z (by decide) ea2 rfl ?_
  refine bZ ?_
  refine cP (i:=1) Z (by decide) ea2 rfl ?_
  refine bZ ?_
  refine cP (i:=2) Z (by decide) ea2 rfl ?_
  refine bZ ?_
  refine cP (i:=3) Z (by decide) ea2 rfl ?_
  refine ⟨(by show 4≤sizeLine; decide),fun p3 hp3=>?_⟩
  refine aP ?_
  dsimp only
  refine cW (fun H3=>Same H H3∧H3 l2=some (.lst (words.map V.str))∧H3 p3=some (.lst ([decide (0=j),decide (1=j),decide (2=j),decide (3=j)].map V.bl))) ⟨s2.updR hp3,Same.upd hp3 _ _ e2,ak⟩ fun H3 ⟨s3,e3,f3⟩=>?_
  have ea3:=s3 _ _ ea
  refine aK ?_
  refine aZ ?_
  refine ⟨_,rfl,?_⟩
  refine j7 ?_
  refine bZ ?_
  refine cP (i:=4) Z (by decide) ea3 rfl ?_
  refine bZ ?_
  refine cP (i:=5) Z (by decide) ea3 rfl ?_
  refine bZ ?_
  refine cP (i:=6) Z (by decide) ea3 rfl ?_
  refine ⟨(by show 3≤sizeLine; decide),fun p4 hp4=>⟨p3,p4,_,_,rfl,rfl,Same.upd hp4 _ _ f3,ak,(by show 7≤sizeLine; decide),fun l4 hl4=>?_⟩⟩
  refine aP ?_
  dsimp only
  refine cW (fun H4=>Same H H4∧H4 l2=some (.lst (words.map V.str))∧H4 l4=some (.lst ([decide (0=j),decide (1=j),decide (2=j),decide (3=j),decide (4=j),decide (5=j),decide (6=j)].map V.bl))) ⟨(s3.updR hp4).updR hl4,Same.upd hl4 _ _ (Same.upd hp4 _ _ e3),ak⟩ fun H4 ⟨s4,e4,f4⟩=>?_
  have ea4:=s4 _ _ ea
  refine aK ?_
  refine aZ ?_
  refine ⟨_,rfl,?_⟩
  refine j7 ?_
  refine bZ ?_
  refine cP (i:=7) Z (by decide) ea4 rfl ?_
  refine bZ ?_
  refine cP (i:=8) Z (by decide) ea4 rfl ?_
  refine bZ ?_
  refine cP (i:=9) Z (by decide) ea4 rfl ?_
  refine ⟨(by show 3≤sizeLine; decide),fun p5 hp5=>⟨l4,p5,_,_,rfl,rfl,Same.upd hp5 _ _ f4,ak,(by show 10≤sizeLine; decide),fun l5 hl5=>?_⟩⟩
  refine aP ?_
  dsimp only
  refine cW (fun H5=>Same H H5∧H5 l2=some (.lst (words.map V.str))∧H5 l5=some (.lst ([decide (0=j),decide (1=j),decide (2=j),decide (3=j),decide (4=j),decide (5=j),decide (6=j),decide (7=j),decide (8=j),decide (9=j)].map V.bl))) ⟨(s4.updR hp5).updR hl5,Same.upd hl5 _ _ (Same.upd hp5 _ _ e4),ak⟩ fun H5 ⟨s5,e5,f5⟩=>?_
  have ea5:=s5 _ _ ea
  refine aK ?_
  refine aZ ?_
  refine ⟨_,rfl,?_⟩
  refine j7 ?_
  refine bZ ?_
  refine cP (i:=10) Z (by decide) ea5 rfl ?_
  refine bZ ?_
  refine cP (i:=11) Z (by decide) ea5 rfl ?_
  refine bZ ?_
  refine cP (i:=12) Z (by decide) ea5 rfl ?_
  refine bZ ?_
  refine cP (i:=13) Z (by decide) ea5 rfl ?_
  refine ⟨(by show 4≤sizeLine; decide),fun p6 hp6=>⟨l5,p6,_,_,rfl,rfl,Same.upd hp6 _ _ f5,ak,(by show 14≤sizeLine; decide),fun l6 hl6=>?_⟩⟩
  refine aP ?_
  dsimp only
  refine cW (fun H6=>Same H H6∧H6 l2=some (.lst (words.map V.str))∧H6 l6=some (.lst ([decide (0=j),decide (1=j),decide (2=j),decide (3=j),decide (4=j),decide (5=j),decide (6=j),decide (7=j),decide (8=j),decide (9=j),decide (10=j),decide (11=j),decide (12=j),decide (13=j)].map V.bl))) ⟨(s5.updR hp6).updR hl6,Same.upd hl6 _ _ (Same.upd hp6 _ _ e5),ak⟩ fun H6 ⟨s6,e6,f6⟩=>?_
  have ea6:=s6 _ _ ea
  refine aK ?_
  refine aZ ?_
  refine ⟨_,rfl,?_⟩
  refine j7 ?_
  refine bZ ?_
  refine cP (i:=14) Z (by decide) ea6 rfl ?_
  refine bZ ?_
  refine cP (i:=15) Z (by decide) ea6 rfl ?_
  refine bZ ?_
  refine cP (i:=16) Z (by decide) ea6 rfl ?_
  refine ⟨(by show 3≤sizeLine; decide),fun p7 hp7=>⟨l6,p7,_,_,rfl,rfl,Same.upd hp7 _ _ f6,ak,(by show 17≤sizeLine; decide),fun l7 hl7=>?_⟩⟩
  refine aP ?_
  dsimp only
  refine cW (fun H7=>Same H H7∧H7 l2=some (.lst (words.map V.str))∧H7 l7=some (.lst ([decide (0=j),decide (1=j),decide (2=j),decide (3=j),decide (4=j),decide (5=j),decide (6=j),decide (7=j),decide (8=j),decide (9=j),decide (10=j),decide (11=j),decide (12=j),decide (13=j),decide (14=j),decide (15=j),decide (16=j)].map V.bl))) ⟨(s6.updR hp7).updR hl7,Same.upd hl7 _ _ (Same.upd hp7 _ _ e6),ak⟩ fun H7 ⟨s7,e7,f7⟩=>?_
  have ea7:=s7 _ _ ea
  have f7:H7 l7=some (.lst ((marks j).map V.bl)):=f7
  have lt:=Z.lt
  refine aK ?_
  refine ⟨_,rfl,.inl ⟨rfl,_,SqL.of f7⟩,l7,marks j,true,rfl,rfl,f7,rfl,_,rfl,?_⟩
  rw [sE j (by omega)]
  refine bf ?_
  refine ⟨_,rfl,a,Cs j,.ty "ValueError",true,rfl,ea7,Z.ex,.inr ⟨_,rfl,Z.ve⟩,_,rfl,?_⟩
  refine bf ?_
  refine bN ?_
  dsimp only
  refine ⟨_,rfl,l7,_,16,.bl (decide (16=j)),rfl,rfl,SqL.of f7,rfl,_,rfl,?_⟩
  rw [decide_eq_false (by omega:¬ 16=j)]
  refine bf ?_
  refine ⟨_,rfl,_,rfl,.inl ⟨rfl,_,SqL.of f7⟩,l7,marks j,true,j,rfl,rfl,f7,yK (by omega),fun i hi=>yL hi,l2,_,j,_,rfl,rfl,SqL.of e7,yM lt,(by show 1≤sizeLine; decide),fun p8 hp8=>?_⟩
  exact q p8 _ (s7.updR hp8) ak
end
noncomputable def toE (EX:Addr→Addr→Hp→Prop):XK:=fun e C H=>match e,C with
 | .ref a,some C'=>EX a C' H
 | _,_=>False
noncomputable def uZ (P:Program) (w:World) (K:PySem.W.Frag) (mg:Str→Option Value) (base:Heap) (kk:Nat) (H:Hp) (fl:Addr) (Qw:VK) (Ew:Addr→Addr→Hp→Prop):Prop :=
 ∃ (fd:FuncData) (body:Expr) (N:List Str) (vs:List V) (cs:List (Addr×Obj)),LamObj H fl fd∧LamAt fd body N∧(∀ b o,cs.lookup b=some o→H b=some (held o))∧(∀ x c,fd.closure.lookup x=some c→∃ o v,cs.lookup c=some o∧o.data=.cell v) ∧
  (∀ (i:Nat) (x:Str) (v:V),N[i]?=some x→vs[i]?=some v→∃ c u o,fd.closure.lookup x=some c∧RelV v u∧cs.lookup c=some o∧o.data=.cell (some u))∧vs.length=N.length ∧
  ∀ (A:Around) (outer:List Env) (Q':VK) (E':XK),Room kk A→(∀ v H1,Qw v H1→Q' v H1)→(∀ a C H1,Ew a C H1→E' (.ref a) (some C) H1) →
   ∃ te,(∀ s,PE (cxL P w K mg base N fd fl A outer s (er H cs) (fun e C H1=>NoC cs H1→E' e C (fz H1 cs))) body te)∧te (vs.map some) (er H cs) fun v H1=>NoC cs H1→Q' v (fz H1 cs)
theorem Ds {X:Cx} {i kk:Nat} {E:XK} {σ:L2.St} {H:Hp} {Q:VK} {fl:Addr} {Qw:VK} {Ew:Addr→Addr→Hp→Prop} (eσ:σ[i]?=some (some (.ref fl))) (L:uZ X.prog X.w X.K X.mg X.base kk H fl Qw Ew) (hr:Room kk X.A) (q1:∀ v H1,Qw v H1→Q v H1) (q2:∀ a C H1,Ew a C H1→E (.ref a) (some C) H1):Di X i E σ H Q:=by
 obtain ⟨fd,body,N,vs,cs,L,Z,fr,cell,val,hl,run⟩:=L
 obtain ⟨te,hte,q⟩:=run X.A X.stack Q E hr q1 q2
 exact ⟨fl,fd,body,N,vs,cs,te,eσ,L,Z,fr,cell,val,hl,hte,q⟩
noncomputable def Dt (P:Program) (w:World) (K:PySem.W.Frag) (mg:Str→Option Value) (base:Heap) (k:Nat) (x:Str) (ps:List Str) (sp:Sp):Prop :=
 ∃ f fd,FnOkU P w K mg base CX0 k f fd ps sp∧mg x=some (.ref f)∧PySem.W.keepIn K (.ref f)=true∧Binds K fd ps []
theorem Bf {X:Cx} {k j:Nat} {x:Str} {ps:List Str} {sp:Sp} {p pos:Pos} {e:Expr} {es:List Expr} {t:TA} (c:Dt X.prog X.w X.K X.mg X.base j x ps sp) (hr:RoomU k X.A) (hjk:j≤k) (hg:Gl X x) (ha:PA X (e :: es) t)
  (hdb:(x == ("__debug__" : Str))=false:=by decide) (he:starEach (e :: es) X.env=(false,eval e X.env) :: starEach es X.env:=by rfl) (hpl:(backTo pos (starEach es X.env)).any (·.1)=false:=by rfl) :
  PE X (.Call (.Name x p) (e :: es) [] pos) (qI sp [] E0 t):=by
 obtain ⟨f,fd,F,m,k',b⟩:=c
 exact yj F (hr.mono hjk) hg m k' b ha hdb he hpl
noncomputable def uf (P:Program) (w:World) (K:PySem.W.Frag) (mg:Str→Option Value) (base:Heap) (Cs:Nat→Addr) (kk:Nat):Sp:=fun vs H Q _=>∃ (fl:Addr) (Qw:VK) (Ew:Addr→Addr→Hp→Prop),vs=[.ref fl]∧uZ P w K mg base kk H fl Qw Ew ∧
 (∀ v H1,Qw v H1→∀ p,H1 p=none→p≠sysModules→Q (.ref p) (upd H1 p (.lst [v]))) ∧
 (∀ a C H1,Ew a C H1→∃ j,C=Cs j∧Kind K Cs j∧(H1 a=none→∀ p H2,Same H1 H2→H2 p=some (.tup [.str (words.getD j "")])→Q (.ref p) H2))
section
variable {P:Program} {w:World} {K:PySem.W.Frag} {mg:Str→Option Value} {base:Heap}
theorem sc44:FnScope ["_law_call","_law_found","_law_e"] ["_law_call"] (aD (top 60)):=⟨rfl,rfl,rfl,by decide +kernel,rfl,by decide +kernel,by decide +kernel⟩
theorem Bg {f:Addr} {Cs:Nat→Addr} {fd:FuncData} {kk:Nat} (F:Fun K "_law_said" "_law_said" (top 60) f fd) (L:Clss mg Cs) (c1:Dt P w K mg base 1 "_law_kind" ["_law_e"] (yJ K Cs)):FnOk P w K mg base CX0 (kk+2) f fd ["_law_call"] (uf P w K mg base Cs kk):=by
 refine F.ok sc44 (fun vs H Q E h=>?_) (fun cdv A outer s H vs Q E hr h=>?_)
 ·obtain ⟨fl,Qw,Ew,rfl,_⟩:=h
  rfl
 ·obtain ⟨fl,Qw,Ew,rfl,S,q1,q2⟩:=h
  refine ⟨_,aA (Dh (i:=2) (tb:=fun EX=>wY (Di (jB CX0 P w K mg base ["_law_call","_law_found","_law_e"] "_law_said" (aD (top 60)) f cdv A outer s H E).nox 0 (toE EX)) (gq 1)) L.wool rfl sc44.nd rfl rfl rfl rfl
    (fun pins xe EX W=>aB (bw (i:=1) sc44.nd rfl (Or.inl rfl) (Dj (E:=toE EX) (k:=kk) (hr.mono (by omega)) rfl (Or.inl rfl) W rfl)))
    (fun v=>aB (aN (Bf c1 (hr.toU.mark v) (by omega) rfl (aq (pv 2) aj)))))
   (aB (aN (pR (aq (pv 1) aj)))),?_⟩
  refine aK ?_
  refine aZ ?_
  refine Ds (kk:=kk) rfl S (hr.mono (by omega)) (fun v H1 hq=>?_) (fun a C H1 hE=>?_)
  ·refine aP ?_
   refine ⟨_,rfl,(by show 1≤sizeLine; decide),fun p hp np=>q1 v H1 hq p hp np⟩
  ·obtain ⟨j,rfl,Z,q3⟩:=q2 a C H1 hE
   refine ⟨Z.ca,fun σ' hσ fa=>⟨.ref a,?_,a,j,rfl,ak,Z,fun p H2 s2 e2=>q3 fa p H2 ((Same.upd fa).trans s2) e2⟩⟩
   rw [List.getElem?_set_self]
   have hσ:σ'.length=3:=hσ
   omega
end
open PySem.W in
noncomputable def yN (K:Frag) (L:List Addr) (j:Nat):Bool :=
 decide (j < 16) && ((clsIn K (L.getD j 0)).isSome && (findIn K (.ref (L.getD j 0)) "__getattribute__" == some (some (.builtin "BaseException.__getattribute__")) && (findIn K (.ref (L.getD j 0)) "__getattr__" == some none && (findIn K (.ref (L.getD j 0)) "__class__" == some (some (.builtin "object.__class__")) &&
 (specialIn K (.builtin "object.__class__") "__get__" == some (some (.builtin "getset_descriptor.__get__")) && (takesIn K (.builtin "object.__class__") == some true && (mroIn K (L.getD j 0) (.type "object") == some true && (mroIn K (L.getD j 0) (.type "BaseException") == some true &&
 (typeIn K (.ref (L.getD 17 0)) == some (.type "type") && ((clsIn K (L.getD 17 0)).isSome && (subIn K (.ref (L.getD 17 0)) (.type "BaseException") == some true && (subIn K (.ref (L.getD j 0)) (.ref (L.getD 17 0)) == some true &&
 ((List.range 17).all (fun i=>kitOne K (.ref (L.getD j 0)) (.ref (L.getD i 0)) == some (decide (i=j))) && kitOne K (.ref (L.getD j 0)) (.type "ValueError") == some true)))))))))))))
theorem yO {K:PySem.W.Frag} {L:List Addr} {j:Nat} (h:yN K L j=true):Kind K (fun i=>L.getD i 0) j:=by
 unfold yN at h
 simp only [Bool.and_eq_true,beq_iff_eq,decide_eq_true_eq] at h
 obtain ⟨h0,h1,h2,h3,h4,h5,h6,h7,h8,h9,h10,h11,h12,h13,h14⟩:=h
 refine ⟨h0,⟨h1,h2,h3,h4,h5,h6,h7,h8⟩,⟨h9,h10,h11,h12⟩,fun i hi=>?_,h14⟩
 have:=List.all_eq_true.mp h13 i (List.mem_range.mpr hi)
 simpa using this
theorem tab_mk {K:PySem.W.Frag} {x:Str} {f c T:Addr} {a1 a2:Value} {b1 b2:Option Addr} {s1 s2:Array (Option Value)} {fd:FuncData} {vs:Array Value} (h1:PySem.W.nsIn K mainGlobals x=some (some (.ref f))) (h2:K.lookup f=some ⟨a1,b1,.func fd,s1⟩) (h3:fd.code=.ref c) (h4:K.lookup c=some ⟨a2,b2,.fields vs,s2⟩) (h5:vs[11]?=some (.ref T)) :
  PySem.W.tabIn K x=some (c,T):=by
 unfold PySem.W.tabIn
 rw [h1]
 show (match K.lookup f with | some ⟨_,_,.func fd,_⟩=>_ | _=>none)=_
 rw [h2]
 show (match fd.code with | .ref c=>_ | _=>none)=_
 rw [h3]
 show (match K.lookup c with | some ⟨_,_,.fields vs,_⟩=>_ | _=>none)=_
 rw [h4]
 show (match vs[11]? with | some (.ref P)=>some (c,P) | _=>none)=_
 rw [h5]
section
variable {P:Program} {w:World} {K:PySem.W.Frag} {mg:Str→Option Value} {base:Heap}
end
end K04

set_option Elab.async false
set_option linter.all false
set_option maxRecDepth 100000
namespace K04
open PySem L2
noncomputable def d7 (r:List Int):PyData:=.tuple (r.map .int)
noncomputable def cI (rs:List (List Int)):PyData:=.tuple (rs.map d7)
noncomputable def fl (r:List Int) (i:Nat):Int:=r.getD i 0
noncomputable def okP (r:List Int):Prop:=r.length=6∧(0≤fl r 0∧fl r 0 < 8)∧(0≤fl r 1∧fl r 1 < 3)∧(0≤fl r 2∧fl r 2≤fl r 3∧fl r 3≤19)∧(1≤fl r 4∧fl r 4≤99)∧(0≤fl r 5∧fl r 5≤1000000)
noncomputable def dW (d:PyData):Bool:=bR d 0 12 && (items d).all fun x=>bJ x 5
noncomputable def rowsOf (d:PyData):List (List Int):=(items d).map fun x=>(items x).map intOf
theorem yP:∀ {ds:List PyData},(∀ x∈ds,bc x=true)→ds=(ds.map intOf).map PyData.int
 | [],_=>rfl
 | d :: ds,h=>by
  rw [List.map_cons,List.map_cons,← yP fun x hx=>h x (List.mem_cons_of_mem _ hx)]
  have:=h d List.mem_cons_self
  cases d with
  | int i=>rfl
  | _=>cases this
theorem jb {x:PyData} {n:Nat} (h:bJ x n=true):x=d7 ((items x).map intOf)∧((items x).map intOf).length=n:=by
 obtain ⟨h1,h2⟩:=jN h
 unfold bR at h1
 rw [Bool.and_eq_true,Bool.and_eq_true,decide_eq_true_eq,decide_eq_true_eq] at h1
 obtain ⟨ht,hl1,hl2⟩:=h1
 cases x with
 | tuple ds =>
  have hl1:(n:Int)≤ds.length:=hl1
  have hl2:(ds.length:Int)≤n:=hl2
  refine ⟨?_,by show (ds.map intOf).length=n; rw [List.length_map]; omega⟩
  exact congrArg PyData.tuple (yP h2)
 | _=>cases ht
theorem v5 {ds:List PyData} {n:Nat} (h:∀ x∈ds,bJ x n=true):ds=(ds.map fun x=>(items x).map intOf).map d7:=by
 induction ds with
 | nil=>rfl
 | cons d ds ih =>
  rw [List.map_cons,List.map_cons,← ih fun x hx=>h x (List.mem_cons_of_mem _ hx),← (jb (h d List.mem_cons_self)).1]
theorem iH {d:PyData} {f m:Int} (h:bR d f m=true):∃ ds,d=.tuple ds∧f≤ds.length∧(ds.length:Int)≤m:=by
 unfold bR at h
 rw [Bool.and_eq_true,Bool.and_eq_true,decide_eq_true_eq,decide_eq_true_eq] at h
 cases d with
 | tuple ds=>exact ⟨ds,rfl,h.2⟩
 | _=>cases h.1
theorem oU (r:List Int) (i:Nat) (h:i < r.length):at_ (d7 r) i=fl r i:=by
 show intOf ((r.map PyData.int).getD i .none)=r.getD i 0
 rw [List.getD_eq_getElem?_getD,List.getD_eq_getElem?_getD,List.getElem?_map,List.getElem?_eq_getElem h]
 rfl
theorem fK {d:PyData} (h:dU d=true):d=cI (rowsOf d)∧(rowsOf d).length≤10∧∀ r∈rowsOf d,okP r:=by
 unfold dU at h
 rw [Bool.and_eq_true] at h
 obtain ⟨ds,rfl,_,hl⟩:=iH h.1
 have h2:∀ x∈ds,gP x=true:=List.all_eq_true.mp h.2
 have h3:∀ x∈ds,bJ x 6=true:=fun x hx=>by
  have:=h2 x hx
  unfold gP at this
  rw [Bool.and_eq_true] at this
  exact this.1
 refine ⟨congrArg PyData.tuple (v5 (n:=6) h3),by show (ds.map _).length≤10; rw [List.length_map]; omega,fun r hr=>?_⟩
 obtain ⟨x,hx,rfl⟩:=List.mem_map.mp hr
 have hx:x∈ds:=hx
 obtain ⟨e,hl6⟩:=jb (n:=6) (h3 x hx)
 have:=h2 x hx
 unfold gP at this
 rw [Bool.and_eq_true] at this
 have p:=this.2
 rw [e] at p
 rw [oU _ 0 (by omega),oU _ 1 (by omega),oU _ 2 (by omega),oU _ 3 (by omega),oU _ 4 (by omega),oU _ 5 (by omega)] at p
 unfold mj at p
 simp only [Bool.and_eq_true,decide_eq_true_eq] at p
 obtain ⟨⟨a1,a2⟩,⟨b1,b2⟩,⟨c1,c2,c3⟩,⟨d1,d2⟩,e1,e2⟩:=p
 exact ⟨hl6,⟨a1,a2⟩,⟨b1,b2⟩,⟨c1,c2,c3⟩,⟨d1,d2⟩,e1,e2⟩
theorem fM {d:PyData} (h:dW d=true):d=cI (rowsOf d)∧(rowsOf d).length≤12∧∀ r∈rowsOf d,r.length=5:=by
 unfold dW at h
 rw [Bool.and_eq_true] at h
 obtain ⟨ds,rfl,_,hl⟩:=iH h.1
 have h3:∀ x∈ds,bJ x 5=true:=List.all_eq_true.mp h.2
 refine ⟨congrArg PyData.tuple (v5 (n:=5) h3),by show (ds.map _).length≤12; rw [List.length_map]; omega,fun r hr=>?_⟩
 obtain ⟨x,hx,rfl⟩:=List.mem_map.mp hr
 exact (jb (n:=5) (h3 x hx)).2
structure RowsAt (H:Hp) (a:Addr) (xs:List V) (rs:List (List Int)):Prop where
 e:H a=some (.tup xs)
 l:xs.length=rs.length
 g:∀ (i:Nat) (r:List Int),rs[i]?=some r→∃ t,xs[i]?=some (V.ref t)∧H t=some (.tup (r.map V.int))
theorem RowsAt.keep {H H':Hp} {a:Addr} {xs:List V} {rs:List (List Int)} (h:RowsAt H a xs rs) (k:∀ b l,H b=some (.tup l)→H' b=some (.tup l)):RowsAt H' a xs rs :=
 ⟨k _ _ h.e,h.l,fun i r e=>by
  obtain ⟨t,e1,e2⟩:=h.g i r e
  exact ⟨t,e1,k _ _ e2⟩⟩
theorem RowsAt.same {H H':Hp} {a:Addr} {xs:List V} {rs:List (List Int)} (h:RowsAt H a xs rs) (s:Same H H'):RowsAt H' a xs rs:=h.keep fun _ _ e=>s _ _ e
theorem sG {S:Addr→Prop} {H:Hp}:∀ {r:List Int} {xs:List V},IsThs S H xs (r.map .int)→xs=r.map V.int
 | [],_,.nil=>rfl
 | i :: r,_,.cons h t=>by
  cases h
  rw [sG (r:=r) t]
  rfl
theorem Du {S:Addr→Prop} {H:Hp} {v:V} {r:List Int} (h:IsTh S H v (d7 r)):∃ t,v=V.ref t∧H t=some (.tup (r.map V.int)):=by
 generalize hd:d7 r=d at h
 cases h with
 | @tup a xs ds e t =>
  injection hd with hd
  subst hd
  rw [sG t] at e
  exact ⟨a,rfl,e⟩
 | _=>cases hd
theorem f9 {S:Addr→Prop} {H:Hp} {v:V} {rs:List (List Int)} (h:IsTh S H v (cI rs)):∃ a xs,v=.ref a∧RowsAt H a xs rs:=by
 generalize hd:cI rs=d at h
 cases h with
 | @tup a xs ds e t =>
  injection hd with hd
  subst hd
  refine ⟨a,xs,rfl,e,by rw [t.length,List.length_map],fun i r hr=>?_⟩
  have hi:i < rs.length:=(List.getElem?_eq_some_iff.mp hr).1
  have hx:xs[i]?=some (xs[i]'(by rw [t.length,List.length_map]; exact hi)):=List.getElem?_eq_getElem _
  obtain ⟨d,h1,h2⟩:=t.get hx
  rw [List.getElem?_map,hr] at h1
  injection h1 with h1
  subst h1
  obtain ⟨t',e1,e2⟩:=Du h2
  exact ⟨t',by rw [hx,e1],e2⟩
 | _=>cases hd
theorem RowsAt.th {H:Hp} {a:Addr}:∀ {rs:List (List Int)} {xs:List V},RowsAt H a xs rs→IsTh (fun _=>False) H (.ref a) (cI rs):=by
 intro rs xs h
 refine .tup h.e ?_
 have gen:∀ (rs:List (List Int)) (xs:List V),xs.length=rs.length→(∀ (i:Nat) (r:List Int),rs[i]?=some r→∃ t,xs[i]?=some (V.ref t)∧H t=some (.tup (r.map V.int)))→IsThs (fun _=>False) H xs (rs.map d7):=by
  intro rs
  induction rs with
  | nil =>
   intro xs hl _
   have:xs=[]:=List.length_eq_zero_iff.mp hl
   subst this
   exact .nil
  | cons r rs ih =>
   intro xs hl hg
   cases xs with
   | nil=>simp at hl
   | cons x xs =>
    obtain ⟨t,e1,e2⟩:=hg 0 r rfl
    have e1:x=.ref t:=by simpa using e1
    subst e1
    exact .cons (.tup e2 (IsThs.ints r)) (ih xs (by simpa using hl) fun i r' e=>hg (i+1) r' (by simpa using e))
 exact gen rs xs h.l h.g
noncomputable def jP (L:List Int) (i:Int) (v:Int):List Int:=L.set i.toNat (L.getD i.toNat 0+v)
noncomputable def hstep (n y:Int) (L:List Int) (s:List Int):List Int:=if fl s 0=n∧fl s 4≤y then jP (jP L (fl s 1) (-(fl s 3))) (fl s 2) (fl s 3) else L
noncomputable def base0 (p:List Int):List Int:=(List.replicate 8 0).set (fl p 0).toNat (fl p 4)
noncomputable def bQ (p:List Int) (ss:List (List Int)) (n y:Int):List Int:=if fl p 2≤y∧y≤fl p 3 then ss.foldl (hstep n y) (base0 p) else List.replicate 8 0
noncomputable def qm (ps:List (List Int)) (s:List Int):List Int:=ps.getD (fl s 0).toNat []
noncomputable def nO (ps:List (List Int)) (s:List Int):Bool:=(decide (0≤fl s 0) && decide (fl s 0 < ps.length)) && ((decide (0≤fl s 1) && decide (fl s 1 < 8)) && ((decide (0≤fl s 2) && decide (fl s 2 < 8)) && ((!decide (fl s 1=fl s 2)) && ((decide (1≤fl s 3) && decide (fl s 3≤99)) && (decide (fl (qm ps s) 2≤fl s 4) && decide (fl s 4≤fl (qm ps s) 3))))))
noncomputable def years (a b:Int):List Int:=(List.range (b+1 - a).toNat).map fun (i:Nat)=>a+i
noncomputable def d9 (ps ss:List (List Int)) (s:List Int):Bool:=nO ps s && (years (fl s 4) (fl (qm ps s) 3)).all fun y=>decide (fl s 3≤(bQ (qm ps s) ss (fl s 0) y).getD (fl s 1).toNat 0)
noncomputable def un (ps ss:List (List Int)):Option Nat:=(List.range ss.length).find? fun i=>!d9 ps (ss.take i) (ss.getD i [])
theorem jo (L:List Int) (i v:Int):(jP L i v).length=L.length:=by unfold jP; rw [List.length_set]
theorem wJ (n y:Int) (L s:List Int):(hstep n y L s).length=L.length:=by
 unfold hstep
 split
 ·rw [jo,jo]
 ·rfl
theorem fD (p:List Int) (ss:List (List Int)) (n y:Int):(bQ p ss n y).length=8:=by
 unfold bQ
 split
 ·have:∀ (ss:List (List Int)) (L:List Int),L.length=8→(ss.foldl (hstep n y) L).length=8:=by
   intro ss
   induction ss with
   | nil=>exact fun L h=>h
   | cons s ss ih=>exact fun L h=>ih _ (by rw [wJ]; exact h)
  exact this ss _ (by unfold base0; rw [List.length_set,List.length_replicate])
 ·rw [List.length_replicate]
end K04

set_option Elab.async false
set_option linter.all false
set_option maxRecDepth 100000
set_option maxHeartbeats 1000000
namespace K04
open PySem L2
theorem oV {X:Cx}:DY X (fun x y H Q=>∃ p xs i v,x=.ref p∧y=.int i∧SqL X.K H p xs∧0≤i∧xs[i.toNat]?=some v∧Q v H):=by
 intro pins s σ H x y v u Q I rx ry h
 obtain ⟨p,xs,i,z,rfl,rfl,hq,h0,he,q⟩:=h
 cases rx
 obtain ⟨t,rfl⟩:=ry
 obtain ⟨its,r,pl,hz⟩:=I.list hq
 obtain ⟨w,ew,rw'⟩:=r.get he
 have hn:=jz
 have hl:=r.length
 have hi:=(List.getElem?_eq_some_iff.mp he).1
 exact PySem.wpAny_getItem_list pl.isList h0 (by omega) (by simpa using ew) ⟨z,H,I,rw',q⟩
theorem fj {p:List Int} (h:p.length=6):p=[fl p 0,fl p 1,fl p 2,fl p 3,fl p 4,fl p 5]:=by
 obtain ⟨a,b,c,d,e,f,rfl⟩:=Dl h
 rfl
theorem il {p:List Int} (h:p.length=5):p=[fl p 0,fl p 1,fl p 2,fl p 3,fl p 4]:=by
 obtain ⟨a,b,c,d,e,rfl⟩:=Ey h
 rfl
theorem qp (L:List Int) (i:Nat) (v:Int):(L.map V.int).set i (.int v)=(L.set i v).map V.int:=by rw [List.map_set]
theorem qu {L:List Int} {i:Nat} (h:i < L.length):(L.map V.int)[i]?=some (.int (L.getD i 0)):=by
 rw [List.getElem?_map,List.getElem?_eq_getElem h,List.getD_eq_getElem?_getD,List.getElem?_eq_getElem h]
 rfl
theorem v6 {n:Nat} {i:Int} (h0:0≤i) (h1:i < n):ixN n i=some i.toNat:=by
 unfold ixN
 rw [if_pos h0,if_pos h1]
noncomputable def okS (s:List Int):Prop:=s.length=5∧(0≤fl s 1∧fl s 1 < 8)∧(0≤fl s 2∧fl s 2 < 8)
noncomputable def ug:Sp:=fun vs H Q _=>∃ ap xp ps as_ xs ss n y,vs=[.ref ap,.ref as_,.int n,.int y]∧RowsAt H ap xp ps∧RowsAt H as_ xs ss∧0≤n∧n < ps.length∧okP (ps.getD n.toNat [])∧ss.length≤12∧(∀ s∈ss,okS s) ∧
 ∀ l H',Same H H'→H' l=some (.lst ((bQ (ps.getD n.toNat []) ss n y).map V.int))→Q (.ref l) H'
structure MS (mg:Str→Option Value):Prop where
 sales:∃ t,mg "MOST_SALES" = some (.int 12 t)
section
variable {P:Program} {w:World} {K:PySem.W.Frag} {mg:Str→Option Value} {base:Heap}
theorem Fe:FnScope ["thing"] ["thing"] (aD (top 38)):=⟨rfl,rfl,rfl,by decide +kernel,rfl,by decide +kernel,by decide +kernel⟩
theorem qw {f:Addr} {fd:FuncData} (F:Fun K "are_sales" "are_sales" (top 38) f fd) (T:Mg mg) (N:MS mg) (c1:Cal P w K mg base 2 "are_wholes" ["thing","many"] (Ar bJ)) (c2:Cal P w K mg base 1 "is_tuple_of" ["thing","fewest","most"] (km bR)) :
  FnOk P w K mg base CX0 3 f fd ["thing"] (spT dW):=by
 refine F.ok Fe (fun vs H Q E h=>?_) (fun cdv A outer s H vs Q E hr h=>?_)
 ·obtain ⟨S,v,d,rfl,_⟩:=h
  rfl
 ·obtain ⟨S,v,d,rfl,th,hz,q⟩:=h
  obtain ⟨t3,e3⟩:=N.sales
  refine ⟨_,aB (aN (bU (aH c2 hr (by decide) rfl (aq (pv 0) (aq ao (aq (cj (v:=.int 12) rfl e3 ⟨_,rfl⟩) aj))))
   (dB (aJ (cD rfl) rfl T.all boot_all (aq (cM ["part"] [none] rfl (fH (pv 0))
    (fun C fp pins s₂ H₂=>⟨aC (i:=0) (nd1 _) rfl (Or.inl rfl),cJ,aH c1 hr (by decide) rfl (aq (pv 0) (aq ao aj))⟩) (fun C=>trivial) ⟨rfl,rfl,rfl,rfl⟩) aj))))),?_⟩
  refine ⟨_,rfl,S,v,d,0,12,rfl,th,hz,fun H1 s1=>⟨_,rfl,?_⟩⟩
  have th1:=th.same s1
  have fin:=fun H' (s:Same H H')=>q H' s
  unfold dW at fin
  cases e:bR d 0 12 with
  | false =>
   rw [e] at fin
   exact bf (fin _ s1)
  | true =>
   rw [e] at fin
   refine aY ?_
   cases th1 with
   | @tup a xs ds ea r=>exact c7 (fun x=>bJ x 5) rfl ea r (cN r hz) (fun v d H2 Q2 hm s2 t2 q2=>⟨_,rfl,S,v,d,5,rfl,t2,eX hm hz,q2⟩) fun H2 s2=>fin _ (s1.trans s2)
   | _=>cases e
theorem sc23s:FnScope ["promises","sales","number","year","holder","sort","first","last","sacks","price","held","promise","seller","buyer","sold","since"] ["promises","sales","number","year"] (aD (top 39)):=⟨rfl,rfl,rfl,by decide +kernel,rfl,by decide +kernel,by decide +kernel⟩
theorem Bh {f:Addr} {fd:FuncData} (F:Fun K "held_in" "held_in" (top 39) f fd) (N:Nums mg):FnOk P w K mg base CX0 1 f fd ["promises","sales","number","year"] ug:=by
 refine F.ok sc23s (fun vs H Q E h=>?_) (fun cdv A outer s H vs Q E hr h=>?_)
 ·obtain ⟨ap,xp,ps,as_,xs,ss,n,y,rfl,_⟩:=h
  rfl
 ·obtain ⟨ap,xp,ps,as_,xs,ss,n,y,rfl,rp,rs,n0,n1,okp,hl,oks,q⟩:=h
  obtain ⟨t1,e1⟩:=N.holders
  refine ⟨_,aA (dC (bh bx (pv 0) (pv 2) (fun _ _=>rfl)) (cR rfl (aF (aC (i:=4) sc23s.nd rfl (Or.inl rfl)) (aF (aC (i:=5) sc23s.nd rfl (Or.inl rfl)) (aF (aC (i:=6) sc23s.nd rfl (Or.inl rfl))
    (aF (aC (i:=7) sc23s.nd rfl (Or.inl rfl)) (aF (aC (i:=8) sc23s.nd rfl (Or.inl rfl)) (aF (aC (i:=9) sc23s.nd rfl (Or.inl rfl)) bV))))))))
   (aA (bw (i:=10) sc23s.nd rfl (Or.inl rfl) (aX CJ (eQ (aq ao aj)) (cj (v:=.int 8) rfl e1 ⟨_,rfl⟩)))
   (aA (bF (bA (dZ bH bH (pv 6) (pv 3) (pv 7))) (aB (aN (pv 10))) aV)
   (aA (dC (pv 8) (ph (pv 10) (pv 4) set_list))
   (aA (dF PassesOwn.never rfl (fH (pv 1)) (cR rfl (aF (aC (i:=11) sc23s.nd rfl (Or.inl rfl)) (aF (aC (i:=12) sc23s.nd rfl (Or.inl rfl)) (aF (aC (i:=13) sc23s.nd rfl (Or.inl rfl))
     (aF (aC (i:=14) sc23s.nd rfl (Or.inl rfl)) (aF (aC (i:=15) sc23s.nd rfl (Or.inl rfl)) bV))))))
    (aB (bF (PW.pt (wQ (bD iJ (pv 11) (pv 2) (bj _)) (ur (bD bH (pv 15) (pv 3) (bj _)))))
     (aA (ut (pv 10) (pv 12) oV (pv 14) Cr set_list) (aB (ut (pv 10) (pv 13) oV (pv 14) Cq set_list))) aV)))
   (aB (aN (pv 10))))))),?_⟩
  obtain ⟨p,hp⟩:∃ p,ps[n.toNat]?=some p:=⟨_,List.getElem?_eq_getElem (by omega)⟩
  have ep:ps.getD n.toNat []=p:=by rw [List.getD_eq_getElem?_getD,hp]; rfl
  rw [ep] at okp q
  obtain ⟨t,ex,et⟩:=rp.g _ _ hp
  have p6:=fj okp.1
  obtain ⟨l6,⟨a1,a2⟩,b,⟨c1,c2,c3⟩,⟨d1,d2⟩,ee⟩:=id okp
  have hat:atI xp n=some (.ref t):=by
   have:=gC ex
   rw [show ((n.toNat:Nat):Int)=n by omega] at this
   exact this
  rw [p6] at et
  refine aK ?_
  refine ⟨_,rfl,_,rfl,ap,xp,n,.ref t,rfl,rfl,SqT.of rp.e,hat,?_⟩
  refine ⟨t,_,rfl,SqT.of et,rfl,_,_,rfl,_,_,rfl,_,_,rfl,_,_,rfl,_,_,rfl,_,_,rfl,rfl,?_⟩
  dsimp only
  refine aK ?_
  refine aZ ?_
  refine ⟨(by show 1≤sizeLine; decide),fun l0 hl0=>⟨l0,8,_,rfl,rfl,ak,by decide,by decide,(by show 1 * 8≤sizeLine; decide),fun l1 hl1=>?_⟩⟩
  have s1:Same H (upd (upd H l0 (.lst [V.int 0])) l1 (.lst (List.replicate (8:Int).toNat [V.int 0]).flatten)):=(Same.upd hl0).updR hl1
  have el1:upd (upd H l0 (.lst [V.int 0])) l1 (.lst (List.replicate (8:Int).toNat [V.int 0]).flatten) l1=some (.lst ((List.replicate 8 (0:Int)).map V.int)):=ak
  have nl1:H l1=none:=(Same.upd hl0).free hl1
  generalize upd (upd H l0 (.lst [V.int 0])) l1 (.lst (List.replicate (8:Int).toNat [V.int 0]).flatten)=H1 at s1 el1 ⊢
  refine aP ?_
  dsimp only
  refine aK ?_
  refine bK (p:=fun i j=>decide (i≤j)) (q:=fun i j=>decide (i≤j)) (i:=fl p 2) (j:=y) (k:=fl p 3) (cU rfl) (cU rfl) (cU rfl) _ ⟨_,rfl,?_⟩
  by_cases hin:fl p 2≤y∧y≤fl p 3
  ·rw [decide_eq_true hin.1,decide_eq_true hin.2]
   refine bf ?_
   refine bN ?_
   dsimp only
   refine aK ?_
   refine ⟨_,rfl,_,rfl,_,rfl,l1,_,fl p 0,(fl p 0).toNat,rfl,rfl,el1,v6 a1 (by show fl p 0 < 8; exact a2),?_⟩
   rw [qp]
   dsimp only
   refine aK ?_
   have hs0:as_≠l1:=aG rs.e nl1
   refine ⟨_,rfl,as_,rfl,⟨xs,SqT.of (by rw [az hs0]; exact s1 _ _ rs.e)⟩,?_⟩
   have kp0:∀ {Hc:Hp} {o:HO},Same H Hc→Same H (upd Hc l1 o):=fun {Hc o} sm b u e=>by
    rw [az (aG e nl1)]
    exact sm _ _ e
   refine zP (xs:=xs) (fun i σ Hc=>∃ x11 x12 x13 x14 x15,σ=[some (.ref ap),some (.ref as_),some (.int n),some (.int y),some (.int (fl p 0)),some (.int (fl p 1)),some (.int (fl p 2)),some (.int (fl p 3)),some (.int (fl p 4)),some (.int (fl p 5)),some (.ref l1),x11,x12,x13,x14,x15]∧Same H Hc∧Hc l1=some (.lst (((ss.take i).foldl (hstep n y) (base0 p)).map V.int))) ?_ ?_ ?_ ?_
   ·exact ⟨none,none,none,none,none,rfl,kp0 s1,ak⟩
   ·rintro i σ Hc hi ⟨x11,x12,x13,x14,x15,rfl,sm,el⟩
    exact SqT.of (sm _ _ rs.e)
   ·rintro i x σ Hc hx ⟨x11,x12,x13,x14,x15,rfl,sm,el⟩
    have hi:i < ss.length:=by
     have:=(List.getElem?_eq_some_iff.mp hx).1
     rw [rs.l] at this
     exact this
    obtain ⟨tr,ex2,etr⟩:=rs.g i ss[i] (List.getElem?_eq_getElem hi)
    have:x=.ref tr:=by
     rw [hx] at ex2
     exact Option.some.inj ex2
    subst this
    obtain ⟨o1,⟨o2,o3⟩,o4,o5⟩:=oks ss[i] (List.getElem_mem hi)
    have s5:=il o1
    have etk:ss.take (i+1)=ss.take i++[ss[i]]:=by rw [List.take_add_one,List.getElem?_eq_getElem hi]; rfl
    have efold:(ss.take (i+1)).foldl (hstep n y) (base0 p)=hstep n y ((ss.take i).foldl (hstep n y) (base0 p)) ss[i]:=by rw [etk,List.foldl_append]; rfl
    rw [efold]
    generalize hL:(ss.take i).foldl (hstep n y) (base0 p)=L at el ⊢
    have lL:L.length=8:=by
     have:=fD p (ss.take i) n y
     unfold bQ at this
     rw [if_pos hin,hL] at this
     exact this
    generalize ss[i]=r at etr s5 o2 o3 o4 o5 ⊢
    rw [s5] at etr
    refine ⟨tr,_,rfl,SqT.of (sm _ _ etr),rfl,_,_,rfl,_,_,rfl,_,_,rfl,_,_,rfl,_,_,rfl,rfl,?_⟩
    refine ⟨_,rfl,_,rfl,rfl,_,rfl,?_⟩
    by_cases hn:fl r 0=n
    ·rw [decide_eq_true (show V.int (fl r 0)=V.int n by rw [hn])]
     refine aY ?_
     refine ⟨_,rfl,_,rfl,_,_,rfl,rfl,_,rfl,?_⟩
     by_cases hy:fl r 4≤y
     ·rw [decide_eq_true hy]
      refine aY ?_
      have e1:hstep n y L r=jP (jP L (fl r 1) (-(fl r 3))) (fl r 2) (fl r 3):=if_pos ⟨hn,hy⟩
      rw [e1]
      refine aK ?_
      refine ⟨_,rfl,_,rfl,l1,_,fl r 1,_,rfl,rfl,SqL.of el,o2,qu (by omega),_,rfl,_,_,rfl,rfl,l1,_,fl r 1,(fl r 1).toNat,rfl,rfl,el,v6 o2 (by rw [List.length_map]; omega),?_⟩
      rw [qp]
      have e2:L.set (fl r 1).toNat (L.getD (fl r 1).toNat 0 - fl r 3)=jP L (fl r 1) (-(fl r 3)):=by
       unfold jP
       rw [Int.sub_eq_add_neg]
      rw [e2]
      generalize hL1:jP L (fl r 1) (-(fl r 3))=L1
      have lL1:L1.length=8:=by rw [← hL1,jo]; exact lL
      refine ⟨_,rfl,_,rfl,l1,_,fl r 2,_,rfl,rfl,SqL.of ak,o4,qu (by omega),_,rfl,_,_,rfl,rfl,l1,_,fl r 2,(fl r 2).toNat,rfl,rfl,ak,v6 o4 (by rw [List.length_map]; omega),?_⟩
      rw [qp]
      exact ⟨_,_,_,_,_,rfl,kp0 (kp0 sm),ak⟩
     ·rw [decide_eq_false hy]
      refine bf ?_
      have e1:hstep n y L r=L:=if_neg fun z=>hy z.2
      rw [e1]
      exact ⟨_,_,_,_,_,rfl,sm,el⟩
    ·rw [decide_eq_false (fun z:V.int (fl r 0)=V.int n=>hn (by injection z))]
     refine bf (bf ?_)
     have e1:hstep n y L r=L:=if_neg fun z=>hn z.1
     rw [e1]
     exact ⟨_,_,_,_,_,rfl,sm,el⟩
   ·rintro σ Hc ⟨x11,x12,x13,x14,x15,rfl,sm,el⟩
    rw [rs.l,List.take_length] at el
    refine ⟨_,rfl,q _ _ sm ?_⟩
    unfold bQ
    rw [if_pos hin]
    exact el
  ·have hb:(decide (fl p 2≤y) && decide (y≤fl p 3))=false:=by
    cases e:(decide (fl p 2≤y) && decide (y≤fl p 3)) with
    | false=>rfl
    | true =>
     rw [Bool.and_eq_true,decide_eq_true_eq,decide_eq_true_eq] at e
     exact absurd e hin
   rw [hb]
   refine aY ⟨_,rfl,q _ _ s1 ?_⟩
   unfold bQ
   rw [if_neg hin]
   exact el1
end
end K04

set_option Elab.async false
set_option linter.all false
set_option maxRecDepth 100000
set_option maxHeartbeats 1000000
namespace K04
open PySem L2
theorem sH {te:TE} {lo:Int} {n:Nat} {σ0:St} {j:Nat} {H0:Hp} {Fin:List V→Hp→Prop} (Pv:List V→Hp→Prop) (h0:Pv [] H0) (hz:n < sizeLine)
  (step:∀ i ys H Q,i < n→ys.length=i→Pv ys H→(∀ y H',Pv (ys++[y]) H'→Q y H')→te (σ0.set j (some (.int (lo+i)))) H Q)
  (fin:∀ ys H,ys.length=n→Pv ys H→Fin ys H):lF (Itr lo n) (gq j) xH te Fin σ0 H0:=by
 refine ⟨fun i m ys σ H=>m=n - i∧i≤n∧ys.length=i∧(∀ o,σ.set j o=σ0.set j o)∧Pv ys H,⟨_,rfl,Nat.zero_le _,rfl,fun _=>rfl,h0⟩,?_⟩
 rintro i m ys σ H ⟨rfl,hi,hy,hσ,p⟩
 refine ⟨by omega,?_⟩
 by_cases hlt:i < n
 ·refine .inr ⟨hlt,fun x H' y=>?_⟩
  obtain ⟨e,e2⟩:=y
  subst e
  subst e2
  show te (σ.set j (some (.int (lo+i)))) H' _
  rw [hσ]
  exact step i ys H' _ hlt hy p fun y H2 p2=>⟨n - (i+1),by omega,rfl,hlt,by rw [List.length_append,hy]; rfl,fun o=>by rw [List.set_set],p2⟩
 ·have e:i=n:=by omega
  subst e
  exact .inl ⟨Nat.le_refl _,fin ys H hy p⟩
theorem Ff {σ:St} {H:Hp} {ta tb:TE} {i j:Int} (a:Ev σ H ta (.int i)) (b:Ev σ H tb (.int j)):Ev σ H (tOp rNe ta tb) (.bl (!decide (i=j))):=fun Q q=>a _ (b _ ⟨rfl,by
 have ed:decide (V.int i=V.int j)=decide (i=j):=decide_eq_decide.mpr ⟨fun z=>by injection z,fun z=>by rw [z]⟩
 rw [ed]
 exact q⟩)
theorem jQ (a b:Int):(years a b).length=(b+1 - a).toNat:=by unfold years; rw [List.length_map,List.length_range]
theorem jR {a b:Int} {i:Nat} (h:i < (b+1 - a).toNat):(years a b)[i]?=some (a+i):=by
 unfold years
 rw [List.getElem?_map,List.getElem?_range h]
 rfl
theorem oW {α β:Type} {l:List α} {f:α→β} {ys:List β} {x:α} (ey:ys=(l.take ys.length).map f) (hx:l[ys.length]?=some x):ys++[f x]=(l.take (ys++[f x]).length).map f:=by
 rw [List.length_append,List.length_singleton,List.take_add_one,hx,List.map_append,← ey]
 rfl
noncomputable def yQ:Sp:=fun vs H Q _=>∃ ap xp ps t s,vs=[.ref ap,.ref t]∧RowsAt H ap xp ps∧(∀ r∈ps,okP r)∧H t=some (.tup (s.map V.int))∧s.length=5∧Q (.bl (nO ps s)) H
noncomputable def v7:Sp:=fun vs H Q _=>∃ ap xp ps as_ xs ss t s,vs=[.ref ap,.ref as_,.ref t]∧RowsAt H ap xp ps∧(∀ r∈ps,okP r)∧RowsAt H as_ xs ss∧ss.length≤12∧(∀ s∈ss,okS s)∧H t=some (.tup (s.map V.int))∧s.length=5∧∀ H',Same H H'→Q (.bl (d9 ps ss s)) H'
noncomputable def unV:Option Nat→V
 | none=>.non
 | some i=>.int i
noncomputable def v9:Sp:=fun vs H Q _=>∃ S v d S' u e,vs=[v,u]∧IsTh S H v d∧IsTh S' H u e∧dU d=true∧dW e=true∧sz d≤4000∧sz e≤4000∧∀ H',Same H H'→Q (unV (un (rowsOf d) (rowsOf e))) H'
theorem fu {ps:List (List Int)} {n:Int} (h:∀ r∈ps,okP r) (h0:0≤n) (h1:n < ps.length):∃ p,ps[n.toNat]?=some p∧ps.getD n.toNat []=p∧okP p:=by
 have hn:n.toNat < ps.length:=by omega
 refine ⟨ps[n.toNat],List.getElem?_eq_getElem hn,?_,h _ (List.getElem_mem hn)⟩
 rw [List.getD_eq_getElem?_getD,List.getElem?_eq_getElem hn]
 rfl
theorem iI {H:Hp} {a:Addr} {xs:List V} {rs:List (List Int)} {n:Int} {r:List Int} (h:RowsAt H a xs rs) (h0:0≤n) (e:rs[n.toNat]?=some r):∃ t,atI xs n=some (.ref t)∧H t=some (.tup (r.map V.int)):=by
 obtain ⟨t,e1,e2⟩:=h.g _ _ e
 refine ⟨t,?_,e2⟩
 have:=gC e1
 rw [show ((n.toNat:Nat):Int)=n by omega] at this
 exact this
section
variable {P:Program} {w:World} {K:PySem.W.Frag} {mg:Str→Option Value} {base:Heap}
theorem sc24s:FnScope ["promises","sale","number","seller","buyer","sacks","year","holder","sort","first","last","due","price"] ["promises","sale"] (aD (top 40)):=⟨rfl,rfl,rfl,by decide +kernel,rfl,by decide +kernel,by decide +kernel⟩
theorem Bj {f:Addr} {fd:FuncData} (F:Fun K "is_sale_between" "is_sale_between" (top 40) f fd) (T:Mg mg) (N:Nums mg):FnOk P w K mg base CX0 1 f fd ["promises","sale"] yQ:=by
 refine F.ok sc24s (fun vs H Q E h=>?_) (fun cdv A outer s H vs Q E hr h=>?_)
 ·obtain ⟨ap,xp,ps,t,r,rfl,_⟩:=h
  rfl
 ·obtain ⟨ap,xp,ps,t,r,rfl,rp,okp,et,h5,q⟩:=h
  obtain ⟨t1,e1⟩:=N.holders
  obtain ⟨t4,e4⟩:=N.sacks
  refine ⟨_,aA (dC (pv 1) (cR rfl (aF (aC (i:=2) sc24s.nd rfl (Or.inl rfl)) (aF (aC (i:=3) sc24s.nd rfl (Or.inl rfl)) (aF (aC (i:=4) sc24s.nd rfl (Or.inl rfl)) (aF (aC (i:=5) sc24s.nd rfl (Or.inl rfl)) (aF (aC (i:=6) sc24s.nd rfl (Or.inl rfl)) bV)))))))
   (aA (bF (bA (dZ bH lB ao (pv 2) (aJ aQ rfl T.len PySem.boot_len (aq (pv 0) aj)))) (aB (aN dw)) aV)
   (aA (dC (bh bx (pv 0) (pv 2) (fun _ _=>rfl)) (cR rfl (aF (aC (i:=7) sc24s.nd rfl (Or.inl rfl)) (aF (aC (i:=8) sc24s.nd rfl (Or.inl rfl)) (aF (aC (i:=9) sc24s.nd rfl (Or.inl rfl))
    (aF (aC (i:=10) sc24s.nd rfl (Or.inl rfl)) (aF (aC (i:=11) sc24s.nd rfl (Or.inl rfl)) (aF (aC (i:=12) sc24s.nd rfl (Or.inl rfl)) bV))))))))
   (aB (aN (bU (cC bH lB ao (pv 3) (cj (v:=.int 8) rfl e1 ⟨_,rfl⟩)) (bU (cC bH lB ao (pv 4) (cj (v:=.int 8) rfl e1 ⟨_,rfl⟩)) (bU (eZ nW (pv 3) (pv 4) (bj _))
    (bU (cC bH bH ao (pv 5) (cj (v:=.int 99) rfl e4 ⟨_,rfl⟩)) (dB (cC bH bH (pv 9) (pv 6) (pv 10))))))))))),?_⟩
  rw [il h5] at et
  refine aK ?_
  refine ⟨_,rfl,t,_,rfl,SqT.of et,rfl,_,_,rfl,_,_,rfl,_,_,rfl,_,_,rfl,_,_,rfl,rfl,?_⟩
  dsimp only
  refine aK ?_
  refine bK (p:=fun i j=>decide (i≤j)) (q:=fun i j=>decide (i < j)) (i:=0) (j:=fl r 0) (k:=(xp.length:Int)) dq (cU rfl) (fun Q h=>⟨_,rfl,ap,xp,rfl,.inr (SqT.of rp.e),h⟩) _ ⟨_,rfl,?_⟩
  have fin:=q
  unfold nO at fin
  rw [rp.l]
  cases e:(decide (0≤fl r 0) && decide (fl r 0 < ps.length)) with
  | false =>
   rw [e] at fin
   exact aY fin
  | true =>
   rw [e] at fin
   rw [Bool.and_eq_true,decide_eq_true_eq,decide_eq_true_eq] at e
   obtain ⟨p,hp,ep,op⟩:=fu okp e.1 e.2
   obtain ⟨tp,hat,etp⟩:=iI rp e.1 hp
   rw [fj op.1] at etp
   refine bf ?_
   refine bN ?_
   dsimp only
   refine aK ?_
   refine ⟨_,rfl,_,rfl,ap,xp,_,.ref tp,rfl,rfl,SqT.of rp.e,hat,?_⟩
   refine ⟨tp,_,rfl,SqT.of etp,rfl,_,_,rfl,_,_,rfl,_,_,rfl,_,_,rfl,_,_,rfl,_,_,rfl,rfl,?_⟩
   have epr:qm ps r=p:=ep
   rw [epr] at fin
   exact gH (bK dq (cU rfl) dq) (fun _=>gH (bK dq (cU rfl) dq) fun _=>gH (Ff (cU rfl) (cU rfl)) fun _=>gH (bK dq (cU rfl) dq) fun _=>bK (cU rfl) (cU rfl) (cU rfl)) _ fin
theorem sc25s:FnScope ["promises","ahead","sale","number","seller","buyer","sacks","year","last"] ["promises","ahead","sale"] (aD (top 41)):=⟨rfl,rfl,rfl,by decide +kernel,rfl,by decide +kernel,by decide +kernel⟩
theorem Gk:(["at","promises","ahead","number","seller","sacks"]:List Str).Nodup:=by decide +kernel
theorem yR {f:Addr} {fd:FuncData} (F:Fun K "sale_holds" "sale_holds" (top 41) f fd) (T:Mg mg) (Tr:mg "range" = none) (c1:Cal P w K mg base 1 "is_sale_between" ["promises","sale"] yQ) (c2:Cal P w K mg base 1 "held_in" ["promises","sales","number","year"] ug) :
  FnOk P w K mg base CX0 2 f fd ["promises","ahead","sale"] v7:=by
 refine F.ok sc25s (fun vs H Q E h=>?_) (fun cdv A outer s H vs Q E hr h=>?_)
 ·obtain ⟨ap,xp,ps,as_,xs,ss,t,r,rfl,_⟩:=h
  rfl
 ·obtain ⟨ap,xp,ps,as_,xs,ss,t,r,rfl,rp,okp,rs,hl,oks,et,h5,q⟩:=h
  refine ⟨_,aA (bF (bA (bG (aH c1 hr (Nat.le_refl _) rfl (aq (pv 0) (aq (pv 2) aj))))) (aB (aN dw)) aV)
   (aA (dC (pv 2) (cR rfl (aF (aC (i:=3) sc25s.nd rfl (Or.inr rfl)) (aF (aC (i:=4) sc25s.nd rfl (Or.inr rfl)) (aF (aC (i:=5) sc25s.nd rfl (Or.inl rfl)) (aF (aC (i:=6) sc25s.nd rfl (Or.inr rfl)) (aF (aC (i:=7) sc25s.nd rfl (Or.inl rfl)) bV)))))))
   (aA (bw (i:=8) sc25s.nd rfl (Or.inl rfl) (bh bx (bh bx (pv 0) (pv 3) (fun _ _=>rfl)) ao (fun _ _=>rfl)))
   (aB (aN (aJ (cD rfl) rfl T.all boot_all (aq (cM ["at","promises","ahead","number","seller","sacks"] [none,some 0,some 1,some 3,some 4,some 6] rfl (iw rfl Tr (aq (pv 7) (aq (aX bT (pv 8) ao) aj)))
    (fun C fp pins s₂ H₂=>⟨aC (i:=0) Gk rfl (Or.inl rfl),cJ,eZ xn (bh (rZ (K:=K) rfl) (aH c2 hr (Nat.le_refl _) rfl (aq (pv 1) (aq (pv 2) (aq (pv 3) (aq (pv 0) aj))))) (pv 4) (fun _ _=>rfl)) (pv 5) (bj _)⟩)
    (fun C=>⟨⟨rfl,.inl rfl,rfl,.inl rfl⟩,⟨rfl,.inl rfl,rfl,.inl rfl⟩,⟨rfl,.inl rfl,rfl,.inl rfl⟩,⟨rfl,.inl rfl,rfl,.inl rfl⟩,⟨rfl,.inl rfl,rfl,.inl rfl⟩,trivial⟩) ⟨rfl,rfl,rfl,rfl⟩) aj)))))),?_⟩
  have fin:=q
  unfold d9 at fin
  refine aK ?_
  refine ⟨_,rfl,_,rfl,ap,xp,ps,t,r,rfl,rp,okp,et,h5,_,rfl,?_⟩
  cases e:nO ps r with
  | false =>
   rw [e] at fin
   exact aY (fin _ (Same.refl _))
  | true =>
   rw [e] at fin
   refine bf ?_
   refine bN ?_
   dsimp only
   refine aK ?_
   unfold nO at e
   simp only [Bool.and_eq_true,decide_eq_true_eq] at e
   obtain ⟨⟨n0,n1⟩,⟨b0,b1⟩,_,_,⟨k0,k1⟩,y0,y1⟩:=e
   obtain ⟨p,hp,ep,op⟩:=fu okp n0 n1
   have epr:qm ps r=p:=ep
   rw [epr] at fin y0 y1
   obtain ⟨tp,hat,etp⟩:=iI rp n0 hp
   rw [il h5] at et
   rw [fj op.1] at etp
   obtain ⟨_,_,_,⟨g1,g2,g3⟩,_⟩:=id op
   refine ⟨_,rfl,t,_,rfl,SqT.of et,rfl,_,_,rfl,_,_,rfl,_,_,rfl,_,_,rfl,_,_,rfl,rfl,?_⟩
   dsimp only
   refine aK ?_
   refine aZ ?_
   refine ⟨_,rfl,_,rfl,ap,xp,_,.ref tp,rfl,rfl,SqT.of rp.e,hat,tp,_,3,.int (fl p 3),rfl,rfl,SqT.of etp,rfl,?_⟩
   refine aP ?_
   dsimp only
   refine ⟨_,rfl,_,rfl,_,_,rfl,rfl,fl r 4,fl p 3+1,rfl,⟨by omega,by omega,by omega,by omega⟩,?_⟩
   refine sH (fun ys Hc=>Same H Hc∧ys=((years (fl r 4) (fl p 3)).take ys.length).map fun y=>V.bl (decide (fl r 3≤(bQ p ss (fl r 0) y).getD (fl r 1).toNat 0))) ⟨Same.refl _,rfl⟩ (by rw [sizeLine_eq]; omega) ?_ ?_
   ·rintro i ys Hc Qc hi hy ⟨sc,ey⟩ qc
    refine ⟨_,rfl,_,rfl,_,rfl,_,rfl,ap,xp,ps,as_,xs,ss,fl r 0,fl r 4+i,rfl,rp.same sc,rs.same sc,n0,n1,by rw [ep]; exact op,hl,oks,fun l H' s' el=>?_⟩
    rw [ep] at el
    refine ⟨_,rfl,l,_,fl r 1,.int ((bQ p ss (fl r 0) (fl r 4+i)).getD (fl r 1).toNat 0),rfl,rfl,SqL.of el,?_,_,rfl,_,_,rfl,rfl,qc _ _ ⟨sc.trans s',?_⟩⟩
    ·unfold atI
     rw [v6 b0 (by rw [List.length_map,fD]; omega)]
     exact qu (by rw [fD]; omega)
    ·have hx:(years (fl r 4) (fl p 3))[ys.length]?=some (fl r 4+(i:Int)):=by
      rw [hy]
      exact jR hi
     exact oW ey hx
   ·rintro ys Hc hy ⟨sc,ey⟩ D hD
    rw [List.take_of_length_le (by rw [jQ,hy]; exact Nat.le_refl _)] at ey
    refine ⟨D,(years (fl r 4) (fl p 3)).map fun y=>decide (fl r 3≤(bQ p ss (fl r 0) y).getD (fl r 1).toNat 0),rfl,SqL.of (by rw [List.map_map]; rw [ey]; exact ak),?_⟩
    rw [List.all_map]
    exact fin _ (sc.updR hD)
end
end K04

set_option Elab.async false
set_option linter.all false
set_option maxRecDepth 100000
set_option maxHeartbeats 1000000
namespace K04
open PySem L2
theorem yS {xs:List V} {i:Nat} (h:i≤xs.length):pB xs none (some (i:Int))=xs.take i:=by
 unfold pB
 rw [HT.sIx_none,HT.sIx_nat,List.drop_zero,Nat.min_eq_left h,Nat.sub_zero]
theorem RowsAt.cut {H:Hp} {a p:Addr} {xs:List V} {rs:List (List Int)} (h:RowsAt H a xs rs) (i:Nat) (hp:H p=none):RowsAt (upd H p (.tup (xs.take i))) p (xs.take i) (rs.take i):=by
 refine ⟨ak,by rw [List.length_take,List.length_take,h.l],fun j r e=>?_⟩
 have hj:j < i:=by
  rw [List.getElem?_take] at e
  split at e
  ·assumption
  ·cases e
 rw [List.getElem?_take_of_lt hj] at e
 obtain ⟨t,e1,e2⟩:=h.g j r e
 exact ⟨t,by rw [List.getElem?_take_of_lt hj]; exact e1,Same.upd hp _ _ e2⟩
theorem qx {ps ss:List (List Int)} {i:Nat} (h:∀ j,j < i→d9 ps (ss.take j) (ss.getD j [])=true) (hi:i < ss.length) (hn:d9 ps (ss.take i) (ss.getD i [])=false):un ps ss=some i:=by
 unfold un
 rw [List.find?_range_eq_some]
 exact ⟨by rw [hn]; rfl,List.mem_range.mpr hi,fun j hj=>by rw [h j hj]; rfl⟩
theorem vd {ps ss:List (List Int)} (h:∀ j,j < ss.length→d9 ps (ss.take j) (ss.getD j [])=true):un ps ss=none:=by
 unfold un
 rw [List.find?_range_eq_none]
 exact fun j hj=>by rw [h j hj]; rfl
theorem mK {ps ss:List (List Int)} {s:List Int} (h5:s.length=5) (h:d9 ps ss s=true):okS s:=by
 unfold d9 nO at h
 simp only [Bool.and_eq_true,decide_eq_true_eq] at h
 exact ⟨h5,h.1.2.1,h.1.2.2.1⟩
theorem getD_get {ss:List (List Int)} {i:Nat} (h:i < ss.length):ss.getD i []=ss[i]:=by
 rw [List.getD_eq_getElem?_getD,List.getElem?_eq_getElem h]
 rfl
noncomputable def part (d:PyData) (i:Nat):PyData:=(items d).getD i .none
noncomputable def fX (d:PyData):Bool:=bR d 3 3 && (gJ (part d 0) && (dU (part d 1) && (dW (part d 2) && (un (rowsOf (part d 1)) (rowsOf (part d 2))).isNone)))
section
variable {P:Program} {w:World} {K:PySem.W.Frag} {mg:Str→Option Value} {base:Heap}
theorem sc26s:FnScope ["promises","sales","at","sale"] ["promises","sales"] (aD (top 42)):=⟨rfl,rfl,rfl,by decide +kernel,rfl,by decide +kernel,by decide +kernel⟩
theorem yU {f:Addr} {fd:FuncData} (F:Fun K "first_unheld" "first_unheld" (top 42) f fd) (Te:mg "enumerate" = none) (c1:Cal P w K mg base 4 "are_promises" ["thing"] (spT dU)) (c2:Cal P w K mg base 3 "are_sales" ["thing"] (spT dW)) (c3:Cal P w K mg base 2 "sale_holds" ["promises","ahead","sale"] v7) :
  FnOk P w K mg base CX0 5 f fd ["promises","sales"] v9:=by
 refine F.ok sc26s (fun vs H Q E h=>?_) (fun cdv A outer s H vs Q E hr h=>?_)
 ·obtain ⟨S,v,d,S',u,e,rfl,_⟩:=h
  rfl
 ·obtain ⟨S,v,d,S',u,e,rfl,thp,ths,hp,hs,zp,zs,q⟩:=h
  refine ⟨_,aA (bF (bA (bG (aH c1 hr (by decide) rfl (aq (pv 0) aj)))) nR aV)
   (aA (bF (bA (bG (aH c2 hr (by decide) rfl (aq (pv 1) aj)))) nR aV)
   (aA (dF PassesOwn.never rfl (pi_enum rfl Te (aq (pv 1) aj)) (cR rfl (aF (aC (i:=2) sc26s.nd rfl (Or.inl rfl)) (aF (aC (i:=3) sc26s.nd rfl (Or.inl rfl)) bV)))
    (aB (bF (bA (bG (aH c3 hr (by decide) rfl (aq (pv 0) (aq (xx Al (pv 1) zV (zW (pv 2))) (aq (pv 3) aj)))))) (aB (aN (pv 2))) aV)))
   (aB (aN ju)))),?_⟩
  refine aK ?_
  refine ⟨_,rfl,S,v,d,rfl,thp,zp,fun H1 s1=>⟨_,rfl,?_⟩⟩
  rw [hp]
  refine bf ?_
  refine bN ?_
  dsimp only
  refine aK ?_
  refine ⟨_,rfl,S',u,e,rfl,ths.same s1,zs,fun H2 s2=>⟨_,rfl,?_⟩⟩
  rw [hs]
  refine bf ?_
  refine bN ?_
  dsimp only
  have s12:=s1.trans s2
  obtain ⟨ep,lp,okp⟩:=fK hp
  obtain ⟨es,ls,oks⟩:=fM hs
  have th1:=thp.same s12
  have th2:=ths.same s12
  rw [ep] at th1
  rw [es] at th2
  generalize rowsOf d=ps at q lp okp th1
  generalize rowsOf e=ss at q ls oks th2
  obtain ⟨ap,xp,rfl,rp⟩:=f9 th1
  obtain ⟨as_,xs,rfl,rs⟩:=f9 th2
  refine aK ?_
  refine ⟨_,rfl,as_,xs,rfl,SqT.of rs.e,?_⟩
  refine lW (xs:=xs) (fun i σ Hc=>∃ x2 x3,σ=[some (.ref ap),some (.ref as_),x2,x3]∧Same H2 Hc∧∀ j,j < i→d9 ps (ss.take j) (ss.getD j [])=true) ?_ ?_ ?_ ?_
  ·exact ⟨none,none,rfl,Same.refl _,fun j hj=>absurd hj (Nat.not_lt_zero _)⟩
  ·rintro i σ Hc hi ⟨x2,x3,rfl,sm,hh⟩
   exact SqT.of (sm _ _ rs.e)
  ·rintro i x σ Hc T0 hx ⟨x2,x3,rfl,sm,hh⟩ nT
   have hi:i < ss.length:=by
    have:=(List.getElem?_eq_some_iff.mp hx).1
    rw [rs.l] at this
    exact this
   have hix:i < xs.length:=by rw [rs.l]; exact hi
   obtain ⟨tr,ex2,etr⟩:=rs.g i ss[i] (List.getElem?_eq_getElem hi)
   have:x=.ref tr:=by
    rw [hx] at ex2
    exact Option.some.inj ex2
   subst this
   have h5:=oks ss[i] (List.getElem_mem hi)
   have sT:=sm.updR (o:=.tup [V.int i,V.ref tr]) nT
   refine ⟨T0,_,rfl,SqT.of ak,rfl,_,_,rfl,_,_,rfl,rfl,?_⟩
   refine ⟨_,rfl,_,rfl,_,rfl,i,rfl,as_,xs,rfl,SqT.of (sT _ _ rs.e),fun hw=>?_,fun _ p hp'=>?_⟩
   ·have:=hw.2
    rw [HT.sIx_nat] at this
    exact absurd this (by omega)
   rw [yS (Nat.le_of_lt hix)]
   have sp:=sT.updR (o:=.tup (xs.take i)) hp'
   refine ⟨_,rfl,ap,xp,ps,p,xs.take i,ss.take i,tr,ss[i],rfl,rp.same sp,okp,(rs.same sT).cut i hp',?_,?_,sp _ _ etr,h5,fun H' s'=>⟨_,rfl,?_⟩⟩
   ·rw [List.length_take]
    omega
   ·intro s hs'
    obtain ⟨j,hj,e'⟩:=List.getElem_of_mem hs'
    rw [List.length_take] at hj
    have hji:j < i:=by omega
    have hjs:j < ss.length:=by omega
    have e2:ss[j]=s:=by rw [← e',List.getElem_take]
    rw [← e2]
    have:=hh j hji
    rw [getD_get hjs] at this
    exact mK (oks _ (List.getElem_mem hjs)) this
   ·cases eh:d9 ps (ss.take i) ss[i] with
    | false =>
     refine aY ⟨_,rfl,?_⟩
     have:=q H' (s12.trans (sp.trans s'))
     rw [qx hh hi (by rw [getD_get hi]; exact eh)] at this
     exact this
    | true =>
     refine bf ⟨_,_,rfl,sp.trans s',fun j hj=>?_⟩
     rcases Nat.lt_succ_iff_lt_or_eq.mp hj with z | z
     ·exact hh j z
     ·rw [z,getD_get hi]
      exact eh
  ·rintro σ Hc ⟨x2,x3,rfl,sm,hh⟩
   have:=q Hc (s12.trans sm)
   rw [vd fun j hj=>hh j (by rw [rs.l]; exact hj)] at this
   exact this
theorem sc27s:FnScope ["thing","clips","promises","sales"] ["thing"] (aD (top 43)):=⟨rfl,rfl,rfl,by decide +kernel,rfl,by decide +kernel,by decide +kernel⟩
theorem Bl {f:Addr} {fd:FuncData} (F:Fun K "is_book" "is_book" (top 43) f fd) (c0:Cal P w K mg base 1 "is_tuple_of" ["thing","fewest","most"] (km bR)) (c1:Cal P w K mg base 4 "are_clips" ["thing"] (spT gJ)) (c2:Cal P w K mg base 4 "are_promises" ["thing"] (spT dU)) (c3:Cal P w K mg base 3 "are_sales" ["thing"] (spT dW)) (c4:Cal P w K mg base 5 "first_unheld" ["promises","sales"] v9) :
  FnOk P w K mg base CX0 6 f fd ["thing"] (spT fX):=by
 refine F.ok sc27s (fun vs H Q E h=>?_) (fun cdv A outer s H vs Q E hr h=>?_)
 ·obtain ⟨S,v,d,rfl,_⟩:=h
  rfl
 ·obtain ⟨S,v,d,rfl,th,hz,q⟩:=h
  refine ⟨_,aA (bF (bA (bG (aH c0 hr (by decide) rfl (aq (pv 0) (aq ao (aq ao aj)))))) (aB (aN dw)) aV)
   (aA (dC (pv 0) (cR rfl (aF (aC (i:=1) sc27s.nd rfl (Or.inl rfl)) (aF (aC (i:=2) sc27s.nd rfl (Or.inl rfl)) (aF (aC (i:=3) sc27s.nd rfl (Or.inl rfl)) bV)))))
   (aB (aN (bU (aH c1 hr (by decide) rfl (aq (pv 1) aj)) (bU (aH c2 hr (by decide) rfl (aq (pv 2) aj)) (bU (aH c3 hr (by decide) rfl (aq (pv 3) aj)) (dB (eZ tQ (aH c4 hr (by decide) rfl (aq (pv 2) (aq (pv 3) aj))) ju (bj _))))))))),?_⟩
  have fin:=q
  unfold fX at fin
  refine aK ?_
  refine ⟨_,rfl,S,v,d,3,3,rfl,th,hz,fun H1 s1=>⟨_,rfl,?_⟩⟩
  cases e:bR d 3 3 with
  | false =>
   rw [e] at fin
   exact aY (fin _ s1)
  | true =>
   rw [e] at fin
   refine bf ?_
   refine bN ?_
   dsimp only
   obtain ⟨ds,rfl,l1,l2⟩:=iH e
   have th1:=th.same s1
   cases th1 with
   | @tup a xs _ ea r =>
    obtain ⟨v0,v1,v2,d0,d1,d2,rfl,rfl,h0,h1,h2⟩:=iD r (show ds.length=3 by omega)
    have z0:=eX (d:=d0) (by simp) hz
    have z1:=eX (d:=d1) (by simp) hz
    have z2:=eX (d:=d2) (by simp) hz
    refine aK ?_
    refine ⟨_,rfl,a,_,rfl,SqT.of ea,rfl,_,_,rfl,_,_,rfl,_,_,rfl,rfl,?_⟩
    dsimp only
    have fin:∀ H',Same H H'→Q (.bl (true && (gJ d0 && (dU d1 && (dW d2 && (un (rowsOf d1) (rowsOf d2)).isNone))))) H':=fin
    refine ⟨_,rfl,S,_,d0,rfl,h0,z0,fun H2 s2=>⟨_,rfl,?_⟩⟩
    cases e0:gJ d0 with
    | false =>
     rw [e0] at fin
     exact bf (fin _ (s1.trans s2))
    | true =>
     rw [e0] at fin
     refine aY ?_
     refine ⟨_,rfl,S,_,d1,rfl,h1.same s2,z1,fun H3 s3=>⟨_,rfl,?_⟩⟩
     cases e1:dU d1 with
     | false =>
      rw [e1] at fin
      exact bf (fin _ ((s1.trans s2).trans s3))
     | true =>
      rw [e1] at fin
      refine aY ?_
      refine ⟨_,rfl,S,_,d2,rfl,h2.same (s2.trans s3),z2,fun H4 s4=>⟨_,rfl,?_⟩⟩
      cases e2:dW d2 with
      | false =>
       rw [e2] at fin
       exact bf (fin _ (((s1.trans s2).trans s3).trans s4))
      | true =>
       rw [e2] at fin
       refine aY ?_
       have s24:=(s2.trans s3).trans s4
       refine ⟨_,rfl,_,rfl,S,_,d1,S,_,d2,rfl,h1.same s24,h2.same s24,e1,e2,z1,z2,fun H5 s5=>⟨rfl,?_⟩⟩
       have:=fin H5 (s1.trans (s24.trans s5))
       cases eu:un (rowsOf d1) (rowsOf d2) with
       | none =>
        rw [eu] at this
        exact this
       | some i =>
        rw [eu] at this
        exact this
end
end K04

set_option Elab.async false
set_option linter.all false
set_option maxRecDepth 100000
set_option maxHeartbeats 1000000
namespace K04
open PySem L2
noncomputable abbrev ky (n y:Int):List Key:=[.inl n,.inl y]
noncomputable def KsOk (kv:List (Key×V)):Prop:=∀ p∈kv,∃ h:Int,p.1=.inl h∧0≤h∧h < 8
theorem KsOk.put {kv:List (Key×V)} (g:KsOk kv) {h:Int} (h0:0≤h) (h8:h < 8) (v:V):KsOk (putK kv (.inl h) v):=by
 intro p hp
 unfold putK at hp
 split at hp
 ·obtain ⟨q,hq,rfl⟩:=List.mem_map.mp hp
  split
  ·exact g q hq
  ·exact g q hq
 ·rcases List.mem_append.mp hp with z | z
  ·exact g p z
  ·rw [List.mem_singleton.mp z]
   exact ⟨h,rfl,h0,h8⟩
structure Dts (fo:Addr) (H0 H:Hp) (dm:Int→Int→Prop) (f:Int→Int→Int→Int) (b:Int→Int→Nat) (kvs:List (List Key×V)):Prop where
 sm:Same H0 H
 nf:H0 fo=none
 e:H fo=some (.dT kvs)
 g:∀ n y,dm n y→∃ d kv,cg kvs (ky n y)=some (.ref d)∧H d=some (.dK kv)∧(kv.length≤b n y∧KsOk kv)∧∀ h,0≤h→h < 8→(cg kv (.inl h)).getD (.int 0)=.int (f n y h)
 no:∀ n y,¬ dm n y→cg kvs (ky n y)=none
 i:∀ n y n' y' d,cg kvs (ky n y)=some (.ref d)→cg kvs (ky n' y')=some (.ref d)→n=n'∧y=y'
 fr:∀ n y d,cg kvs (ky n y)=some (.ref d)→H0 d=none∧d≠fo∧∃ o,H d=some o
theorem Dts.new {fo p:Addr} {o:HO} {H0 H:Hp} {dm:Int→Int→Prop} {f:Int→Int→Int→Int} {b:Int→Int→Nat} {kvs:List (List Key×V)} (g:Dts fo H0 H dm f b kvs) (hp:H p=none):Dts fo H0 (upd H p o) dm f b kvs :=
 ⟨g.sm.updR hp,g.nf,Same.upd hp _ _ g.e,fun n y h=>by
  obtain ⟨d,kv,e1,e2,r⟩:=g.g n y h
  exact ⟨d,kv,e1,Same.upd hp _ _ e2,r⟩,g.no,g.i,fun n y d h=>by
  obtain ⟨e1,e2,o',e3⟩:=g.fr n y d h
  exact ⟨e1,e2,o',Same.upd hp _ _ e3⟩⟩
theorem Dts.same {fo:Addr} {H0 H H':Hp} {dm:Int→Int→Prop} {f:Int→Int→Int→Int} {b:Int→Int→Nat} {kvs:List (List Key×V)} (g:Dts fo H0 H dm f b kvs) (s:Same H H'):Dts fo H0 H' dm f b kvs :=
 ⟨g.sm.trans s,g.nf,s _ _ g.e,fun n y h=>by
  obtain ⟨d,kv,e1,e2,r⟩:=g.g n y h
  exact ⟨d,kv,e1,s _ _ e2,r⟩,g.no,g.i,fun n y d h=>by
  obtain ⟨e1,e2,o',e3⟩:=g.fr n y d h
  exact ⟨e1,e2,o',s _ _ e3⟩⟩
theorem uh {n y n' y':Int} (h:ky n y=ky n' y'):n=n'∧y=y':=by
 injection h with h1 h2
 injection h2 with h2 _
 injection h1 with h1
 injection h2 with h2
 exact ⟨h1,h2⟩
theorem Dts.wr {fo d:Addr} {H0 H:Hp} {dm:Int→Int→Prop} {f f':Int→Int→Int→Int} {b b':Int→Int→Nat} {kvs:List (List Key×V)} {kv':List (Key×V)} {N Y:Int} (g:Dts fo H0 H dm f b kvs) (hv:cg kvs (ky N Y)=some (.ref d))
  (h1:(kv'.length≤b' N Y∧KsOk kv')∧∀ h,0≤h→h < 8→(cg kv' (.inl h)).getD (.int 0)=.int (f' N Y h)) (h2:∀ n y,dm n y→¬ (n=N∧y=Y)→b n y≤b' n y∧∀ h,0≤h→h < 8→f' n y h=f n y h):Dts fo H0 (upd H d (.dK kv')) dm f' b' kvs:=by
 obtain ⟨w1,w2,_⟩:=g.fr _ _ _ hv
 refine ⟨fun c o e=>by rw [az (aG e w1)]; exact g.sm _ _ e,g.nf,by rw [az w2.symm]; exact g.e,fun n y hd=>?_,g.no,g.i,fun n y d' hd=>?_⟩
 ·by_cases hk:n=N∧y=Y
  ·obtain ⟨rfl,rfl⟩:=hk
   exact ⟨d,kv',hv,ak,h1⟩
  ·obtain ⟨d',kv,q1,q2,q3,q4⟩:=g.g n y hd
   have nd:d'≠d:=fun z=>hk (g.i _ _ _ _ _ (z ▸ q1) hv)
   obtain ⟨k1,k2⟩:=h2 n y hd hk
   exact ⟨d',kv,q1,by rw [az nd]; exact q2,⟨Nat.le_trans q3.1 k1,q3.2⟩,fun h z1 z2=>by rw [k2 h z1 z2]; exact q4 h z1 z2⟩
 ·obtain ⟨w3,w4,o,w5⟩:=g.fr n y d' hd
  by_cases hdd:d'=d
  ·exact ⟨w3,w4,.dK kv',by rw [hdd]; exact ak⟩
  ·exact ⟨w3,w4,o,by rw [az hdd]; exact w5⟩
theorem Dts.cast {fo:Addr} {H0 H:Hp} {dm:Int→Int→Prop} {f f':Int→Int→Int→Int} {b b':Int→Int→Nat} {kvs:List (List Key×V)} (g:Dts fo H0 H dm f b kvs) (h2:∀ n y,dm n y→b n y≤b' n y∧∀ h,0≤h→h < 8→f' n y h=f n y h):Dts fo H0 H dm f' b' kvs :=
 ⟨g.sm,g.nf,g.e,fun n y hd=>by
  obtain ⟨d',kv,q1,q2,q3,q4⟩:=g.g n y hd
  obtain ⟨k1,k2⟩:=h2 n y hd
  exact ⟨d',kv,q1,q2,⟨Nat.le_trans q3.1 k1,q3.2⟩,fun h z1 z2=>by rw [k2 h z1 z2]; exact q4 h z1 z2⟩,g.no,g.i,g.fr⟩
noncomputable def dom (ps:List (List Int)) (n y:Int):Prop:=0≤n∧n < ps.length∧fl (ps.getD n.toNat []) 2≤y∧y≤fl (ps.getD n.toNat []) 3
noncomputable def f0 (ps:List (List Int)) (n y h:Int):Int:=if h=fl (ps.getD n.toNat []) 0 then fl (ps.getD n.toNat []) 4 else 0
noncomputable def vf:Sp:=fun vs H Q _=>∃ ap xp ps,vs=[.ref ap]∧RowsAt H ap xp ps∧ps.length≤10∧(∀ r∈ps,okP r)∧∀ fo H' kvs,Dts fo H H' (dom ps) (f0 ps) (fun _ _=>1) kvs→Q (.ref fo) H'
section
variable {P:Program} {w:World} {K:PySem.W.Frag} {mg:Str→Option Value} {base:Heap}
theorem sc34s:FnScope ["_law_promises_here","_law_found","_law_number","_law_holder","_law_sort","_law_first","_law_last","_law_sacks","_law_price","_law_year"] ["_law_promises_here"] (aD (top 52)):=⟨rfl,rfl,rfl,by decide +kernel,rfl,by decide +kernel,by decide +kernel⟩
theorem yV {f:Addr} {fd:FuncData} (F:Fun K "_law_begun" "_law_begun" (top 52) f fd) (Te:mg "enumerate" = none) (Tr:mg "range" = none):FnOk P w K mg base CX0 1 f fd ["_law_promises_here"] vf:=by
 refine F.ok sc34s (fun vs H Q E h=>?_) (fun cdv A outer s H vs Q E hr h=>?_)
 ·obtain ⟨ap,xp,ps,rfl,_⟩:=h
  rfl
 ·obtain ⟨ap,xp,ps,rfl,rp,lp,okp,q⟩:=h
  refine ⟨_,aA (bw (i:=1) sc34s.nd rfl (Or.inl rfl) xM)
   (aA (dF PassesOwn.never rfl (pi_enum rfl Te (aq (pv 0) aj)) (cR rfl (aF (aC (i:=2) sc34s.nd rfl (Or.inl rfl)) (aF (cR rfl (aF (aC (i:=3) sc34s.nd rfl (Or.inl rfl)) (aF (aC (i:=4) sc34s.nd rfl (Or.inl rfl)) (aF (aC (i:=5) sc34s.nd rfl (Or.inl rfl))
     (aF (aC (i:=6) sc34s.nd rfl (Or.inl rfl)) (aF (aC (i:=7) sc34s.nd rfl (Or.inl rfl)) (aF (aC (i:=8) sc34s.nd rfl (Or.inl rfl)) bV))))))) bV)))
    (aB (dF PassesOwn.never rfl (iw rfl Tr (aq (pv 5) (aq (aX bT (pv 6) ao) aj))) (aC (i:=9) sc34s.nd rfl (Or.inl rfl))
     (aB (pN (gU hr) (pv 1) (bW (aq (pv 2) (aq (pv 9) aj))) (Ab (qW (pv 3) (pv 7) uG) rfl rfl (by simp) (by decide)) rfl)))))
   (aB (aN (pv 1)))),?_⟩
  refine aK ?_
  refine aZ ?_
  refine fun fo hfo=>?_
  refine aP ?_
  dsimp only
  refine aK ?_
  have d0:Dts fo H (upd H fo (.dT [])) (fun _ _=>False) (f0 ps) (fun _ _=>1) []:=⟨Same.upd hfo,hfo,ak,fun _ _ z=>z.elim,fun _ _ _=>rfl,fun _ _ _ _ _ z=>(by cases z),fun _ _ _ z=>(by cases z)⟩
  generalize upd H fo (.dT [])=H1 at d0 ⊢
  refine ⟨_,rfl,ap,xp,rfl,SqT.of (d0.sm _ _ rp.e),?_⟩
  refine lW (xs:=xp) (fun i σ Hc=>∃ x2 x3 x4 x5 x6 x7 x8 x9 kvs,σ=[some (.ref ap),some (.ref fo),x2,x3,x4,x5,x6,x7,x8,x9]∧Dts fo H Hc (fun n y=>dom ps n y∧n < i) (f0 ps) (fun _ _=>1) kvs∧kvs.length≤20 * i) ?_ ?_ ?_ ?_
  ·exact ⟨none,none,none,none,none,none,none,none,[],rfl,⟨d0.sm,d0.nf,d0.e,fun n y z=>by
    have:=z.1.1
    have:=z.2
    omega,fun n y _=>d0.no n y id,d0.i,d0.fr⟩,Nat.le_refl _⟩
  ·rintro i σ Hc hi ⟨x2,x3,x4,x5,x6,x7,x8,x9,kvs,rfl,dt,lk⟩
   exact SqT.of (dt.sm _ _ rp.e)
  ·rintro i x σ Hc T0 hx ⟨x2,x3,x4,x5,x6,x7,x8,x9,kvs,rfl,dt,lk⟩ nT
   have hi:i < ps.length:=by
    have:=(List.getElem?_eq_some_iff.mp hx).1
    rw [rp.l] at this
    exact this
   obtain ⟨tr,ex2,etr⟩:=rp.g i ps[i] (List.getElem?_eq_getElem hi)
   have:x=.ref tr:=by
    rw [hx] at ex2
    exact Option.some.inj ex2
   subst this
   have op:=okp ps[i] (List.getElem_mem hi)
   have ep:ps.getD ((i:Int)).toNat []=ps[i]:=by
    rw [Int.toNat_natCast]
    exact getD_get hi
   have dT:=dt.new (o:=.tup [V.int i,V.ref tr]) nT
   generalize hpi:ps[i]=p at etr op ep
   have et2:=dT.sm _ _ etr
   rw [fj op.1] at et2
   obtain ⟨_,⟨a1,a2⟩,_,⟨c1,c2,c3⟩,⟨e1,e2⟩,_⟩:=op
   refine ⟨T0,_,rfl,SqT.of ak,rfl,_,_,rfl,_,_,rfl,?_⟩
   refine ⟨tr,_,rfl,SqT.of et2,rfl,_,_,rfl,_,_,rfl,_,_,rfl,_,_,rfl,_,_,rfl,_,_,rfl,rfl,rfl,?_⟩
   refine ⟨_,rfl,_,rfl,_,_,rfl,rfl,fl p 2,fl p 3+1,rfl,⟨by omega,by omega,by omega,by omega⟩,?_⟩
   generalize upd Hc T0 (.tup [V.int i,V.ref tr])=H2 at dT ⊢
   refine cQ (lo:=fl p 2) (n:=(fl p 3+1 - fl p 2).toNat) (fun j σ Hj=>∃ x9 kvs,σ=[some (.ref ap),some (.ref fo),some (.int i),some (.int (fl p 0)),some (.int (fl p 1)),some (.int (fl p 2)),some (.int (fl p 3)),some (.int (fl p 4)),some (.int (fl p 5)),x9]∧Dts fo H Hj (fun n y=>dom ps n y∧(n < i∨(n=i∧y < fl p 2+j))) (f0 ps) (fun _ _=>1) kvs∧kvs.length≤20 * i+j) ?_ ?_ ?_
   ·exact ⟨x9,kvs,rfl,⟨dT.sm,dT.nf,dT.e,fun n y z=>dT.g n y ⟨z.1,by
     rcases z.2 with z2 | ⟨z2,z3⟩
     ·exact z2
     ·obtain ⟨_,_,w1,_⟩:=z.1
      rw [z2,ep] at w1
      omega⟩,fun n y z=>dT.no n y fun z'=>z ⟨z'.1,.inl z'.2⟩,dT.i,dT.fr⟩,lk⟩
   ·rintro j σ Hj hj ⟨x9,kvs,rfl,dj,lj⟩
    refine aP ?_
    refine fun p1 hp1=>?_
    refine ⟨_,rfl,_,rfl,ak,[(.inl (fl p 0),.int (fl p 4))],rfl,(by show 1≤15; decide),?_⟩
    have hD:∀ b o,Hj b=some o→upd (upd Hj p1 (.dK [])) p1 (.dK (fZ [] [(.inl (fl p 0),.int (fl p 4))])) b=some o:=fun b o e=>by
     rw [az (aG e hp1),az (aG e hp1)]
     exact e
    have e1':upd (upd Hj p1 (.dK [])) p1 (.dK (fZ [] [(.inl (fl p 0),.int (fl p 4))])) p1=some (.dK [(.inl (fl p 0),.int (fl p 4))]):=ak
    generalize upd (upd Hj p1 (.dK [])) p1 (.dK (fZ [] [(.inl (fl p 0),.int (fl p 4))]))=HD at hD e1' ⊢
    have nfo:p1≠fo:=fun z=>by
     rw [z,dj.e] at hp1
     cases hp1
    refine ⟨_,rfl,_,rfl,_,rfl,(by show 2≤sizeLine; decide),fun t ht=>⟨fo,_,rfl,DPut.t (k:=ky i (fl p 2+j)) (Same.upd ht _ _ (hD _ _ dj.e)) ak (by rw [sizeLine_eq]; omega),?_⟩⟩
    have kp:∀ b o,Hj b=some o→b≠fo→upd (upd HD t (.tup [V.int i,V.int (fl p 2+j)])) fo (.dT (putK kvs (ky i (fl p 2+j)) (.ref p1))) b=some o:=fun b o e ne=>by
     rw [az ne]
     exact Same.upd ht _ _ (hD _ _ e)
    have e1'':upd (upd HD t (.tup [V.int i,V.int (fl p 2+j)])) fo (.dT (putK kvs (ky i (fl p 2+j)) (.ref p1))) p1=some (.dK [(.inl (fl p 0),.int (fl p 4))]):=by
     rw [az nfo]
     exact Same.upd ht _ _ e1'
    have np1:H p1=none:=dj.sm.free hp1
    refine ⟨_,_,rfl,⟨fun b o e=>kp b o (dj.sm _ _ e) (aG e dj.nf),dj.nf,ak,fun n y z=>?_,fun n y z=>?_,fun n y n' y' d z z'=>?_,fun n y d z=>?_⟩,?_⟩
    ·by_cases hk:ky n y=ky i (fl p 2+j)
     ·obtain ⟨rfl,rfl⟩:=uh hk
      refine ⟨p1,_,by rw [eF,if_pos rfl],e1'',⟨Nat.le_refl _,fun p hp=>⟨fl _ 0,by rw [List.mem_singleton.mp hp],a1,by omega⟩⟩,fun h h0 h8=>?_⟩
      unfold f0
      rw [ep]
      by_cases hh:h=fl p 0
      ·rw [if_pos hh,cF (show (Sum.inl (fl p 0):Key)=.inl h by rw [hh])]
       rfl
      ·rw [if_neg hh,cG (fun z=>hh (by injection z with z; exact z.symm))]
       rfl
     ·have hd:dom ps n y∧(n < i∨(n=i∧y < fl p 2+j)):=⟨z.1,by
       rcases z.2 with z2 | ⟨z2,z3⟩
       ·exact .inl z2
       ·refine .inr ⟨z2,?_⟩
        have:y≠fl p 2+j:=fun w=>hk (by rw [z2,w])
        omega⟩
      obtain ⟨d,kv,q1,q2,q3⟩:=dj.g n y hd
      exact ⟨d,kv,by rw [eF,if_neg hk]; exact q1,kp _ _ q2 (dj.fr n y d q1).2.1,q3⟩
    ·have hk:¬ ky n y=ky i (fl p 2+j):=fun w=>by
      obtain ⟨rfl,rfl⟩:=uh w
      exact z ⟨⟨by omega,by omega,by rw [ep]; omega,by rw [ep]; omega⟩,.inr ⟨rfl,by omega⟩⟩
     rw [eF,if_neg hk]
     exact dj.no n y fun z'=>z ⟨z'.1,z'.2.elim .inl fun w=>.inr ⟨w.1,by omega⟩⟩
    ·rw [eF] at z z'
     have old:∀ n y,cg kvs (ky n y)=some (.ref p1)→False:=fun n y w=>by
      obtain ⟨_,_,o,w3⟩:=dj.fr n y p1 w
      rw [hp1] at w3
      cases w3
     by_cases h1:ky n y=ky i (fl p 2+j)
     ·rw [if_pos h1] at z
      by_cases h2:ky n' y'=ky i (fl p 2+j)
      ·exact uh (h1.trans h2.symm)
      ·rw [if_neg h2] at z'
       injection z with z
       injection z with z
       rw [← z] at z'
       exact (old _ _ z').elim
     ·rw [if_neg h1] at z
      by_cases h2:ky n' y'=ky i (fl p 2+j)
      ·rw [if_pos h2] at z'
       injection z' with z'
       injection z' with z'
       rw [← z'] at z
       exact (old _ _ z).elim
      ·rw [if_neg h2] at z'
       exact dj.i _ _ _ _ _ z z'
    ·rw [eF] at z
     by_cases h1:ky n y=ky i (fl p 2+j)
     ·rw [if_pos h1] at z
      injection z with z
      injection z with z
      rw [← z]
      exact ⟨np1,nfo,_,e1''⟩
     ·rw [if_neg h1] at z
      obtain ⟨w1,w2,o,w3⟩:=dj.fr n y d z
      exact ⟨w1,w2,o,kp _ _ w3 w2⟩
    ·have:=cA kvs (ky i (fl p 2+j)) (V.ref p1)
     omega
   ·rintro σ Hj ⟨x9,kvs,rfl,dj,lj⟩
    refine ⟨_,_,_,_,_,_,_,_,kvs,rfl,⟨dj.sm,dj.nf,dj.e,fun n y z=>dj.g n y ⟨z.1,?_⟩,fun n y z=>dj.no n y fun z'=>z ⟨z'.1,z'.2.elim (fun w=>by omega) fun w=>by omega⟩,dj.i,dj.fr⟩,by omega⟩
    by_cases hn:n < i
    ·exact .inl hn
    ·have e9:n=i:=by
      have:=z.2
      omega
     refine .inr ⟨e9,?_⟩
     obtain ⟨_,_,_,w1⟩:=z.1
     rw [e9,ep] at w1
     omega
  ·rintro σ Hc ⟨x2,x3,x4,x5,x6,x7,x8,x9,kvs,rfl,dt,lk⟩
   refine ⟨_,rfl,q fo Hc kvs ⟨dt.sm,dt.nf,dt.e,fun n y z=>dt.g n y ⟨z,?_⟩,fun n y z=>dt.no n y fun z'=>z z'.1,dt.i,dt.fr⟩⟩
   rw [rp.l]
   exact z.2.1
end
end K04

set_option Elab.async false
set_option linter.all false
set_option maxRecDepth 100000
set_option maxHeartbeats 2000000
namespace K04
open PySem L2
noncomputable def mL (ps:List (List Int)) (f:Int→Int→Int→Int) (s:List Int):Bool:=nO ps s && (years (fl s 4) (fl (qm ps s) 3)).all fun y=>decide (fl s 3≤f (fl s 0) y (fl s 1))
noncomputable def sI:Sp:=fun vs H Q _=>∃ ap xp ps fo H0 f b kvs t s,vs=[.ref ap,.ref fo,.ref t]∧RowsAt H ap xp ps∧(∀ r∈ps,okP r)∧Dts fo H0 H (dom ps) f b kvs∧H t=some (.tup (s.map V.int))∧s.length=5∧∀ H',Same H H'→Q (.bl (mL ps f s)) H'
theorem Bm {ns:List Int} {M k:Int} (h1:M∈ns) (h2:∀ a∈ns,M≤a):decide (k≤M)=ns.all fun a=>decide (k≤a):=by
 rw [Bool.eq_iff_iff,decide_eq_true_eq,List.all_eq_true]
 exact ⟨fun h a ha=>decide_eq_true (Int.le_trans h (h2 a ha)),fun h=>of_decide_eq_true (h M h1)⟩
theorem Fg {σ:St} {H:Hp} {ta tb:TE} {i j:Int} (a:Ev σ H ta (.int i)) (b:Ev σ H tb (.int j)):Ev σ H (tOp rEq ta tb) (.bl (decide (i=j))):=fun Q q=>a _ (b _ ⟨rfl,by
 have ed:decide (V.int i=V.int j)=decide (i=j):=decide_eq_decide.mpr ⟨fun z=>by injection z,fun z=>by rw [z]⟩
 rw [ed]
 exact q⟩)
section
variable {P:Program} {w:World} {K:PySem.W.Frag} {mg:Str→Option Value} {base:Heap}
theorem sc35s:FnScope ["_law_promises_here","_law_rows","_law_sale","_law_number","_law_seller","_law_buyer","_law_sacks","_law_year","_law_first","_law_last"] ["_law_promises_here","_law_rows","_law_sale"] (aD (top 53)):=⟨rfl,rfl,rfl,by decide +kernel,rfl,by decide +kernel,by decide +kernel⟩
theorem Gm:(["_law_one","_law_rows","_law_number","_law_seller"]:List Str).Nodup:=by decide +kernel
theorem wK {f:Addr} {fd:FuncData} (F:Fun K "_law_holds" "_law_holds" (top 53) f fd) (T:Mg mg) (Tr:mg "range" = none) (Tm:mg "min" = none):FnOk P w K mg base CX0 1 f fd ["_law_promises_here","_law_rows","_law_sale"] sI:=by
 refine F.ok sc35s (fun vs H Q E h=>?_) (fun cdv A outer s H vs Q E hr h=>?_)
 ·obtain ⟨ap,xp,ps,fo,H0,g,b,kvs,t,r,rfl,_⟩:=h
  rfl
 ·obtain ⟨ap,xp,ps,fo,H0,g,b,kvs,t,r,rfl,rp,okp,dt,et,h5,q⟩:=h
  refine ⟨_,aA (dC (pv 2) (cR rfl (aF (aC (i:=3) sc35s.nd rfl (Or.inr rfl)) (aF (aC (i:=4) sc35s.nd rfl (Or.inr rfl)) (aF (aC (i:=5) sc35s.nd rfl (Or.inl rfl)) (aF (aC (i:=6) sc35s.nd rfl (Or.inl rfl)) (aF (aC (i:=7) sc35s.nd rfl (Or.inl rfl)) bV)))))))
   (aA (bF (PW.pt (eV (bA (dZ bH lB ao (pv 3) (aJ aQ rfl T.len PySem.boot_len (aq (pv 0) aj)))) (eV (bA (dZ bH bH ao (pv 4) ao)) (eV (bA (dZ bH bH ao (pv 5) ao)) (eO (bD iJ (pv 4) (pv 5) (bj _))))))) (aB (aN dw)) aV)
   (aA (tH (i:=8) (j:=9) rfl sc35s.nd rfl rfl (by decide) rfl rfl (aq (bh bx (bh bx (pv 0) (pv 3) (fun _ _=>rfl)) ao (fun _ _=>rfl)) (aq (bh bx (bh bx (pv 0) (pv 3) (fun _ _=>rfl)) ao (fun _ _=>rfl)) aj)) rfl)
   (aA (bF (PW.pt (eV (bA (dZ bH bH ao (pv 6) ao)) (eO (bA (dZ bH bH (pv 8) (pv 7) (pv 9)))))) (aB (aN dw)) aV)
   (aB (aN (eZ xn (aJ (nF rfl) rfl Tm boot_min (aq (cM ["_law_one","_law_rows","_law_number","_law_seller"] [none,some 1,some 3,some 4] rfl (iw rfl Tr (aq (pv 7) (aq (aX bT (pv 9) ao) aj)))
    (fun C fp pins s₂ H₂=>⟨aC (i:=0) Gm rfl (Or.inl rfl),cJ,lN (gU hr) (jf (gU hr) (pv 1) (bW (aq (pv 2) (aq (pv 0) aj))) (fun _ _=>rfl)) (pv 3) ao (by constructor <;> rfl)⟩)
    (fun C=>⟨⟨rfl,.inl rfl,rfl,.inl rfl⟩,⟨rfl,.inl rfl,rfl,.inl rfl⟩,⟨rfl,.inl rfl,rfl,.inl rfl⟩,trivial⟩) ⟨rfl,rfl,rfl,rfl⟩) aj)) (pv 6) (bj _))))))),?_⟩
  have fin:=q
  unfold mL nO at fin
  rw [il h5] at et
  refine aK ?_
  refine ⟨_,rfl,t,_,rfl,SqT.of et,rfl,_,_,rfl,_,_,rfl,_,_,rfl,_,_,rfl,_,_,rfl,rfl,?_⟩
  dsimp only
  refine aK ?_
  refine bK (p:=fun i j=>decide (i≤j)) (q:=fun i j=>decide (i < j)) (i:=0) (j:=fl r 0) (k:=(xp.length:Int)) dq (cU rfl) (fun Q h=>⟨_,rfl,ap,xp,rfl,.inr (SqT.of rp.e),h⟩) _ ⟨_,rfl,?_⟩
  rw [rp.l]
  cases e1:(decide (0≤fl r 0) && decide (fl r 0 < ps.length)) with
  | false =>
   rw [e1] at fin
   exact aY (aY (fin H (Same.refl H)))
  | true =>
  rw [e1] at fin
  refine bf ?_
  refine bK (p:=fun i j=>decide (i≤j)) (q:=fun i j=>decide (i≤j)) (i:=0) (j:=fl r 1) (k:=7) dq (cU rfl) dq _ ⟨_,rfl,?_⟩
  dsimp only
  rw [show decide (fl r 1≤7)=decide (fl r 1 < 8) from decide_eq_decide.mpr (by omega)]
  cases e2:(decide (0≤fl r 1) && decide (fl r 1 < 8)) with
  | false =>
   rw [e2] at fin
   exact aY (aY (fin H (Same.refl H)))
  | true =>
  rw [e2] at fin
  refine bf ?_
  refine bK (p:=fun i j=>decide (i≤j)) (q:=fun i j=>decide (i≤j)) (i:=0) (j:=fl r 2) (k:=7) dq (cU rfl) dq _ ⟨_,rfl,?_⟩
  dsimp only
  rw [show decide (fl r 2≤7)=decide (fl r 2 < 8) from decide_eq_decide.mpr (by omega)]
  cases e3:(decide (0≤fl r 2) && decide (fl r 2 < 8)) with
  | false =>
   rw [e3] at fin
   exact aY (aY (fin H (Same.refl H)))
  | true =>
  rw [e3] at fin
  refine bf ?_
  refine Fg (i:=fl r 1) (j:=fl r 2) (cU rfl) (cU rfl) _ ⟨_,rfl,?_⟩
  cases e4:decide (fl r 1=fl r 2) with
  | true =>
   rw [e4] at fin
   exact aY (fin H (Same.refl H))
  | false =>
  rw [e4] at fin
  refine bf ?_
  refine bN ?_
  dsimp only
  refine aK ?_
  rw [Bool.and_eq_true,decide_eq_true_eq,decide_eq_true_eq] at e1 e2
  obtain ⟨p,hp,ep,op⟩:=fu okp e1.1 e1.2
  have epr:qm ps r=p:=ep
  rw [epr] at fin
  obtain ⟨tp,hat,etp⟩:=iI rp e1.1 hp
  rw [fj op.1] at etp
  obtain ⟨_,_,_,⟨g1,g2,g3⟩,_⟩:=id op
  refine ⟨_,rfl,_,rfl,ap,xp,_,.ref tp,rfl,rfl,SqT.of rp.e,hat,tp,_,2,.int (fl p 2),rfl,rfl,SqT.of etp,rfl,?_⟩
  refine ⟨_,rfl,_,rfl,ap,xp,_,.ref tp,rfl,rfl,SqT.of rp.e,hat,tp,_,3,.int (fl p 3),rfl,rfl,SqT.of etp,rfl,?_⟩
  refine ⟨_,_,rfl,?_⟩
  dsimp only
  refine aK ?_
  refine bK (p:=fun i j=>decide (i≤j)) (q:=fun i j=>decide (i≤j)) (i:=1) (j:=fl r 3) (k:=99) dq (cU rfl) dq _ ⟨_,rfl,?_⟩
  dsimp only
  cases e5:(decide (1≤fl r 3) && decide (fl r 3≤99)) with
  | false =>
   rw [e5] at fin
   exact aY (aY (fin H (Same.refl H)))
  | true =>
  rw [e5] at fin
  refine bf ?_
  refine bK (p:=fun i j=>decide (i≤j)) (q:=fun i j=>decide (i≤j)) (i:=fl p 2) (j:=fl r 4) (k:=fl p 3) (cU rfl) (cU rfl) (cU rfl) _ ⟨_,rfl,?_⟩
  dsimp only
  cases e6:(decide (fl p 2≤fl r 4) && decide (fl r 4≤fl p 3)) with
  | false =>
   rw [e6] at fin
   exact aY (fin H (Same.refl H))
  | true =>
  rw [e6] at fin
  rw [Bool.and_eq_true,decide_eq_true_eq,decide_eq_true_eq] at e6
  refine bf ?_
  refine bN ?_
  dsimp only
  refine ⟨_,rfl,_,rfl,_,_,rfl,rfl,fl r 4,fl p 3+1,rfl,⟨by omega,by omega,by omega,by omega⟩,?_⟩
  refine sH (fun ys Hc=>Same H Hc∧ys=((years (fl r 4) (fl p 3)).take ys.length).map fun y=>V.int (g (fl r 0) y (fl r 1))) ⟨Same.refl _,rfl⟩ (by rw [sizeLine_eq]; omega) ?_ ?_
  ·rintro i ys Hc Qc hi hy ⟨sc,ey⟩ qc
   refine ⟨_,rfl,_,rfl,_,rfl,(by show 2≤sizeLine; decide),fun k hk=>?_⟩
   have sk:=sc.updR (o:=.tup [V.int (fl r 0),V.int (fl r 4+i)]) hk
   have dk:=dt.same sk
   obtain ⟨d,kv,q1,q2,q3,q4⟩:=dk.g (fl r 0) (fl r 4+i) ⟨e1.1,e1.2,by rw [ep]; omega,by rw [ep]; omega⟩
   refine ⟨fo,.ref d,rfl,by rw [← q1]; exact DGet.t dk.e ak,?_⟩
   refine ⟨d,rfl,.inl ⟨kv,.inl q2⟩,_,rfl,_,DGet.k (k:=.inl (fl r 1)) q2,?_⟩
   rw [q4 _ e2.1 e2.2]
   refine qc _ _ ⟨sk,?_⟩
   have hx:(years (fl r 4) (fl p 3))[ys.length]?=some (fl r 4+(i:Int)):=by
    rw [hy]
    exact jR hi
   exact oW ey hx
  ·rintro ys Hc hy ⟨sc,ey⟩ D hD
   rw [List.take_of_length_le (by rw [jQ,hy]; exact Nat.le_refl _)] at ey
   refine ⟨D,(years (fl r 4) (fl p 3)).map fun y=>g (fl r 0) y (fl r 1),rfl,SqL.of (by rw [List.map_map]; rw [ey]; exact ak),?_,fun M h1 h2=>⟨_,rfl,_,_,rfl,rfl,?_⟩⟩
   ·intro z
    have:=congrArg List.length z
    rw [List.length_map,jQ,List.length_nil] at this
    omega
   ·have em:=Bm (k:=fl r 3) h1 h2
    rw [List.all_map] at em
    show Q (.bl (decide (fl r 3≤M))) _
    rw [em]
    exact fin _ (sc.updR hD)
end
end K04

set_option Elab.async false
set_option linter.all false
set_option maxRecDepth 100000
set_option maxHeartbeats 2000000
namespace K04
open PySem L2
noncomputable def dl (s:List Int) (h:Int):Int:=(if h=fl s 2 then fl s 3 else 0) - (if h=fl s 1 then fl s 3 else 0)
noncomputable def fS (f:Int→Int→Int→Int) (s:List Int) (n y h:Int):Int:=if n=fl s 0∧fl s 4≤y then f n y h+dl s h else f n y h
theorem Bp {H:Hp} {d:Addr} {a b:HO}:upd (upd H d a) d b=upd H d b:=by
 funext c
 by_cases h:c=d
 ·subst h
  rw [ak,ak]
 ·rw [az h,az h,az h]
theorem sJ {L:List Int} {i v h:Int} (hl:L.length=8) (i0:0≤i) (i1:i < 8) (h0:0≤h) (h1:h < 8):(jP L i v).getD h.toNat 0=L.getD h.toNat 0+(if h=i then v else 0):=by
 unfold jP
 rw [List.getD_eq_getElem?_getD,List.getElem?_set]
 by_cases hh:h=i
 ·subst hh
  rw [if_pos rfl,if_pos rfl,if_pos (by omega)]
  rfl
 ·rw [if_neg (by omega),if_neg hh,← List.getD_eq_getElem?_getD]
  omega
theorem wL {L s:List Int} {n y h:Int} (hl:L.length=8) (ok:okS s) (h0:0≤h) (h1:h < 8):(hstep n y L s).getD h.toNat 0=if n=fl s 0∧fl s 4≤y then L.getD h.toNat 0+dl s h else L.getD h.toNat 0:=by
 obtain ⟨_,⟨a1,a2⟩,b1,b2⟩:=ok
 unfold hstep dl
 by_cases hc:fl s 0=n∧fl s 4≤y
 ·rw [if_pos hc,if_pos ⟨hc.1.symm,hc.2⟩,sJ (by rw [jo]; exact hl) b1 b2 h0 h1,sJ hl a1 a2 h0 h1]
  split <;> split <;> omega
 ·rw [if_neg hc,if_neg fun z=>hc ⟨z.1.symm,z.2⟩]
theorem wM {p s:List Int} {ss:List (List Int)} {n y h:Int} (hin:fl p 2≤y∧y≤fl p 3) (ok:okS s) (h0:0≤h) (h1:h < 8) :
  (bQ p (ss++[s]) n y).getD h.toNat 0=if n=fl s 0∧fl s 4≤y then (bQ p ss n y).getD h.toNat 0+dl s h else (bQ p ss n y).getD h.toNat 0:=by
 have hl:=fD p ss n y
 have e:bQ p (ss++[s]) n y=hstep n y (bQ p ss n y) s:=by
  unfold bQ
  rw [if_pos hin,if_pos hin,List.foldl_append]
  rfl
 rw [e,wL hl ok h0 h1]
noncomputable def yW:Sp:=fun vs H Q _=>∃ ap xp ps fo H0 f b kvs t s,vs=[.ref ap,.ref fo,.ref t]∧RowsAt H ap xp ps∧(∀ r∈ps,okP r)∧Dts fo H0 H (dom ps) f (fun _ _=>b) kvs∧b≤1000∧H t=some (.tup (s.map V.int))∧s.length=5∧mL ps f s=true ∧
 ∀ H',Dts fo H0 H' (dom ps) (fS f s) (fun _ _=>b+2) kvs→Q .non H'
section
variable {P:Program} {w:World} {K:PySem.W.Frag} {mg:Str→Option Value} {base:Heap}
theorem sc36s:FnScope ["_law_promises_here","_law_rows","_law_sale","_law_number","_law_seller","_law_buyer","_law_sacks","_law_year","_law_one","_law_row"] ["_law_promises_here","_law_rows","_law_sale"] (aD (top 54)):=⟨rfl,rfl,rfl,by decide +kernel,rfl,by decide +kernel,by decide +kernel⟩
theorem Bq {f:Addr} {fd:FuncData} (F:Fun K "_law_sell" "_law_sell" (top 54) f fd) (Tr:mg "range" = none):FnOk P w K mg base CX0 1 f fd ["_law_promises_here","_law_rows","_law_sale"] yW:=by
 refine F.ok sc36s (fun vs H Q E h=>?_) (fun cdv A outer s H vs Q E hr h=>?_)
 ·obtain ⟨ap,xp,ps,fo,H0,g,b,kvs,t,r,rfl,_⟩:=h
  rfl
 ·obtain ⟨ap,xp,ps,fo,H0,g,b,kvs,t,r,rfl,rp,okp,dt,hb,et,h5,hh,q⟩:=h
  refine ⟨_,aA (dC (pv 2) (cR rfl (aF (aC (i:=3) sc36s.nd rfl (Or.inl rfl)) (aF (aC (i:=4) sc36s.nd rfl (Or.inl rfl)) (aF (aC (i:=5) sc36s.nd rfl (Or.inl rfl)) (aF (aC (i:=6) sc36s.nd rfl (Or.inl rfl)) (aF (aC (i:=7) sc36s.nd rfl (Or.inl rfl)) bV)))))))
   (aB (dF PassesOwn.never rfl (iw rfl Tr (aq (pv 7) (aq (aX bT (bh bx (bh bx (pv 0) (pv 3) (fun _ _=>rfl)) ao (fun _ _=>rfl)) ao) aj))) (aC (i:=8) sc36s.nd rfl (Or.inl rfl))
    (aA (bw (i:=9) sc36s.nd rfl (Or.inl rfl) (jf (gU hr) (pv 1) (bW (aq (pv 3) (aq (pv 8) aj))) (fun _ _=>rfl)))
    (aA (pN (gU hr) (pv 9) (pv 4) (aX jw (jf (gU hr) (pv 9) (pv 4) (fun _ _=>rfl)) (pv 6)) rfl)
    (aB (pN (gU hr) (pv 9) (pv 5) (aX bT (lN (gU hr) (pv 9) (pv 5) ao (by constructor <;> rfl)) (pv 6)) rfl)))))),?_⟩
  rw [il h5] at et
  unfold mL nO at hh
  simp only [Bool.and_eq_true,decide_eq_true_eq,Bool.not_eq_true',decide_eq_false_iff_not] at hh
  obtain ⟨⟨⟨n0,n1⟩,⟨a1,a2⟩,⟨b1,b2⟩,nab,⟨k1,k2⟩,y0,y1⟩,hy⟩:=hh
  obtain ⟨p,hp,ep,op⟩:=fu okp n0 n1
  have epr:qm ps r=p:=ep
  rw [epr] at y0 y1 hy
  obtain ⟨tp,hat,etp⟩:=iI rp n0 hp
  rw [fj op.1] at etp
  obtain ⟨_,_,_,⟨g1,g2,g3⟩,_⟩:=id op
  refine aK ?_
  refine ⟨_,rfl,t,_,rfl,SqT.of et,rfl,_,_,rfl,_,_,rfl,_,_,rfl,_,_,rfl,_,_,rfl,rfl,?_⟩
  dsimp only
  refine ⟨_,rfl,_,rfl,_,rfl,ap,xp,_,.ref tp,rfl,rfl,SqT.of rp.e,hat,tp,_,3,.int (fl p 3),rfl,rfl,SqT.of etp,rfl,_,_,rfl,rfl,fl r 4,fl p 3+1,rfl,⟨by omega,by omega,by omega,by omega⟩,?_⟩
  refine cQ (lo:=fl r 4) (n:=(fl p 3+1 - fl r 4).toNat) (fun j σ Hj=>∃ x8 x9,σ=[some (.ref ap),some (.ref fo),some (.ref t),some (.int (fl r 0)),some (.int (fl r 1)),some (.int (fl r 2)),some (.int (fl r 3)),some (.int (fl r 4)),x8,x9] ∧
   Dts fo H0 Hj (dom ps) (fun n y h=>if n=fl r 0∧fl r 4≤y∧y < fl r 4+j then g n y h+dl r h else g n y h) (fun n y=>if n=fl r 0∧fl r 4≤y∧y < fl r 4+j then b+2 else b) kvs) ?_ ?_ ?_
  ·refine ⟨none,none,rfl,dt.cast fun n y hd=>?_⟩
   rw [if_neg (by omega)]
   exact ⟨Nat.le_refl _,fun h _ _=>by rw [if_neg (by omega)]⟩
  ·rintro j σ Hj hj ⟨x8,x9,rfl,dj⟩
   refine aP ?_
   refine aK ?_
   refine aZ ?_
   refine ⟨_,rfl,_,rfl,_,rfl,(by show 2≤sizeLine; decide),fun k hk=>?_⟩
   have dk:=dj.new (o:=.tup [V.int (fl r 0),V.int (fl r 4+j)]) hk
   have ek:upd Hj k (.tup [V.int (fl r 0),V.int (fl r 4+j)]) k=some (.tup ((ky (fl r 0) (fl r 4+j)).map kV)):=ak
   generalize upd Hj k (.tup [V.int (fl r 0),V.int (fl r 4+j)])=H1 at dk ek ⊢
   have hdom:dom ps (fl r 0) (fl r 4+j):=⟨n0,n1,by rw [ep]; omega,by rw [ep]; omega⟩
   obtain ⟨d,kv,q1,q2,⟨q3,qk⟩,q4⟩:=dk.g _ _ hdom
   rw [if_neg (by omega)] at q3
   refine ⟨fo,.ref d,rfl,by rw [← q1]; exact DGet.t dk.e ek,?_⟩
   refine aP ?_
   dsimp only
   have fsel:=q4 (fl r 1) a1 a2
   rw [if_neg (by omega)] at fsel
   have hge:fl r 3≤g (fl r 0) (fl r 4+j) (fl r 1):=by
    have:=List.all_eq_true.mp hy (fl r 4+j) (List.mem_of_getElem? (jR hj))
    exact of_decide_eq_true this
   have vsel:cg kv (.inl (fl r 1))=some (.int (g (fl r 0) (fl r 4+j) (fl r 1))):=by
    cases ev:cg kv (.inl (fl r 1)) with
    | none =>
     rw [ev] at fsel
     injection fsel with fsel
     omega
    | some v =>
     rw [ev] at fsel
     exact congrArg some fsel
   have fbuy:=q4 (fl r 2) b1 b2
   rw [if_neg (by omega)] at fbuy
   refine aK ?_
   refine ⟨_,rfl,_,rfl,d,_,rfl,by rw [← vsel]; exact DGet.k (k:=.inl (fl r 1)) q2,_,rfl,_,_,rfl,rfl,_,rfl,_,rfl,d,_,rfl,DPut.k (k:=.inl (fl r 1)) q2 (by rw [sizeLine_eq]; omega),?_⟩
   dsimp only
   have lp1:=cA kv (.inl (fl r 1)) (V.int (g (fl r 0) (fl r 4+j) (fl r 1) - fl r 3))
   have vb:(cg (putK kv (.inl (fl r 1)) (V.int (g (fl r 0) (fl r 4+j) (fl r 1) - fl r 3))) (.inl (fl r 2))).getD (.int 0)=.int (g (fl r 0) (fl r 4+j) (fl r 2)):=by
    rw [eF,if_neg (fun z=>nab (by injection z with z; exact z.symm))]
    exact fbuy
   refine ⟨_,rfl,d,rfl,.inl ⟨_,.inl ak⟩,_,rfl,_,DGet.k (k:=.inl (fl r 2)) ak,_,rfl,_,_,vb,rfl,_,rfl,_,rfl,d,_,rfl,DPut.k (k:=.inl (fl r 2)) ak (by rw [sizeLine_eq]; omega),?_⟩
   have lp2:=cA (putK kv (.inl (fl r 1)) (V.int (g (fl r 0) (fl r 4+j) (fl r 1) - fl r 3))) (.inl (fl r 2)) (V.int (g (fl r 0) (fl r 4+j) (fl r 2)+fl r 3))
   refine ⟨_,_,rfl,?_⟩
   rw [Bp]
   refine dk.wr q1 ⟨⟨?_,(qk.put a1 a2 _).put b1 b2 _⟩,fun h h0 h8=>?_⟩ fun n y hd hne=>⟨?_,fun h h0 h8=>?_⟩
   ·rw [if_pos ⟨rfl,by omega,by omega⟩]
    exact Nat.le_trans (cA _ _ _) (Nat.succ_le_succ (Nat.le_trans (cA _ _ _) (Nat.succ_le_succ q3)))
   ·rw [if_pos ⟨rfl,by omega,by omega⟩,eF]
    unfold dl
    by_cases hb2:h=fl r 2
    ·rw [if_pos (by rw [hb2]),if_pos hb2,if_neg (fun z=>nab (z.symm.trans hb2))]
     show V.int _=V.int _
     rw [hb2]
     congr 1
     omega
    ·rw [if_neg (fun z=>hb2 (by injection z)),if_neg hb2,eF]
     by_cases hs2:h=fl r 1
     ·rw [if_pos (by rw [hs2]),if_pos hs2]
      show V.int _=V.int _
      rw [hs2]
      congr 1
      omega
     ·rw [if_neg (fun z=>hs2 (by injection z)),if_neg hs2]
      have:=q4 h h0 h8
      rw [if_neg (by omega)] at this
      rw [this]
      congr 1
      omega
   ·split <;> split <;> omega
   ·by_cases hc:n=fl r 0∧fl r 4≤y∧y < fl r 4+j
    ·rw [if_pos hc,if_pos ⟨hc.1,hc.2.1,by omega⟩]
    ·rw [if_neg hc,if_neg fun z=>hc ⟨z.1,z.2.1,by
      have:y≠fl r 4+j:=fun w=>hne ⟨z.1,w⟩
      omega⟩]
  ·rintro σ Hj ⟨x8,x9,rfl,dj⟩
   refine q Hj (dj.cast fun n y hd=>⟨by split <;> omega,fun h h0 h8=>?_⟩)
   unfold fS
   by_cases hc:n=fl r 0∧fl r 4≤y
   ·have:y≤fl p 3:=by
     have:=hd.2.2.2
     rw [hc.1,ep] at this
     exact this
    rw [if_pos hc,if_pos ⟨hc.1,hc.2,by omega⟩]
   ·rw [if_neg hc,if_neg fun z=>hc ⟨z.1,z.2.1⟩]
noncomputable def qy:Sp:=fun vs H Q _=>∃ ap xp ps as_ xs ss,vs=[.ref ap,.ref as_]∧RowsAt H ap xp ps∧ps.length≤10∧(∀ r∈ps,okP r)∧RowsAt H as_ xs ss∧ss.length≤100∧(∀ s∈ss,s.length=5)∧∀ t fo H',Same H H'→H' t=some (.tup [.ref fo,unV (un ps ss)]) →
 (un ps ss=none→∃ b kvs,Dts fo H H' (dom ps) (fun n y h=>(bQ (ps.getD n.toNat []) ss n y).getD h.toNat 0) b kvs)→Q (.ref t) H'
noncomputable def ul:Sp:=fun vs H Q _=>∃ ap xp ps as_ xs ss,vs=[.ref ap,.ref as_]∧RowsAt H ap xp ps∧ps.length≤10∧(∀ r∈ps,okP r)∧RowsAt H as_ xs ss∧ss.length≤100∧(∀ s∈ss,s.length=5)∧∀ t fo H',Same H H'→H' t=some (.tup [.ref fo,unV (un ps ss)])→Q (.ref t) H'
theorem yX {ps:List (List Int)} {n y h:Int} (ok:okP (ps.getD n.toNat [])) (hin:fl (ps.getD n.toNat []) 2≤y∧y≤fl (ps.getD n.toNat []) 3) (h0:0≤h) (h8:h < 8):(bQ (ps.getD n.toNat []) [] n y).getD h.toNat 0=f0 ps n y h:=by
 unfold bQ f0
 rw [if_pos hin]
 generalize ps.getD n.toNat []=p at ok
 obtain ⟨_,⟨a1,a2⟩,_⟩:=ok
 show (base0 p).getD h.toNat 0=_
 unfold base0
 rw [List.getD_eq_getElem?_getD,List.getElem?_set]
 by_cases hh:h=fl p 0
 ·rw [if_pos (by rw [hh]),if_pos (by rw [List.length_replicate]; omega),if_pos hh]
  rfl
 ·rw [if_neg (by omega),if_neg hh,List.getElem?_replicate,if_pos (by omega)]
  rfl
theorem sc37s:FnScope ["_law_promises_here","_law_sales_here","_law_rows","_law_at","_law_sale"] ["_law_promises_here","_law_sales_here"] (aD (top 55)):=⟨rfl,rfl,rfl,by decide +kernel,rfl,by decide +kernel,by decide +kernel⟩
theorem sO {f:Addr} {fd:FuncData} (F:Fun K "_law_sold" "_law_sold" (top 55) f fd) (Te:mg "enumerate" = none) (c1:Cal P w K mg base 1 "_law_begun" ["_law_promises_here"] vf) (c2:Cal P w K mg base 1 "_law_holds" ["_law_promises_here","_law_rows","_law_sale"] sI) (c3:Cal P w K mg base 1 "_law_sell" ["_law_promises_here","_law_rows","_law_sale"] yW) :
  FnOk P w K mg base CX0 2 f fd ["_law_promises_here","_law_sales_here"] qy:=by
 refine F.ok sc37s (fun vs H Q E h=>?_) (fun cdv A outer s H vs Q E hr h=>?_)
 ·obtain ⟨ap,xp,ps,as_,xs,ss,rfl,_⟩:=h
  rfl
 ·obtain ⟨ap,xp,ps,as_,xs,ss,rfl,rp,lp,okp,rs,ls,oks,q⟩:=h
  refine ⟨_,aA (bw (i:=2) sc37s.nd rfl (Or.inl rfl) (aH c1 hr (Nat.le_refl _) rfl (aq (pv 0) aj)))
   (aA (dF PassesOwn.never rfl (pi_enum rfl Te (aq (pv 1) aj)) (cR rfl (aF (aC (i:=3) sc37s.nd rfl (Or.inl rfl)) (aF (aC (i:=4) sc37s.nd rfl (Or.inl rfl)) bV)))
    (aA (bF (bA (bG (aH c2 hr (Nat.le_refl _) rfl (aq (pv 0) (aq (pv 2) (aq (pv 4) aj)))))) (aB (aN (bW (aq (pv 2) (aq (pv 3) aj))))) aV)
    (aB (eY (aH c3 hr (Nat.le_refl _) rfl (aq (pv 0) (aq (pv 2) (aq (pv 4) aj))))))))
   (aB (aN (bW (aq (pv 2) (aq ju aj)))))),?_⟩
  refine aK ?_
  refine aZ ?_
  refine ⟨_,rfl,ap,xp,ps,rfl,rp,lp,okp,fun fo H1 kvs d1=>?_⟩
  refine aP ?_
  dsimp only
  refine aK ?_
  refine ⟨_,rfl,as_,xs,rfl,SqT.of (d1.sm _ _ rs.e),?_⟩
  have okd:∀ n y,dom ps n y→okP (ps.getD n.toNat []):=fun n y hd=>by
   obtain ⟨p,_,e2,e3⟩:=fu okp hd.1 hd.2.1
   rw [e2]
   exact e3
  refine lW (xs:=xs) (fun i σ Hc=>∃ x3 x4,σ=[some (.ref ap),some (.ref as_),some (.ref fo),x3,x4]∧Dts fo H Hc (dom ps) (fun n y h=>(bQ (ps.getD n.toNat []) (ss.take i) n y).getD h.toNat 0) (fun _ _=>1+2 * i) kvs∧∀ j,j < i→d9 ps (ss.take j) (ss.getD j [])=true) ?_ ?_ ?_ ?_
  ·exact ⟨none,none,rfl,d1.cast fun n y hd=>⟨Nat.le_refl _,fun h h0 h8=>yX (okd n y hd) hd.2.2 h0 h8⟩,fun j hj=>absurd hj (Nat.not_lt_zero _)⟩
  ·rintro i σ Hc hi ⟨x3,x4,rfl,dt,hh⟩
   exact SqT.of (dt.sm _ _ rs.e)
  ·rintro i x σ Hc T0 hx ⟨x3,x4,rfl,dt,hh⟩ nT
   have hi:i < ss.length:=by
    have:=(List.getElem?_eq_some_iff.mp hx).1
    rw [rs.l] at this
    exact this
   obtain ⟨tr,ex2,etr⟩:=rs.g i ss[i] (List.getElem?_eq_getElem hi)
   have:x=.ref tr:=by
    rw [hx] at ex2
    exact Option.some.inj ex2
   subst this
   have h5:=oks ss[i] (List.getElem_mem hi)
   have dT:=dt.new (o:=.tup [V.int i,V.ref tr]) nT
   have eT:upd Hc T0 (.tup [V.int i,V.ref tr]) T0=some (.tup [V.int i,V.ref tr]):=ak
   generalize upd Hc T0 (.tup [V.int i,V.ref tr])=H2 at dT eT ⊢
   refine ⟨T0,_,rfl,SqT.of eT,rfl,_,_,rfl,_,_,rfl,rfl,?_⟩
   refine aK ?_
   refine ⟨_,rfl,_,rfl,_,rfl,ap,xp,ps,fo,H,_,_,kvs,tr,ss[i],rfl,rp.same dT.sm,okp,dT,dT.sm _ _ etr,h5,fun H3 s3=>⟨_,rfl,?_⟩⟩
   have d3:=dT.same s3
   have ehb:mL ps (fun n y h=>(bQ (ps.getD n.toNat []) (ss.take i) n y).getD h.toNat 0) ss[i]=d9 ps (ss.take i) ss[i]:=rfl
   cases eh:d9 ps (ss.take i) ss[i] with
   | false =>
    rw [ehb,eh]
    refine aY ⟨_,rfl,_,rfl,(by show 2≤sizeLine; decide),fun t ht=>q t fo _ (d3.sm.updR ht) ?_ fun z=>?_⟩
    ·rw [qx hh hi (by rw [getD_get hi]; exact eh)]
     exact ak
    ·rw [qx hh hi (by rw [getD_get hi]; exact eh)] at z
     cases z
   | true =>
    rw [ehb,eh]
    refine bf ?_
    refine bN ?_
    refine ⟨_,rfl,_,rfl,_,rfl,ap,xp,ps,fo,H,_,1+2 * i,kvs,tr,ss[i],rfl,rp.same d3.sm,okp,d3,by omega,d3.sm _ _ etr,h5,ehb.trans eh,fun H4 d4=>?_⟩
    have etk:ss.take (i+1)=ss.take i++[ss[i]]:=by rw [List.take_add_one,List.getElem?_eq_getElem hi]; rfl
    refine ⟨_,_,rfl,d4.cast fun n y hd=>⟨by omega,fun h h0 h8=>?_⟩,fun j hj=>?_⟩
    ·rw [etk,wM hd.2.2 (mK h5 eh) h0 h8]
     rfl
    ·rcases Nat.lt_succ_iff_lt_or_eq.mp hj with z | z
     ·exact hh j z
     ·rw [z,getD_get hi]
      exact eh
  ·rintro σ Hc ⟨x3,x4,rfl,dt,hh⟩
   refine ⟨_,rfl,(by show 2≤sizeLine; decide),fun t ht=>q t fo _ (dt.sm.updR ht) ?_ fun _=>?_⟩
   ·rw [vd fun j hj=>hh j (by rw [rs.l]; exact hj)]
    exact ak
   ·rw [show xs.length=ss.length from rs.l,List.take_length] at dt
    exact ⟨_,kvs,dt.new ht⟩
theorem Br {f:Addr} {fd:FuncData} (F:FnOk P w K mg base CX0 2 f fd ["_law_promises_here","_law_sales_here"] qy):FnOk P w K mg base CX0 2 f fd ["_law_promises_here","_law_sales_here"] ul:=by
 refine F.imp fun vs H Q E h=>?_
 obtain ⟨ap,xp,ps,as_,xs,ss,rfl,rp,lp,okp,rs,ls,oks,q⟩:=h
 exact ⟨ap,xp,ps,as_,xs,ss,rfl,rp,lp,okp,rs,ls,oks,fun t fo H' s e _=>q t fo H' s e⟩
end
end K04

set_option Elab.async false
set_option linter.all false
set_option maxRecDepth 100000
set_option maxHeartbeats 4000000
namespace K04
open PySem L2
noncomputable def Fi (st:Addr) (H:Hp) (n:Int) (v:V) (H':Hp):Prop:=∃ ps:List (List Int),But st H H'∧fP H' st∧IsTh (fun _=>False) H' v (cI ps)∧(ps.length:Int)≤n∧∀ r∈ps,okP r
section
variable {P:Program} {w:World} {K:PySem.W.Frag} {mg:Str→Option Value} {base:Heap}
noncomputable def sS:Sp:=fun vs H Q _=>∃ st n y,vs=[.ref st,.int n,.int y]∧fP H st∧1≤n∧n≤10∧0≤y∧y≤1000∧∀ v H',Fi st H n v H'→Q v H'
theorem qz {f:Addr} {fd:FuncData} (F:Fun K "_law_promises" "_law_promises" (top 51) f fd) (T:Mg mg) (Tr:mg "range" = none) (Tm:mg "min" = none) (c1:Cal P w K mg base 1 "_law_take" ["_law_state_here","_law_many"] ik):FnOk P w K mg base CX0 2 f fd ["_law_state_here","_law_most","_law_years"] sS:=by
 refine F.ok sc22 (fun vs H Q E h=>?_) (fun cdv A outer s H vs Q E hr h=>?_)
 ·obtain ⟨st,n,y,rfl,_⟩:=h
  rfl
 ·obtain ⟨st,n,y,rfl,hst,n1,n2,y1,y2,q⟩:=h
  refine ⟨_,aA (tH (i:=3) (j:=4) rfl sc22.nd rfl rfl (by decide) rfl rfl (aq (eQ aj) (aq (bh bz (eQ (iB (by repeat constructor))) (aH c1 hr (by decide) rfl (aq (pv 0) (aq ao aj))) (fun _ _=>rfl)) aj)) rfl)
   (aA (dF PassesOwn.never rfl (dg rfl Tr (aq (aH c1 hr (by decide) rfl (aq (pv 0) (aq (aX bT (pv 1) ao) aj))) aj)) (aC (i:=5) sc22.nd rfl (Or.inl rfl))
    (aA (bw (i:=6) sc22.nd rfl (Or.inl rfl) (aH c1 hr (by decide) rfl (aq (pv 0) (aq (aJ (jA rfl) rfl Tm boot_min (aq ao (aq (aX bT (pv 2) ao) aj))) aj))))
    (aA (bw (i:=7) sc22.nd rfl (Or.inl rfl) (aJ (jA rfl) rfl Tm boot_min (aq ao (aq (aX bT (pv 6) (aH c1 hr (by decide) rfl (aq (pv 0) (aq (bh bz (eQ (iB (by repeat constructor))) (aH c1 hr (by decide) rfl (aq (pv 0) (aq ao aj))) (fun _ _=>rfl)) aj)))) aj))))
    (aA (bw (i:=8) sc22.nd rfl (Or.inl rfl) (bh bz (pU (j6 ao (j6 ao (j6 (aH c1 hr (by decide) rfl (aq (pv 0) (aq ao aj))) (j6 (aX jy ao ao) bC))))) (aH c1 hr (by decide) rfl (aq (pv 0) (aq ao aj))) (fun _ _=>rfl)))
    (aA (bw (i:=9) sc22.nd rfl (Or.inl rfl) (bh bz (pU (j6 ao (j6 ao (j6 ao (j6 (aH c1 hr (by decide) rfl (aq (pv 0) (aq ao aj))) bC))))) (aH c1 hr (by decide) rfl (aq (pv 0) (aq ao aj))) (fun _ _=>rfl)))
    (aB (eY (iK PySem.F.plainAttrs_list PySem.F.slot_list_append PySem.F.type_list_append iy (pv 3) (aq (xU (gk (aR ⟨pv 9⟩ (aR ⟨aH c1 hr (by decide) rfl (aq (pv 0) (aq ao aj))⟩ (aR ⟨pv 6⟩ (aR ⟨pv 7⟩ (aR ⟨aX bT ao (aH c1 hr (by decide) rfl (aq (pv 0) (aq (pv 4) aj)))⟩ (aR ⟨pv 8⟩ bC)))))))) aj)))))))))
   (aB (aN (dR dX rfl T.tuple boot_tuple (aq (pv 3) aj))))),?_⟩
  obtain ⟨a,b,es,h1,h2,h3⟩:=id hst
  refine aK ?_
  refine ⟨(by show 0≤sizeLine; decide),fun p3 hp3=>?_⟩
  have np3:p3≠st:=fun z=>by
   rw [z,es] at hp3
   cases hp3
  have g0:Mk3 st p3 [] [] H (upd H p3 (.lst [])):=⟨fun b' o' e' _=>Same.upd hp3 _ _ e',⟨a,b,Same.upd hp3 _ _ es,h1,h2,h3⟩,ak,.nil⟩
  refine ⟨(by show 3≤sizeLine; decide),fun p hp=>?_⟩
  have g1:=g0.new (o:=.lst (([3,12,99]:List Int).map V.int)) hp
  have np:p≠st:=fun z=>by
   obtain ⟨x,y,e7,_⟩:=g0.sa
   rw [z,e7] at hp
   cases hp
  refine ⟨_,rfl,st,3,rfl,g1.sa,by decide,by decide,fun r a1 b1 r0 r1 k1 k2 k3=>?_⟩
  obtain ⟨wd,hw,w1,w2⟩:∃ wd:Int,atI (([3,12,99]:List Int).map V.int) r=some (.int wd)∧1≤wd∧wd≤99:=by
   have:r=0∨r=1∨r=2:=by omega
   rcases this with rfl | rfl | rfl
   ·exact ⟨3,rfl,by decide,by decide⟩
   ·exact ⟨12,rfl,by decide,by decide⟩
   ·exact ⟨99,rfl,by decide,by decide⟩
  refine ⟨p,_,r,.int wd,rfl,rfl,SqL.of (by rw [az np]; exact ak),hw,_,_,rfl,?_⟩
  have g2:=g1.take np3 k1 k2 k3
  dsimp only
  refine aK ?_
  refine ⟨_,rfl,_,rfl,_,_,rfl,rfl,st,n+1,rfl,g2.sa,by omega,by omega,fun r2 a2 b2 x0 x1 z1 z2 z3=>⟨r2,rfl,by omega,by omega,?_⟩⟩
  have g3:=g2.take np3 z1 z2 z3
  refine cQ (lo:=0) (n:=r2.toNat) (fun i σ H'=>∃ xs ds x5 x6 x7 x8 x9,σ=[some (.ref st),some (.int n),some (.int y),some (.ref p3),some (.int wd),x5,x6,x7,x8,x9]∧Mk3 st p3 xs ds H H'∧(∃ rs:List (List Int),ds=rs.map d7∧rs.length=i∧∀ r∈rs,okP r)∧xs.length=i) ?_ ?_ ?_
  ·exact ⟨[],[],none,none,none,none,none,rfl,g3,⟨[],rfl,rfl,fun _ h=>nomatch h⟩,rfl⟩
  ·rintro i σ H' hi ⟨xs,ds,x5,x6,x7,x8,x9,rfl,g,⟨rs,ers,lrs,okr⟩,hl⟩
   have nst:∀ {Hc:Hp} {c:Addr},Mk3 st p3 xs ds H Hc→Hc c=none→c≠st:=fun {Hc c} gc hc z=>by
    obtain ⟨x,y,e7,_⟩:=gc.sa
    rw [z,e7] at hc
    cases hc
   refine aP ?_
   refine aK ?_
   refine aZ ?_
   refine ⟨_,rfl,_,rfl,_,_,rfl,rfl,_,_,rfl,st,_,rfl,g.sa,by split <;> omega,by split <;> omega,fun f1 a3 b3 o0 o1 o2 o3 o4=>?_⟩
   have g4:=g.take np3 o2 o3 o4
   have f2:f1 < 20:=by split at o1 <;> omega
   refine aP ?_
   dsimp only
   refine aK ?_
   refine aZ ?_
   refine ⟨_,rfl,_,rfl,(by show 3≤sizeLine; decide),fun p5 hp5=>?_⟩
   have n5:=nst g4 hp5
   have g5:=g4.new (o:=.lst (([1,4,20]:List Int).map V.int)) hp5
   refine ⟨_,rfl,st,3,rfl,g5.sa,by decide,by decide,fun r4 a4 b4 q0 q1 q2 q3 q4=>?_⟩
   obtain ⟨w5,hw5,w6,w7⟩:∃ w5:Int,atI (([1,4,20]:List Int).map V.int) r4=some (.int w5)∧1≤w5∧w5≤20:=by
    have:r4=0∨r4=1∨r4=2:=by omega
    rcases this with rfl | rfl | rfl
    ·exact ⟨1,rfl,by decide,by decide⟩
    ·exact ⟨4,rfl,by decide,by decide⟩
    ·exact ⟨20,rfl,by decide,by decide⟩
   have g6:=g5.take np3 q2 q3 q4
   refine ⟨p5,_,r4,.int w5,rfl,rfl,SqL.of (by rw [az n5]; exact ak),hw5,st,w5,rfl,g6.sa,w6,by omega,fun r5 a5 b5 s0 s1 s2 s3 s4=>⟨_,_,rfl,rfl,_,_,rfl,?_⟩⟩
   have g7:=g6.take np3 s2 s3 s4
   refine aP ?_
   dsimp only
   refine aK ?_
   refine aZ ?_
   refine ⟨_,rfl,st,1000,rfl,g7.sa,by decide,by decide,fun r6 a6 b6 t0 t1 t2 t3 t4=>⟨_,_,rfl,rfl,⟨by decide,by decide,by decide⟩,(by show 4≤sizeLine; decide),fun p6 hp6=>?_⟩⟩
   have g8:=g7.take np3 t2 t3 t4
   have n6:=nst g8 hp6
   have g9:=g8.new (o:=.lst [V.int 0,V.int 1,V.int r6,V.int (10 ^ (6:Int).toNat)]) hp6
   refine ⟨_,rfl,st,4,rfl,g9.sa,by decide,by decide,fun r7 a7 b7 u0 u1 u2 u3 u4=>?_⟩
   obtain ⟨pr,hpr,pr1,pr2⟩:∃ pr:Int,atI [V.int 0,V.int 1,V.int r6,V.int (10 ^ (6:Int).toNat)] r7=some (.int pr)∧0≤pr∧pr≤1000000:=by
    have:r7=0∨r7=1∨r7=2∨r7=3:=by omega
    rcases this with rfl | rfl | rfl | rfl
    ·exact ⟨0,rfl,by decide,by decide⟩
    ·exact ⟨1,rfl,by decide,by decide⟩
    ·exact ⟨r6,rfl,t0,by omega⟩
    ·exact ⟨_,rfl,by decide,by decide⟩
   have ga:=g9.take np3 u2 u3 u4
   refine ⟨p6,_,r7,.int pr,rfl,rfl,SqL.of (by rw [az n6]; exact ak),hpr,?_⟩
   refine aP ?_
   dsimp only
   refine aK ?_
   refine aZ ?_
   refine ⟨_,rfl,st,8,rfl,ga.sa,by decide,by decide,fun r8 a8 b8 v0 v1 v2 v3 v4=>⟨(by show 4≤sizeLine; decide),fun p7 hp7=>?_⟩⟩
   have gb:=ga.take np3 v2 v3 v4
   have n7:=nst gb hp7
   have gc:=gb.new (o:=.lst [V.int 0,V.int 1,V.int 2,V.int r8]) hp7
   refine ⟨_,rfl,st,4,rfl,gc.sa,by decide,by decide,fun r9 a9 b9 y0 y3 y4 y5 y6=>?_⟩
   obtain ⟨ho,hho,ho1,ho2⟩:∃ ho:Int,atI [V.int 0,V.int 1,V.int 2,V.int r8] r9=some (.int ho)∧0≤ho∧ho < 8:=by
    have:r9=0∨r9=1∨r9=2∨r9=3:=by omega
    rcases this with rfl | rfl | rfl | rfl
    ·exact ⟨0,rfl,by decide,by decide⟩
    ·exact ⟨1,rfl,by decide,by decide⟩
    ·exact ⟨2,rfl,by decide,by decide⟩
    ·exact ⟨r8,rfl,v0,v1⟩
   have gd:=gc.take np3 y4 y5 y6
   refine ⟨p7,_,r9,.int ho,rfl,rfl,SqL.of (by rw [az n7]; exact ak),hho,?_⟩
   refine aP ?_
   dsimp only
   refine ⟨_,rfl,.inl ⟨rfl,_,SqL.of gd.e3⟩,?_⟩
   refine ⟨_,rfl,_,rfl,st,3,rfl,gd.sa,by decide,by decide,fun ra aa ba c0 c1 c2 c3 c4=>?_⟩
   have ge:=gd.take np3 c2 c3 c4
   refine ⟨_,rfl,_,rfl,_,rfl,_,rfl,st,wd,rfl,ge.sa,w1,by omega,fun rb ab bb d0 d1 d2 d3 d4=>⟨_,_,rfl,rfl,_,rfl,(by show 6≤sizeLine; decide),fun l hl'=>?_⟩⟩
   have gf:=ge.take np3 d2 d3 d4
   have gg:=gf.new (o:=.tup [V.int ho,V.int ra,V.int f1,V.int (if f1+r5 < 19 then f1+r5 else 19),V.int (1+rb),V.int pr]) hl'
   have nl3:l≠p3:=fun z=>by
    rw [z,gf.e3] at hl'
    cases hl'
   refine ⟨p3,xs,.ref l,rfl,rfl,gg.e3,by rw [hl,sizeLine_eq]; omega,?_⟩
   refine ⟨xs++[.ref l],ds++[.tuple [.int ho,.int ra,.int f1,.int (if f1+r5 < 19 then f1+r5 else 19),.int (1+rb),.int pr]],_,_,_,_,_,rfl,⟨fun b' o' e' ne=>?_,?_,ak,?_⟩,?_,by rw [List.length_append,hl]; rfl⟩
   ·have:b'≠p3:=aG e' hp3
    rw [az this]
    exact gg.bt b' o' e' ne
   ·obtain ⟨x,y',e7,k⟩:=gg.sa
    exact ⟨x,y',by rw [az np3.symm]; exact e7,k⟩
   ·refine IsThs.append (gg.ts.keep (fun c l' e'=>?_) (fun _ _ z _=>z.elim) fun _ _ z _=>z.elim) (.cons (.tup (by rw [az nl3]; exact ak) (.cons (.int _) (.cons (.int _) (.cons (.int _) (.cons (.int _) (.cons (.int _) (.cons (.int _) .nil))))))) .nil)
    have:c≠p3:=fun z=>by
     rw [z,gg.e3] at e'
     cases e'
    rw [az this]
    exact e'
   ·refine ⟨rs++[[ho,ra,f1,(if f1+r5 < 19 then f1+r5 else 19),1+rb,pr]],by rw [ers,List.map_append]; rfl,by rw [List.length_append,lrs]; rfl,fun r hr=>?_⟩
    rcases List.mem_append.mp hr with z | z
    ·exact okr r z
    ·rw [List.mem_singleton.mp z]
     have lb:f1≤(if f1+r5 < 19 then f1+r5 else 19)∧(if f1+r5 < 19 then f1+r5 else 19)≤19:=by split <;> omega
     exact ⟨rfl,⟨ho1,ho2⟩,⟨c0,c1⟩,⟨o0,lb.1,lb.2⟩,⟨(by show 1≤1+rb; omega),(by show 1+rb≤99; omega)⟩,pr1,pr2⟩
  ·rintro σ H' ⟨xs,ds,x5,x6,x7,x8,x9,rfl,g,⟨rs,ers,lrs,okr⟩,hl⟩
   refine ⟨_,rfl,p3,xs,rfl,.inl ⟨SqL.of g.e3,fun l hl'=>?_⟩⟩
   have g':=g.new (o:=.tup xs) hl'
   rw [ers] at g'
   exact q _ _ ⟨rs,g'.bt,g'.sa,.tup ak (g'.ts.keep (fun _ _ e=>e) (fun _ _ z _=>z.elim) fun _ _ z _=>z.elim),by omega,okr⟩
end
end K04

set_option Elab.async false
set_option linter.all false
set_option maxRecDepth 100000
set_option maxHeartbeats 4000000
namespace K04
open PySem L2
theorem vg {X:Cx}:OpR X (binaryOp .Add) (fun x y H Q=>∃ a b xs ys,x=.ref a∧y=.ref b∧H a=some (.tup xs)∧H b=some (.tup ys)∧ys≠[]∧xs.length+ys.length≤sizeLine∧∀ c H',Same H H'→H' c=some (.tup (xs++ys))→Q (.ref c) H'):=by
 intro pins s σ H x y v u Q I rx ry h
 obtain ⟨a,b,xs,ys,rfl,rfl,ha,hb,hy,hz,q⟩:=h
 refine yh pins s σ H _ _ v u Q I rx ry ⟨a,b,xs,ys,rfl,rfl,SqT.of ha,SqT.of hb,hy,hz,fun e=>q b H (Same.refl H) (by rw [e]; exact hb),fun _ p hp=>q p _ (Same.upd hp) ak⟩
theorem Dr.rows {st a:Addr} {H H':Hp} {xs:List V} {rs:List (List Int)} (g:Dr st H H') (h0:fP H st) (r:RowsAt H a xs rs):RowsAt H' a xs rs:=by
 obtain ⟨x,y,e,_⟩:=h0
 exact r.keep fun b l e'=>g.bt _ _ e' fun z=>by
  rw [z,e] at e'
  cases e'
theorem oX:bootBuiltins "max" = some (.builtin "max"):=by decide +kernel
theorem oY {H:Hp} {a b t:Addr} {xs:List V} {rs:List (List Int)} {r:List Int} (h:RowsAt H a xs rs) (et:H t=some (.tup (r.map V.int))) (eb:H b=some (.tup (xs++[V.ref t]))):RowsAt H b (xs++[V.ref t]) (rs++[r]):=by
 refine ⟨eb,by rw [List.length_append,List.length_append,h.l]; rfl,fun i r' e=>?_⟩
 by_cases hi:i < rs.length
 ·rw [List.getElem?_append_left hi] at e
  rw [List.getElem?_append_left (by rw [h.l]; exact hi)]
  exact h.g i r' e
 ·rw [List.getElem?_append_right (by omega)] at e
  rw [List.getElem?_append_right (by rw [h.l]; omega),h.l]
  cases hj:i - rs.length with
  | zero =>
   rw [hj] at e
   injection e with e
   subst e
   exact ⟨t,rfl,et⟩
  | succ k =>
   rw [hj] at e
   simp at e
noncomputable def smR (s:List Int):Prop:=s.length=5∧∀ i∈s,-10≤i∧i≤2000000
noncomputable def Cd:Sp:=fun vs H Q _=>∃ st ap xp ps,vs=[.ref st,.ref ap]∧fP H st∧RowsAt H ap xp ps∧ps.length≤10∧(∀ r∈ps,okP r)∧∀ t s H',Dr st H H'→H' t=some (.tup (s.map V.int))→smR s→Q (.ref t) H'
section
variable {P:Program} {w:World} {K:PySem.W.Frag} {mg:Str→Option Value} {base:Heap}
theorem sc38s:FnScope ["_law_state_here","_law_promises_here","_law_number","_law_holder","_law_sort","_law_first","_law_last","_law_sacks","_law_price","_law_seller","_law_buyer","_law_year"] ["_law_state_here","_law_promises_here"] (aD (top 56)):=⟨rfl,rfl,rfl,by decide +kernel,rfl,by decide +kernel,by decide +kernel⟩
theorem Dv {f:Addr} {fd:FuncData} (F:Fun K "_law_any_sale" "_law_any_sale" (top 56) f fd) (T:Mg mg) (Tm:mg "max" = none) (c1:Cal P w K mg base 1 "_law_take" ["_law_state_here","_law_many"] ik):FnOk P w K mg base CX0 2 f fd ["_law_state_here","_law_promises_here"] Cd:=by
 refine F.ok sc38s (fun vs H Q E h=>?_) (fun cdv A outer s H vs Q E hr h=>?_)
 ·obtain ⟨st,ap,xp,ps,rfl,_⟩:=h
  rfl
 ·obtain ⟨st,ap,xp,ps,rfl,hst,rp,lp,okp,q⟩:=h
  refine ⟨_,aA (bw (i:=2) sc38s.nd rfl (Or.inl rfl) (aH c1 hr (Nat.le_refl _) rfl (aq (pv 0) (aq (aJ (nY rfl) rfl Tm oX (aq ao (aq (aJ aQ rfl T.len PySem.boot_len (aq (pv 1) aj)) aj))) aj))))
   (aA (dC (bh bx (aX vg (pv 1) (bW (aq (bW (iB (by repeat constructor))) aj))) (pv 2) (fun _ _=>rfl)) (cR rfl (aF (aC (i:=3) sc38s.nd rfl (Or.inl rfl)) (aF (aC (i:=4) sc38s.nd rfl (Or.inl rfl)) (aF (aC (i:=5) sc38s.nd rfl (Or.inl rfl))
    (aF (aC (i:=6) sc38s.nd rfl (Or.inl rfl)) (aF (aC (i:=7) sc38s.nd rfl (Or.inl rfl)) (aF (aC (i:=8) sc38s.nd rfl (Or.inl rfl)) bV))))))))
   (aA (bw (i:=9) sc38s.nd rfl (Or.inl rfl) (bh bz (eQ (aq (pv 3) (aq (pv 3) (aq (aH c1 hr (Nat.le_refl _) rfl (aq (pv 0) (aq ao aj))) aj)))) (aH c1 hr (Nat.le_refl _) rfl (aq (pv 0) (aq ao aj))) (fun _ _=>rfl)))
   (aA (bw (i:=10) sc38s.nd rfl (Or.inl rfl) (aX gR (aX bT (aX bT (pv 9) ao) (aH c1 hr (Nat.le_refl _) rfl (aq (pv 0) (aq ao aj)))) ao))
   (aA (bw (i:=11) sc38s.nd rfl (Or.inl rfl) (aX bT (pv 5) (aH c1 hr (Nat.le_refl _) rfl (aq (pv 0) (aq (aX bT (aX jw (pv 6) (pv 5)) ao) aj)))))
   (aB (aN (xU (gk (aR ⟨pv 2⟩ (aR ⟨pv 9⟩ (aR ⟨pv 10⟩ (aR ⟨aX bT ao (aH c1 hr (Nat.le_refl _) rfl (aq (pv 0) (aq (pv 7) aj)))⟩ (aR ⟨pv 11⟩ bC))))))))))))),?_⟩
  have g0:Dr st H H:=⟨But.refl,hst⟩
  have hxl:xp.length≤10:=by rw [rp.l]; exact lp
  refine aK ?_
  refine aZ ?_
  refine ⟨_,rfl,_,rfl,ap,xp,rfl,.inr (SqT.of rp.e),_,_,rfl,st,_,rfl,hst,?_,?_,fun r1 a1 b1 r0 rn k1 k2 k3=>?_⟩
  ·split <;> omega
  ·split <;> omega
  have g1:=g0.take k1 k2 k3
  have rp1:=g1.rows hst rp
  have rn2:r1.toNat < xp.length+1:=by split at rn <;> omega
  generalize upd H st (.lst [.int a1,.int b1])=H1 at g1 rp1 ⊢
  refine aP ?_
  dsimp only
  refine aK ?_
  refine ⟨_,rfl,(by show 6≤sizeLine; decide),fun t0 ht0=>⟨(by show 1≤sizeLine; decide),fun t1 ht1=>?_⟩⟩
  have g2:=(g1.new (o:=.tup (([0,0,0,3,9,0]:List Int).map V.int)) ht0).new (o:=.tup [V.ref t0]) ht1
  have m2:Same H1 (upd (upd H1 t0 (.tup (([0,0,0,3,9,0]:List Int).map V.int))) t1 (.tup [V.ref t0])):=(Same.upd ht0).updR ht1
  have et0:=Same.upd (o:=.tup [V.ref t0]) ht1 t0 (.tup (([0,0,0,3,9,0]:List Int).map V.int)) ak
  have et1:upd (upd H1 t0 (.tup (([0,0,0,3,9,0]:List Int).map V.int))) t1 (.tup [V.ref t0]) t1=some (.tup [V.ref t0]):=ak
  generalize upd (upd H1 t0 (.tup (([0,0,0,3,9,0]:List Int).map V.int))) t1 (.tup [V.ref t0])=H2 at g2 m2 et0 et1 ⊢
  refine ⟨ap,t1,xp,_,rfl,rfl,m2 _ _ rp1.e,et1,by simp,by rw [sizeLine_eq]; show xp.length+1≤_; omega,fun c H3 s3 ec=>?_⟩
  have g3:=g2.same s3
  have rp3:=oY ((rp1.same m2).same s3) (s3 _ _ et0) ec
  have hok3:∀ r∈ps++[[0,0,0,3,9,0]],okP r:=fun r hr=>by
   rcases List.mem_append.mp hr with z | z
   ·exact okp r z
   ·rw [List.mem_singleton.mp z]
    exact ⟨rfl,by decide,by decide,by decide,by decide,by decide⟩
  obtain ⟨p,hp,_,op⟩:=fu (n:=r1) hok3 r0 (by rw [List.length_append,← rp.l]; show r1 < ((xp.length+1:Nat):Int); omega)
  obtain ⟨tp,hat,etp⟩:=iI rp3 r0 hp
  rw [fj op.1] at etp
  obtain ⟨_,⟨p1,p2⟩,_,⟨p3,p4,p5⟩,⟨p6,p7⟩,_⟩:=id op
  refine ⟨_,rfl,c,_,r1,.ref tp,rfl,rfl,SqT.of ec,hat,?_⟩
  refine ⟨tp,_,rfl,SqT.of etp,rfl,_,_,rfl,_,_,rfl,_,_,rfl,_,_,rfl,_,_,rfl,_,_,rfl,rfl,?_⟩
  dsimp only
  refine aK ?_
  refine aZ ?_
  refine ⟨_,rfl,_,rfl,_,rfl,st,8,rfl,g3.sa,by decide,by decide,fun r2 a2 b2 i0 i1 k4 k5 k6=>⟨(by show 3≤sizeLine; decide),fun l1 hl1=>?_⟩⟩
  have g4:=(g3.take k4 k5 k6).new (o:=.lst [V.int (fl p 0),V.int (fl p 0),V.int r2]) hl1
  have n4:=(g3.take k4 k5 k6).ne hl1
  refine ⟨_,rfl,st,3,rfl,g4.sa,by decide,by decide,fun r3 a3 b3 i2 i3 k7 k8 k9=>?_⟩
  obtain ⟨sl,hsl,sl1,sl2⟩:∃ sl:Int,atI [V.int (fl p 0),V.int (fl p 0),V.int r2] r3=some (.int sl)∧0≤sl∧sl < 8:=by
   have:r3=0∨r3=1∨r3=2:=by omega
   rcases this with rfl | rfl | rfl
   ·exact ⟨_,rfl,p1,p2⟩
   ·exact ⟨_,rfl,p1,p2⟩
   ·exact ⟨_,rfl,i0,i1⟩
  have g5:=g4.take k7 k8 k9
  refine ⟨l1,_,r3,.int sl,rfl,rfl,SqL.of (by rw [az n4]; exact ak),hsl,?_⟩
  refine aP ?_
  dsimp only
  refine aK ?_
  refine aZ ?_
  refine ⟨_,rfl,_,_,rfl,rfl,_,rfl,st,7,rfl,g5.sa,by decide,by decide,fun r4 a4 b4 i4 i5 m1 m2' m3=>⟨_,_,rfl,rfl,_,_,rfl,rfl,(by show (0:Int) < 8; decide),?_⟩⟩
  have g6:=g5.take m1 m2' m3
  refine aP ?_
  dsimp only
  refine aK ?_
  refine aZ ?_
  refine ⟨_,rfl,_,rfl,_,rfl,_,rfl,_,_,rfl,rfl,_,_,rfl,rfl,st,_,rfl,g6.sa,by omega,by omega,fun r5 a5 b5 i6 i7 m4 m5 m6=>⟨_,_,rfl,rfl,?_⟩⟩
  have g7:=g6.take m4 m5 m6
  refine aP ?_
  dsimp only
  refine ⟨_,rfl,_,rfl,_,rfl,_,rfl,_,rfl,st,_,rfl,g7.sa,p6,by omega,fun r6 a6 b6 i8 i9 m7 m8 m9=>⟨_,_,rfl,rfl,_,rfl,(by show 5≤sizeLine; decide),fun t ht=>?_⟩⟩
  have g8:=g7.take m7 m8 m9
  refine q t [r1,sl,(sl+1+r4) % 8,1+r6,fl p 2+r5] _ (g8.new ht) ak ⟨rfl,fun i hi=>?_⟩
  simp only [List.mem_cons,List.not_mem_nil,or_false] at hi
  have e8:0≤(sl+1+r4) % 8∧(sl+1+r4) % 8 < 8:=⟨Int.emod_nonneg _ (by decide),Int.emod_lt_of_pos _ (by decide)⟩
  omega
end
end K04

set_option Elab.async false
set_option linter.all false
set_option maxRecDepth 100000
set_option maxHeartbeats 4000000
namespace K04
open PySem L2
noncomputable def vm:Sp:=fun vs H Q _=>∃ st ap xp ps n,vs=[.ref st,.ref ap,.int n]∧fP H st∧RowsAt H ap xp ps∧ps.length≤10∧(∀ r∈ps,okP r)∧0≤n∧n≤12∧∀ a xs ss H',Dr st H H'→RowsAt H' a xs ss→(ss.length:Int)≤n→(∀ s∈ss,smR s)→Q (.ref a) H'
noncomputable def yZ:Sp:=fun vs H Q _=>∃ (F:Addr→Prop) (st:Addr) (y m k:Int),vs=[.ref st,.int y,.int m,.int k]∧fP H st∧Fb F st H∧1≤y∧y≤20∧1≤m∧m≤10∧0≤k∧k≤12 ∧
 ∀ a vc dc ap xp ps as_ xs ss H',Dr st H H'→H' a=some (.tup [vc,.ref ap,.ref as_])→IsTh (fun a=>¬ F a) H' vc (.tuple dc)→tms (2 ^ 100) dc=true→1+szs dc≤81→RowsAt H' ap xp ps→ps.length≤10→(∀ r∈ps,okP r)→RowsAt H' as_ xs ss→ss.length≤12→(∀ s∈ss,smR s)→Q (.ref a) H'
section
variable {P:Program} {w:World} {K:PySem.W.Frag} {mg:Str→Option Value} {base:Heap}
theorem sc39s:FnScope ["_law_state_here","_law_promises_here","_law_most","_law_found","_law_turn","_law_more"] ["_law_state_here","_law_promises_here","_law_most"] (aD (top 57)):=⟨rfl,rfl,rfl,by decide +kernel,rfl,by decide +kernel,by decide +kernel⟩
theorem za {f:Addr} {fd:FuncData} (F:Fun K "_law_sales" "_law_sales" (top 57) f fd) (T:Mg mg) (Tr:mg "range" = none) (c1:Cal P w K mg base 1 "_law_take" ["_law_state_here","_law_many"] ik) (c2:Cal P w K mg base 2 "_law_any_sale" ["_law_state_here","_law_promises_here"] Cd) (c3:Cal P w K mg base 2 "_law_sold" ["_law_promises_here","_law_sales_here"] ul) :
  FnOk P w K mg base CX0 3 f fd ["_law_state_here","_law_promises_here","_law_most"] vm:=by
 refine F.ok sc39s (fun vs H Q E h=>?_) (fun cdv A outer s H vs Q E hr h=>?_)
 ·obtain ⟨st,ap,xp,ps,n,rfl,_⟩:=h
  rfl
 ·obtain ⟨st,ap,xp,ps,n,rfl,hst,rp,lp,okp,n0,n1,q⟩:=h
  refine ⟨_,aA (bw (i:=3) sc39s.nd rfl (Or.inl rfl) (uK bC))
   (aA (dF PassesOwn.never rfl (dg rfl Tr (aq (aX jx (aH c1 hr (by decide) rfl (aq (pv 0) (aq (aX bT (pv 2) ao) aj))) (dR vN rfl T.int boot_int (aq (eZ lC (aJ aQ rfl T.len PySem.boot_len (aq (pv 1) aj)) ao (bj _)) aj))) aj)) (aC (i:=4) sc39s.nd rfl (Or.inl rfl))
    (aA (bw (i:=5) sc39s.nd rfl (Or.inl rfl) (aX vg (pv 3) (bW (aq (aH c2 hr (by decide) rfl (aq (pv 0) (aq (pv 1) aj))) aj))))
    (aB (bF (bD tQ (bh bx (aH c3 hr (by decide) rfl (aq (pv 1) (aq (pv 5) aj))) ao (fun _ _=>rfl)) ju (bj _)) (aB (bw (i:=3) sc39s.nd rfl (Or.inl rfl) (pv 5))) aV))))
   (aB (aN (pv 3)))),?_⟩
  have g0:Dr st H H:=⟨But.refl,hst⟩
  refine aK ?_
  refine aZ ?_
  refine ⟨(by show 0≤sizeLine; decide),fun e0 he0=>?_⟩
  have g1:=g0.new (o:=.tup []) he0
  have r1:RowsAt (upd H e0 (.tup [])) e0 [] []:=⟨ak,rfl,fun i r e=>by simp at e⟩
  have rp1:=rp.same (Same.upd (o:=.tup []) he0)
  generalize upd H e0 (.tup [])=H1 at g1 r1 rp1 ⊢
  refine aP ?_
  dsimp only
  refine aK ?_
  refine ⟨_,rfl,_,rfl,_,_,rfl,rfl,st,n+1,rfl,g1.sa,by omega,by omega,fun r a1 b1 k0 kn k1 k2 k3=>?_⟩
  have g2:=g1.take k1 k2 k3
  have rp2:=(Dr.take ⟨But.refl,g1.sa⟩ k1 k2 k3:Dr st H1 _).rows g1.sa rp1
  have r2:=(Dr.take ⟨But.refl,g1.sa⟩ k1 k2 k3:Dr st H1 _).rows g1.sa r1
  generalize upd H1 st (.lst [.int a1,.int b1])=H2 at g2 rp2 r2 ⊢
  refine ⟨_,rfl,ap,xp,rfl,.inr (SqT.of rp2.e),_,_,rfl,rfl,.inr ⟨_,rfl,_,_,rfl,rfl,.inl ⟨by omega,by omega⟩,_,rfl,?_,?_,?_⟩⟩
  ·split <;> omega
  ·split <;> omega
  refine cQ (lo:=0) (fun i σ Hc=>∃ a xs ss x4 x5,σ=[some (.ref st),some (.ref ap),some (.int n),some (.ref a),x4,x5]∧Dr st H Hc∧RowsAt Hc ap xp ps∧RowsAt Hc a xs ss∧ss.length≤i∧∀ s∈ss,smR s) ?_ ?_ ?_
  ·exact ⟨e0,[],[],none,none,rfl,g2,rp2,r2,Nat.le_refl _,fun _ h=>nomatch h⟩
  ·rintro i σ Hc hi ⟨a,xs,ss,x4,x5,rfl,g,rpc,rsc,ls,oks⟩
   have hi:i < 12:=by split at hi <;> omega
   refine aP ?_
   refine aK ?_
   refine aZ ?_
   refine ⟨_,rfl,_,rfl,_,rfl,st,ap,xp,ps,rfl,g.sa,rpc,lp,okp,fun t s' H3 d3 et sm=>⟨(by show 1≤sizeLine; decide),fun t1 ht1=>?_⟩⟩
   have rpd:=d3.rows g.sa rpc
   have rsd:=d3.rows g.sa rsc
   have m4:=Same.upd (o:=.tup [V.ref t]) ht1
   refine ⟨a,t1,xs,_,rfl,rfl,m4 _ _ rsd.e,ak,by simp,by rw [rsc.l,sizeLine_eq]; show _+1≤_; omega,fun c H5 s5 ec=>?_⟩
   have rs5:=oY ((rsd.same m4).same s5) (s5 _ _ (m4 _ _ et)) ec
   have rp5:=(rpd.same m4).same s5
   have g5:=((g.trans d3).same m4).same s5
   have ok5:∀ s∈ss++[s'],smR s:=fun s hs=>by
    rcases List.mem_append.mp hs with z | z
    ·exact oks s z
    ·rw [List.mem_singleton.mp z]
     exact sm
   have l5:(ss++[s']).length≤i+1:=by rw [List.length_append]; show ss.length+1≤_; omega
   refine aP ?_
   dsimp only
   refine ⟨_,rfl,_,rfl,ap,xp,ps,c,_,ss++[s'],rfl,rp5,lp,okp,rs5,by omega,fun s hs=>(ok5 s hs).1,fun tt fo H6 s6 ett=>?_⟩
   refine ⟨tt,_,1,unV (un ps (ss++[s'])),rfl,rfl,SqT.of ett,rfl,rfl,_,rfl,mX (fun _=>?_) fun _=>?_⟩
   ·exact ⟨_,rfl,c,_,ss++[s'],_,_,rfl,g5.same s6,rp5.same s6,rs5.same s6,l5,ok5⟩
   ·exact ⟨a,xs,ss,_,_,rfl,g5.same s6,rp5.same s6,((rsd.same m4).same s5).same s6,by omega,oks⟩
  ·rintro σ Hc ⟨a,xs,ss,x4,x5,rfl,g,rpc,rsc,ls,oks⟩
   refine ⟨_,rfl,q a xs ss Hc g rsc ?_ oks⟩
   split at ls <;> omega
theorem sc40s:FnScope ["_law_state_here","_law_years","_law_most","_law_sales_here","_law_clips_here","_law_promises_here"] ["_law_state_here","_law_years","_law_most","_law_sales_here"] (aD (top 58)):=⟨rfl,rfl,rfl,by decide +kernel,rfl,by decide +kernel,by decide +kernel⟩
theorem zf {f:Addr} {fd:FuncData} (F:Fun K "_law_book" "_law_book" (top 58) f fd) (T:Mg mg) (c1:Cal P w K mg base 2 "_law_clips" ["_law_state_here","_law_most"] uX) (c2:Cal P w K mg base 2 "_law_promises" ["_law_state_here","_law_most","_law_years"] sS) (c3:Cal P w K mg base 3 "_law_sales" ["_law_state_here","_law_promises_here","_law_most"] vm) :
  FnOk P w K mg base CX0 4 f fd ["_law_state_here","_law_years","_law_most","_law_sales_here"] yZ:=by
 refine F.ok sc40s (fun vs H Q E h=>?_) (fun cdv A outer s H vs Q E hr h=>?_)
 ·obtain ⟨F,st,y,m,k,rfl,_⟩:=h
  rfl
 ·obtain ⟨F,st,y,m,k,rfl,hst,fb,y1,y2,m1,m2,k1,k2,q⟩:=h
  refine ⟨_,aA (bw (i:=4) sc40s.nd rfl (Or.inl rfl) (aH c1 hr (by decide) rfl (aq (pv 0) (aq (pv 1) aj))))
   (aA (bw (i:=5) sc40s.nd rfl (Or.inl rfl) (aH c2 hr (by decide) rfl (aq (pv 0) (aq (pv 2) (aq (aJ aQ rfl T.len PySem.boot_len (aq (pv 4) aj)) aj)))))
   (aB (aN (bW (aq (pv 4) (aq (pv 5) (aq (aH c3 hr (by decide) rfl (aq (pv 0) (aq (pv 5) (aq (pv 3) aj)))) aj))))))),?_⟩
  refine aK ?_
  refine aZ ?_
  refine ⟨_,rfl,_,rfl,st,y,rfl,hst,y1,y2,fun vc H1 mc=>?_⟩
  obtain ⟨dc,btc,sac,thc,tmc,szc⟩:=mc
  have d1:Dr st H H1:=⟨btc,sac⟩
  have thc:IsTh (fun a=>¬ F a) H1 vc (.tuple dc):=thc.keep (fun _ _ e=>e) (fun _ _ _ e=>e) fun b o hb _ hF=>hb.2 (fb.new b hF hb.1)
  refine aP ?_
  dsimp only
  refine aK ?_
  refine aZ ?_
  cases thc with
  | @tup ac xc _ ec rc =>
  have lc:=rc.length
  have lc2:=lg dc
  refine ⟨_,rfl,_,rfl,_,rfl,ac,xc,rfl,.inr (SqT.of ec),st,m,_,rfl,sac,m1,m2,by omega,by omega,fun vp H2 mp=>?_⟩
  obtain ⟨ps,btp,sap,thp,lps,okp⟩:=mp
  have d2:Dr st H1 H2:=⟨btp,sap⟩
  obtain ⟨ap,xp,rfl,rp⟩:=f9 thp
  have thc2:=d2.th sac fb.st (.tup ec rc)
  refine aP ?_
  dsimp only
  refine ⟨_,rfl,_,rfl,_,rfl,_,rfl,_,rfl,st,ap,xp,ps,k,rfl,sap,rp,by omega,okp,k1,k2,fun as_ xs ss H3 d3 rs ls oks=>⟨(by show 3≤sizeLine; decide),fun a ha=>?_⟩⟩
  have d123:=(d1.trans d2).trans d3
  have ma:=Same.upd (o:=.tup [V.ref ac,V.ref ap,V.ref as_]) ha
  exact q a _ dc ap xp ps as_ xs ss _ (d123.new ha) ak ((d3.th sap fb.st thc2).same ma) tmc szc ((d3.rows sap rp).same ma) (by omega) okp (rs.same ma) (by omega) oks
end
end K04

set_option Elab.async false
set_option linter.all false
set_option maxRecDepth 100000
set_option maxHeartbeats 4000000
namespace K04
open PySem L2
noncomputable def gM (d:PyData):Bool:=bL d && (decide ((items d).length=5) && (items d).all bc)
noncomputable def fY (d:PyData):Bool:=bL d && (decide ((items d).length≤12) && (items d).all gM)
noncomputable def mQ (d:PyData):Bool:=bL d && (decide ((items d).length=3) && (fV (part d 0) && (fW (part d 1) && (fY (part d 2) && (un (rowsOf (part d 1)) (rowsOf (part d 2))).isNone))))
theorem Bs (d:PyData):bJ d 5=gM d:=by
 unfold bJ bR gM
 rw [Bool.and_assoc]
 congr 2
 rw [Bool.eq_iff_iff,Bool.and_eq_true,decide_eq_true_eq,decide_eq_true_eq,decide_eq_true_eq]
 omega
theorem sU (d:PyData):dW d=fY d:=by
 unfold dW bR fY
 rw [Bool.and_assoc]
 congr 1
 have e:(items d).all (fun x=>bJ x 5)=(items d).all gM:=congrArg (items d).all (funext Bs)
 rw [e]
 congr 1
 rw [Bool.eq_iff_iff,Bool.and_eq_true,decide_eq_true_eq,decide_eq_true_eq,decide_eq_true_eq]
 omega
theorem Bt (d:PyData):fX d=mQ d:=by
 unfold fX bR mQ
 rw [yu,rY,sU,Bool.and_assoc]
 congr 2
 rw [Bool.eq_iff_iff,Bool.and_eq_true,decide_eq_true_eq,decide_eq_true_eq,decide_eq_true_eq]
 omega
section
variable {P:Program} {w:World} {K:PySem.W.Frag} {mg:Str→Option Value} {base:Heap}
theorem Fj:FnScope ["_law_thing"] ["_law_thing"] (aD (top 67)):=⟨rfl,rfl,rfl,by decide +kernel,rfl,by decide +kernel,by decide +kernel⟩
theorem sV {f:Addr} {fd:FuncData} (F:Fun K "_law_is_sale" "_law_is_sale" (top 67) f fd) (T:Mg mg) (c1:Cal P w K mg base 1 "_law_whole" ["_law_thing"] (spT bc)):FnOk P w K mg base CX0 2 f fd ["_law_thing"] (spT gM):=by
 refine F.ok Fj (fun vs H Q E h=>?_) (fun cdv A outer s H vs Q E hr h=>?_)
 ·obtain ⟨S,v,d,rfl,_⟩:=h
  rfl
 ·obtain ⟨S,v,d,rfl,th,hz,q⟩:=h
  refine ⟨_,aB (aN (bU (aJ bu rfl T.isinstance boot_isinstance (aq (pv 0) (aq (cB rfl T.tuple boot_tuple (v:=.ty "tuple") rfl) aj)))
   (bU (eZ iJ (aJ aQ rfl T.len PySem.boot_len (aq (pv 0) aj)) ao (bj _))
   (dB (aJ (cD rfl) rfl T.all boot_all (aq (cM ["_law_one"] [none] rfl (fH (pv 0))
    (fun C fp pins s₂ H₂=>⟨aC (i:=0) (nd1 _) rfl (Or.inl rfl),cJ,aH c1 hr (by decide) rfl (aq (pv 0) aj)⟩) (fun C=>trivial) ⟨rfl,rfl,rfl,rfl⟩) aj)))))),?_⟩
  have fin:=fun H' (s:Same H H')=>q H' s
  unfold gM at fin
  refine ⟨_,rfl,v,_,"tuple",bL d,rfl,th.ty,dY d,_,rfl,?_⟩
  cases e:bL d with
  | false =>
   rw [e] at fin
   exact bf (fin H (Same.refl H))
  | true =>
   rw [e] at fin
   refine aY ?_
   cases th with
   | @tup a xs ds ea r =>
    have hl:=r.length
    refine ⟨_,rfl,a,xs,rfl,.inr (SqT.of ea),rfl,_,rfl,?_⟩
    have fin:∀ H',Same H H'→Q (.bl (true && (decide (ds.length=5) && ds.all bc))) H':=fin
    by_cases e3:ds.length=5
    ·rw [decide_eq_true e3] at fin
     rw [decide_eq_true (show V.int (xs.length:Int)=V.int 5 by rw [hl,e3] <;> rfl)]
     refine aY ?_
     exact c7 bc rfl ea r (cN r hz) (fun v d H2 Q2 hm s2 t2 q2=>⟨_,rfl,S,v,d,rfl,t2,eX hm hz,q2⟩) fin
    ·rw [decide_eq_false e3] at fin
     rw [decide_eq_false (fun z:V.int (xs.length:Int)=V.int 5=>e3 (by injection z with z; omega))]
     exact bf (fin H (Same.refl H))
   | _=>cases e
theorem Fl:FnScope ["_law_thing"] ["_law_thing"] (aD (top 68)):=⟨rfl,rfl,rfl,by decide +kernel,rfl,by decide +kernel,by decide +kernel⟩
theorem nP {f:Addr} {fd:FuncData} (F:Fun K "_law_are_sales" "_law_are_sales" (top 68) f fd) (T:Mg mg) (c1:Cal P w K mg base 2 "_law_is_sale" ["_law_thing"] (spT gM)) :
  FnOk P w K mg base CX0 3 f fd ["_law_thing"] (spT fY):=by
 refine F.ok Fl (fun vs H Q E h=>?_) (fun cdv A outer s H vs Q E hr h=>?_)
 ·obtain ⟨S,v,d,rfl,_⟩:=h
  rfl
 ·obtain ⟨S,v,d,rfl,th,hz,q⟩:=h
  refine ⟨_,aA (bF (PW.pt (eV (bA (bG (aJ bu rfl T.isinstance boot_isinstance (aq (pv 0) (aq (cB rfl T.tuple boot_tuple (v:=.ty "tuple") rfl) aj)))))
    (eO (bD lC (aJ aQ rfl T.len PySem.boot_len (aq (pv 0) aj)) ao (bj _))))) (aB (aN dw)) aV)
   (aB (aN (aJ (cD rfl) rfl T.all boot_all (aq (cM ["_law_one"] [none] rfl (fH (pv 0))
    (fun C fp pins s₂ H₂=>⟨aC (i:=0) (nd1 _) rfl (Or.inl rfl),cJ,aH c1 hr (by decide) rfl (aq (pv 0) aj)⟩) (fun C=>trivial) ⟨rfl,rfl,rfl,rfl⟩) aj)))),?_⟩
  have fin:=fun H' (s:Same H H')=>q H' s
  unfold fY at fin
  refine ⟨_,rfl,v,_,"tuple",bL d,rfl,th.ty,dY d,_,rfl,?_⟩
  cases e:bL d with
  | false =>
   rw [e] at fin
   exact aY (aY (fin H (Same.refl H)))
  | true =>
   rw [e] at fin
   refine bf ?_
   cases th with
   | @tup a xs ds ea r =>
    have hl:=r.length
    refine ⟨_,rfl,a,xs,rfl,.inr (SqT.of ea),_,_,rfl,rfl,_,rfl,?_⟩
    have fin:∀ H',Same H H'→Q (.bl (true && (decide (ds.length≤12) && ds.all gM))) H':=fin
    by_cases e3:ds.length≤12
    ·rw [decide_eq_true e3] at fin
     rw [decide_eq_false (by omega)]
     refine bf ?_
     exact c7 gM rfl ea r (cN r hz) (fun v d H2 Q2 hm s2 t2 q2=>⟨_,rfl,S,v,d,rfl,t2,eX hm hz,q2⟩) fin
    ·rw [decide_eq_false e3] at fin
     rw [decide_eq_true (by omega)]
     exact aY (fin H (Same.refl H))
   | _=>cases e

theorem Fo:FnScope ["_law_thing"] ["_law_thing"] (aD (top 69)):=⟨rfl,rfl,rfl,by decide +kernel,rfl,by decide +kernel,by decide +kernel⟩
theorem sW {f:Addr} {fd:FuncData} (F:Fun K "_law_is_book" "_law_is_book" (top 69) f fd) (T:Mg mg) (c1:Cal P w K mg base 4 "_law_are_clips" ["_law_thing"] (spT fV)) (c2:Cal P w K mg base 4 "_law_are_promises" ["_law_thing"] (spT fW)) (c3:Cal P w K mg base 3 "_law_are_sales" ["_law_thing"] (spT fY)) (c4:Cal P w K mg base 2 "_law_sold" ["_law_promises_here","_law_sales_here"] ul) :
  FnOk P w K mg base CX0 5 f fd ["_law_thing"] (spT mQ):=by
 refine F.ok Fo (fun vs H Q E h=>?_) (fun cdv A outer s H vs Q E hr h=>?_)
 ·obtain ⟨S,v,d,rfl,_⟩:=h
  rfl
 ·obtain ⟨S,v,d,rfl,th,hz,q⟩:=h
  refine ⟨_,aA (bF (PW.pt (eV (bA (bG (aJ bu rfl T.isinstance boot_isinstance (aq (pv 0) (aq (cB rfl T.tuple boot_tuple (v:=.ty "tuple") rfl) aj)))))
    (eV (bD nW (aJ aQ rfl T.len PySem.boot_len (aq (pv 0) aj)) ao (bj _)) (eO (bA (bG (aH c1 hr (by decide) rfl (aq (bh bx (pv 0) ao (fun _ _=>rfl)) aj)))))))) (aB (aN dw)) aV)
   (aA (bF (PW.pt (eV (bA (bG (aH c2 hr (by decide) rfl (aq (bh bx (pv 0) ao (fun _ _=>rfl)) aj)))) (eO (bA (bG (aH c3 hr (by decide) rfl (aq (bh bx (pv 0) ao (fun _ _=>rfl)) aj))))))) (aB (aN dw)) aV)
   (aB (aN (eZ tQ (bh bx (aH c4 hr (by decide) rfl (aq (bh bx (pv 0) ao (fun _ _=>rfl)) (aq (bh bx (pv 0) ao (fun _ _=>rfl)) aj))) ao (fun _ _=>rfl)) ju (bj _))))),?_⟩
  have fin:=q
  unfold mQ at fin
  refine aK ?_
  refine ⟨_,rfl,v,_,"tuple",bL d,rfl,th.ty,dY d,_,rfl,?_⟩
  cases e:bL d with
  | false =>
   rw [e] at fin
   exact aY (aY (fin H (Same.refl H)))
  | true =>
   rw [e] at fin
   refine bf ?_
   cases th with
   | @tup a xs ds ea r =>
    have hl:=r.length
    refine ⟨_,rfl,a,xs,rfl,.inr (SqT.of ea),rfl,_,rfl,?_⟩
    by_cases e3:ds.length=3
    ·refine xG (by rw [hl,e3] <;> rfl) ?_
     obtain ⟨v0,v1,v2,d0,d1,d2,rfl,rfl,h0,h1,h2⟩:=iD r e3
     have z0:=eX (d:=d0) (by simp) hz
     have z1:=eX (d:=d1) (by simp) hz
     have z2:=eX (d:=d2) (by simp) hz
     have fin:∀ H',Same H H'→Q (.bl (fV d0 && (fW d1 && (fY d2 && (un (rowsOf d1) (rowsOf d2)).isNone)))) H':=fin
     refine ⟨_,rfl,a,_,0,_,rfl,rfl,SqT.of ea,rfl,S,_,d0,rfl,h0,z0,fun H2 s2=>⟨_,rfl,?_⟩⟩
     cases e0:fV d0 with
     | false =>
      rw [e0] at fin
      exact aY (fin _ s2)
     | true =>
      rw [e0] at fin
      refine bf ?_
      refine bN ?_
      dsimp only
      refine aK ?_
      refine ⟨_,rfl,a,_,1,_,rfl,rfl,SqT.of (s2 _ _ ea),rfl,S,_,d1,rfl,h1.same s2,z1,fun H3 s3=>⟨_,rfl,?_⟩⟩
      cases e1:fW d1 with
      | false =>
       rw [e1] at fin
       exact aY (aY (fin _ (s2.trans s3)))
      | true =>
       rw [e1] at fin
       refine bf ?_
       have s23:=s2.trans s3
       refine ⟨_,rfl,a,_,2,_,rfl,rfl,SqT.of (s23 _ _ ea),rfl,S,_,d2,rfl,h2.same s23,z2,fun H4 s4=>⟨_,rfl,?_⟩⟩
       cases e2:fY d2 with
       | false =>
        rw [e2] at fin
        exact aY (fin _ (s23.trans s4))
       | true =>
        rw [e2] at fin
        refine bf ?_
        refine bN ?_
        dsimp only
        have s24:=s23.trans s4
        rw [← rY] at e1
        rw [← sU] at e2
        obtain ⟨ep,lp,okp⟩:=fK e1
        obtain ⟨es,ls,oks⟩:=fM e2
        have th1:=h1.same s24
        have th2:=h2.same s24
        rw [ep] at th1
        rw [es] at th2
        obtain ⟨ap,xp,rfl,rp⟩:=f9 th1
        obtain ⟨as_,xs',rfl,rs⟩:=f9 th2
        refine ⟨_,rfl,a,_,1,_,rfl,rfl,SqT.of (s24 _ _ ea),rfl,_,rfl,a,_,2,_,rfl,rfl,SqT.of (s24 _ _ ea),rfl,?_⟩
        refine ⟨ap,xp,_,as_,xs',_,rfl,rp,lp,okp,rs,by omega,oks,fun t fo H5 s5 et=>?_⟩
        refine ⟨t,_,1,unV (un (rowsOf d1) (rowsOf d2)),rfl,rfl,SqT.of et,rfl,rfl,?_⟩
        have:=fin H5 (s24.trans s5)
        cases eu:un (rowsOf d1) (rowsOf d2) with
        | none =>
         rw [eu] at this
         exact this
        | some i =>
         rw [eu] at this
         exact this
    ·have ne:¬ (V.int (xs.length:Int)=V.int 3):=fun z=>by
      injection z with z
      omega
     rw [decide_eq_false ne]
     have fin:∀ H',Same H H'→Q (.bl (true && (decide (ds.length=3) && _))) H':=fin
     rw [decide_eq_false e3] at fin
     exact aY (aY (fin H (Same.refl H)))
   | _=>cases e
end
end K04

set_option Elab.async false
set_option linter.all false
set_option maxRecDepth 100000
set_option maxHeartbeats 1000000
namespace K04
open PySem L2
theorem sX {J:It} {g:TG} {tt:TT} {te:TE} {σ0:St} {H0:Hp} {Fin:List V→Hp→Prop} (n:Nat) (Pv:Nat→List V→St→Hp→Prop) (h0:Pv 0 [] σ0 H0) (hz:n < sizeLine)
  (step:∀ i ys σ H,i < n→ys.length≤i→Pv i ys σ H→J.go i H∧∀ x H',J.yld i H x H'→∀ R:List V→St→Hp→Prop,(∀ ys' σ2 H4,ys'.length≤i+1→Pv (i+1) ys' σ2 H4→R ys' σ2 H4)→g x σ H' fun σ2 H2=>tt σ2 H2 fun b H3=>if b=true then te σ2 H3 fun y H4=>R (ys++[y]) σ2 H4 else R ys σ2 H3)
  (fin:∀ ys σ H,ys.length≤n→Pv n ys σ H→J.stop n H∧Fin ys H):lF J g tt te Fin σ0 H0:=by
 refine ⟨fun i m ys σ H=>m=n - i∧i≤n∧ys.length≤i∧Pv i ys σ H,⟨_,rfl,Nat.zero_le _,Nat.le_refl _,h0⟩,?_⟩
 rintro i m ys σ H ⟨rfl,hi,hy,p⟩
 refine ⟨by omega,?_⟩
 by_cases hlt:i < n
 ·obtain ⟨go,st⟩:=step i ys σ H hlt hy p
  exact .inr ⟨go,fun x H' y=>st x H' y (fun ys' σ2 H4=>∃ m',m' < n - i∧m'=n - (i+1)∧i+1≤n∧ys'.length≤i+1∧Pv (i+1) ys' σ2 H4) fun ys' σ2 H4 l2 p2=>⟨n - (i+1),by omega,rfl,hlt,l2,p2⟩⟩
 ·have e:i=n:=by omega
  subst e
  exact .inl (fin ys σ H hy p)
theorem sY {S:Addr→Prop} {H:Hp} {xs:List V} {ds:List PyData} {v:V} {d:PyData} (h:IsThs S H xs ds) (t:IsTh S H v d):IsThs S H (xs++[v]) (ds++[d]):=IsThs.append h (.cons t .nil)
theorem nd2 (x y:Str) (h:x≠y):([x,y]:List Str).Nodup:=by simp [h]
noncomputable def cz (L:List Int) (i:Nat):List (List Int):=((List.range i).filter fun h=>decide (0 < L.getD h 0)).map fun (h:Nat)=>[(h:Int),L.getD h 0]
theorem ir (L:List Int) (i:Nat):cz L (i+1)=cz L i++(if 0 < L.getD i 0 then [[(i:Int),L.getD i 0]] else []):=by
 unfold cz
 rw [List.range_succ,List.filter_append,List.map_append]
 congr 1
 by_cases h:0 < L.getD i 0
 ·rw [if_pos h,List.filter_cons_of_pos (p:=fun h=>decide (0 < L.getD h 0)) (decide_eq_true h)]
  rfl
 ·rw [if_neg h,List.filter_cons_of_neg (p:=fun h=>decide (0 < L.getD h 0)) (by rw [decide_eq_true_eq]; exact h)]
  rfl
noncomputable def dN (d n y:PyData):Option Nat:=if fX d=false then some 3 else if cX n 0 ((rowsOf (part d 1)).length - 1)=false then some 4 else if cX y 0 19=false then some 5 else none
noncomputable def fO (d n y:PyData):List (List Int):=cz (bQ ((rowsOf (part d 1)).getD (intOf n).toNat []) (rowsOf (part d 2)) (intOf n) (intOf y)) 8
noncomputable def Fp (Cs:Nat→Addr) (o:Option Nat) (rs:List (List Int)) (H:Hp) (Q:VK) (E:XK):Prop:=(∀ j,o=some j→∀ a H',Same H H'→H' a=none→E (.ref a) (some (Cs j)) H') ∧
 (o=none→∀ l xs H',Same H H'→H l=none→l≠sysModules→H' l=some (.lst xs)→IsThs (fun _=>False) H' xs (rs.map d7)→Q (.ref l) H')
noncomputable def vq (Cs:Nat→Addr):Sp:=fun vs H Q E=>∃ S v d vn n vy y,vs=[v,vn,vy]∧IsTh S H v d∧IsTh S H vn n∧IsTh S H vy y∧sz d≤4000∧sz n≤4000∧sz y≤4000∧Fp Cs (dN d n y) (fO d n y) H Q E
noncomputable def zg (Cs:Nat→Addr):Sp:=fun vs H Q E=>∃ S v d,vs=[v]∧IsTh S H v d∧sz d≤4000∧(fX d=false→∀ a H',Same H H'→H' a=none→E (.ref a) (some (Cs 3)) H')∧(fX d=true→∀ H',Same H H'→Q .non H')
theorem zj {ps ss:List (List Int)} (h:un ps ss=none):∀ j,j < ss.length→d9 ps (ss.take j) (ss.getD j [])=true:=fun j hj=>by
 unfold un at h
 have:=List.find?_eq_none.mp h j (List.mem_range.mpr hj)
 simpa using this
theorem Dw {ps ss:List (List Int)} (h:un ps ss=none) (h5:∀ s∈ss,s.length=5):∀ s∈ss,okS s:=fun s hs=>by
 obtain ⟨j,hj,e⟩:=List.getElem_of_mem hs
 have:=zj h j hj
 rw [getD_get hj,e] at this
 exact mK (h5 s hs) this
theorem jc {d:PyData} (h:fX d=true):∃ d0 d1 d2,d=.tuple [d0,d1,d2]∧gJ d0=true∧dU d1=true∧dW d2=true∧un (rowsOf d1) (rowsOf d2)=none:=by
 unfold fX at h
 rw [Bool.and_eq_true,Bool.and_eq_true,Bool.and_eq_true,Bool.and_eq_true] at h
 obtain ⟨h0,h1,h2,h3,h4⟩:=h
 obtain ⟨ds,rfl,l1,l2⟩:=iH h0
 match ds,l1,l2,h1,h2,h3,h4 with
 | [d0,d1,d2],_,_,h1,h2,h3,h4=>exact ⟨d0,d1,d2,rfl,h1,h2,h3,by
   have h4:(un (rowsOf d1) (rowsOf d2)).isNone=true:=h4
   cases z:un (rowsOf d1) (rowsOf d2) with
   | none=>rfl
   | some i=>rw [z] at h4; cases h4⟩
 | [],l1,_,_,_,_,_=>simp at l1
 | [_],l1,_,_,_,_,_=>simp at l1
 | [_,_],l1,_,_,_,_,_=>simp at l1
 | _ :: _ :: _ :: _ :: _,_,l2,_,_,_,_=>simp at l2; omega
theorem jq {S:Addr→Prop} {H:Hp} {v:V} {d:PyData} {lo hi:Int} (t:IsTh S H v d) (h:cX d lo hi=true):∃ i,d=.int i∧v=.int i∧lo≤i∧i≤hi:=by
 unfold cX at h
 rw [Bool.and_eq_true,Bool.and_eq_true,decide_eq_true_eq,decide_eq_true_eq] at h
 obtain ⟨i,rfl,rfl⟩:=fB t h.1
 exact ⟨i,rfl,rfl,h.2.1,h.2.2⟩
section
variable {P:Program} {w:World} {K:PySem.W.Frag} {mg:Str→Option Value} {base:Heap}
theorem Gn:FnScope ["thing","least","most"] ["thing","least","most"] (aD (top 21)):=⟨rfl,rfl,rfl,by decide +kernel,rfl,by decide +kernel,by decide +kernel⟩
theorem nQ {f:Addr} {fd:FuncData} (F:Fun K "is_whole_from" "is_whole_from" (top 21) f fd) (c1:Cal P w K mg base 1 "is_whole" ["thing"] (spT bc)):FnOk P w K mg base CX0 2 f fd ["thing","least","most"] (km cX):=by
 refine F.ok Gn (fun vs H Q E h=>?_) (fun cdv A outer s H vs Q E hr h=>?_)
 ·obtain ⟨S,v,d,n,m,rfl,_⟩:=h
  rfl
 ·obtain ⟨S,v,d,n,m,rfl,th,hz,q⟩:=h
  refine ⟨_,aB (aN (bU (aH c1 hr (Nat.le_refl _) rfl (aM (pv 0) aj)) (dB (cC bH bH (pv 1) (pv 0) (pv 2))))),?_⟩
  refine ⟨_,rfl,S,v,d,rfl,th,hz,fun H1 s1=>⟨_,rfl,?_⟩⟩
  have fin:=q H1 s1
  unfold cX at fin
  cases e:bc d with
  | false =>
   rw [e] at fin
   exact bf fin
  | true =>
   rw [e] at fin
   obtain ⟨i,rfl,rfl⟩:=fB th e
   exact aY (bK (cU rfl) (cU rfl) (cU rfl) _ fin)
theorem Gp:FnScope ["thing"] ["thing"] (aD (top 44)):=⟨rfl,rfl,rfl,by decide +kernel,rfl,by decide +kernel,by decide +kernel⟩
theorem um {f:Addr} {Cs:Nat→Addr} {fd:FuncData} (F:Fun K "refuse_no_book" "refuse_no_book" (top 44) f fd) (O3:PyProof.Rows.OwnCls "NoBook" (Cs 3) VE "ValueError.__new__" mg base) (c1:Cal P w K mg base 6 "is_book" ["thing"] (spT fX)):FnOk P w K mg base (CX1 P w) 7 f fd ["thing"] (zg Cs):=by
 refine F.okX Gp (fun vs H Q E h=>?_) (fun cdv A outer s H vs Q E hr h=>?_)
 ·obtain ⟨S,v,d,rfl,_⟩:=h
  rfl
 ·obtain ⟨S,v,d,rfl,th,hz,q1,q2⟩:=h
  refine ⟨_,aB (bF (bA (bG (aH c1 hr (by decide) rfl (aM (pv 0) aj)))) (aB (lZ O3 PySem.F.excBase_ValueError rfl rfl rfl (aq iQ aj) kY)) aV),?_⟩
  refine ⟨_,rfl,S,v,d,rfl,th,hz,fun H1 s1=>⟨_,rfl,?_⟩⟩
  cases e:fX d with
  | true=>exact bf (q2 e _ s1)
  | false=>exact aY ⟨by decide,fun a ha=>q1 e a _ s1 ha⟩
theorem scH3:FnScope ["book","number","year","clips","promises","sales","held"] ["book","number","year"] (aD (top 45)):=⟨rfl,rfl,rfl,by decide +kernel,rfl,by decide +kernel,by decide +kernel⟩
theorem sZ {f:Addr} {Cs:Nat→Addr} {fd:FuncData} (F:Fun K "holdings" "holdings" (top 45) f fd) (T:Mg mg) (N:Nums mg) (Te:mg "enumerate" = none) (O4:PyProof.Rows.OwnCls "NoNumber" (Cs 4) VE "ValueError.__new__" mg base) (O5:PyProof.Rows.OwnCls "NoYear" (Cs 5) VE "ValueError.__new__" mg base)
  (c1:Bc P w K mg base 7 "refuse_no_book" ["thing"] (zg Cs)) (c2:Cal P w K mg base 2 "is_whole_from" ["thing","least","most"] (km cX)) (c3:Cal P w K mg base 1 "held_in" ["promises","sales","number","year"] ug):FnOk P w K mg base (CX1 P w) 8 f fd ["book","number","year"] (vq Cs):=by
 refine F.okX scH3 (fun vs H Q E h=>?_) (fun cdv A outer s H vs Q E hr h=>?_)
 ·obtain ⟨S,v,d,vn,n,vy,y,rfl,_⟩:=h
  rfl
 ·obtain ⟨S,v,d,vn,n,vy,y,rfl,th,tn,ty,zd,zn,zy,q1,q2⟩:=h
  obtain ⟨t19,e19⟩:=N.year
  refine ⟨_,aA (eY (uY (E:=E) c1 hr (by decide) rfl kY rfl (aq (pv 0) aj)))
   (aA (dC (pv 0) (cR rfl (aF (aC (i:=3) scH3.nd rfl (Or.inl rfl)) (aF (aC (i:=4) scH3.nd rfl (Or.inl rfl)) (aF (aC (i:=5) scH3.nd rfl (Or.inl rfl)) bV)))))
   (aA (bF (bA (bG (aH c2 hr (by decide) rfl (aq (pv 1) (aq ao (aq (aX jw (aJ aQ rfl T.len PySem.boot_len (aq (pv 4) aj)) ao) aj)))))) (aB (lZ O4 PySem.F.excBase_ValueError rfl rfl rfl (aq iQ aj) kY)) aV)
   (aA (bF (bA (bG (aH c2 hr (by decide) rfl (aq (pv 2) (aq ao (aq (cj (v:=.int 19) rfl e19 ⟨_,rfl⟩) aj)))))) (aB (lZ O5 PySem.F.excBase_ValueError rfl rfl rfl (aq iQ aj) kY)) aV)
   (PSs.nox (aA (bw (i:=6) scH3.nd rfl (Or.inl rfl) (aH c3 hr (by decide) rfl (aq (pv 4) (aq (pv 5) (aq (pv 1) (aq (pv 2) aj))))))
    (aB (aN (rF (g:=wX K 2 (lA (gq 0) (lA (gq 1) zN))) ["holder","sacks"] [none,none] rfl (EL.pi_enum rfl Te (aq (pv 6) aj))
     (fun C fp pins s₂ H₂=>⟨pW rfl rfl (aF (aC (i:=0) (nd2 _ _ (by decide)) rfl (Or.inl rfl) (Or.inr rfl)) (aF (aC (i:=1) (nd2 _ _ (by decide)) rfl (Or.inl rfl) (Or.inr rfl)) bV)),uF (bD lC (pv 1) ao (bj _)),bW (aq (pv 0) (aq (pv 1) aj))⟩) (fun C=>trivial) ⟨rfl,rfl,rfl,rfl⟩)))))))),?_⟩
  refine aK ?_
  refine ⟨_,rfl,S,v,d,rfl,th,zd,fun e a H' s' ha=>q1 3 (by unfold dN; rw [if_pos e]) a H' s' ha,fun hb H1 s1=>?_⟩
  obtain ⟨d0,d1,d2,rfl,b0,b1,b2,b3⟩:=jc hb
  have kb:∀ {x:Option Nat},(if fX (.tuple [d0,d1,d2])=false then some 3 else x)=x:=fun {x}=>if_neg (by rw [hb]; decide)
  unfold dN at q1 q2
  unfold fO at q2
  rw [kb] at q1 q2
  have e1:part (.tuple [d0,d1,d2]) 1=d1:=rfl
  have e2:part (.tuple [d0,d1,d2]) 2=d2:=rfl
  rw [e1,e2] at q2
  rw [e1] at q1
  dsimp only
  refine aK ?_
  obtain ⟨ep,lp,okp⟩:=fK b1
  obtain ⟨es,ls,oks⟩:=fM b2
  have th1:=th.same s1
  cases th1 with
  | @tup a xs _ ea r =>
   obtain ⟨v0,v1,v2,d0',d1',d2',rfl,ee,h0,h1,h2⟩:=iD r rfl
   cases ee
   rw [ep] at h1
   rw [es] at h2
   obtain ⟨ap,xp,rfl,rp⟩:=f9 h1
   obtain ⟨as_,xs,rfl,rs⟩:=f9 h2
   refine ⟨_,rfl,a,_,rfl,SqT.of ea,rfl,_,_,rfl,_,_,rfl,_,_,rfl,rfl,?_⟩
   dsimp only
   refine aK ?_
   refine ⟨_,rfl,_,rfl,ap,_,rfl,.inr (SqT.of rp.e),_,_,rfl,rfl,S,vn,n,0,_,rfl,tn.same s1,zn,fun H2 s2=>⟨_,rfl,?_⟩⟩
   rw [rp.l]
   have s12:=s1.trans s2
   cases eb:cX n 0 ((rowsOf d1).length - 1) with
   | false=>exact aY ⟨by decide,fun a ha=>q1 4 (by rw [if_pos eb]) a _ s12 ha⟩
   | true =>
   rw [if_neg (by rw [eb]; decide)] at q1 q2
   refine bf ?_
   refine bN ?_
   dsimp only
   refine aK ?_
   refine ⟨_,rfl,S,vy,y,0,19,rfl,ty.same s12,zy,fun H3 s3=>⟨_,rfl,?_⟩⟩
   have s13:=s12.trans s3
   cases ey:cX y 0 19 with
   | false=>exact aY ⟨by decide,fun a ha=>q1 5 (by rw [if_pos ey]) a _ s13 ha⟩
   | true =>
   rw [if_neg (by rw [ey]; decide)] at q2
   have q:=q2 rfl
   clear q1 q2
   refine bf ?_
   refine bN ?_
   dsimp only
   obtain ⟨i,rfl,rfl,i0,i1⟩:=jq tn eb
   obtain ⟨j,rfl,rfl,j0,j1⟩:=jq ty ey
   refine aK ?_
   refine aZ ?_
   have s23:=s2.trans s3
   obtain ⟨p,hp,ep',op⟩:=fu okp i0 (by omega)
   refine ⟨_,rfl,_,rfl,_,rfl,_,rfl,ap,xp,rowsOf d1,as_,xs,rowsOf d2,i,j,rfl,rp.same s23,rs.same s23,i0,by omega,by rw [ep']; exact op,ls,Dw b3 oks,fun l H4 s4 e4=>?_⟩
   have q:∀ l xs H',Same H H'→H l=none→l≠sysModules→H' l=some (.lst xs)→IsThs (fun _=>False) H' xs ((cz (bQ ((rowsOf d1).getD i.toNat []) (rowsOf d2) i j) 8).map d7)→Q (.ref l) H':=q
   have hl8:=fD ((rowsOf d1).getD i.toNat []) (rowsOf d2) i j
   generalize bQ ((rowsOf d1).getD i.toNat []) (rowsOf d2) i j=L at q e4 hl8
   refine aP ?_
   dsimp only
   have s14:=s13.trans s4
   refine ⟨_,rfl,l,_,rfl,SqL.of e4,sX 8 (fun k ys σ Hc=>Same H4 Hc∧(∃ o1 o2,σ=[o1,o2])∧IsThs (fun _=>False) Hc ys ((cz L k).map d7)) ⟨Same.refl _,⟨_,_,rfl⟩,.nil⟩ (by rw [sizeLine_eq]; decide) ?_ ?_⟩
   ·rintro k ys σ Hc hk hy ⟨sc,⟨o1,o2,rfl⟩,ht⟩
    have sq1:SqL K Hc l (L.map V.int):=SqL.of (sc _ _ e4)
    have hx:(L.map V.int)[k]?=some (.int (L.getD k 0)):=by
     have hk':k < L.length:=by omega
     rw [List.getElem?_map,List.getD_eq_getElem?_getD,List.getElem?_eq_getElem hk']
     rfl
    refine ⟨⟨_,_,sq1,hx⟩,fun x H' yv R hR=>?_⟩
    obtain ⟨T0,nT,rfl,yv⟩:=yv
    obtain ⟨x',hx',rfl⟩:=yv _ sq1
    rw [hx] at hx'
    cases hx'
    have s2':=sc.updR (o:=.tup [.int (k:Int),.int (L.getD k 0)]) nT
    refine ⟨T0,_,rfl,SqT.of ak,rfl,_,_,rfl,_,_,rfl,rfl,?_⟩
    refine ⟨_,rfl,_,_,rfl,rfl,_,rfl,?_⟩
    by_cases hpos:0 < L.getD k 0
    ·rw [decide_eq_true hpos]
     refine aY ⟨_,rfl,_,rfl,(by show 2≤sizeLine; decide),fun t ht'=>hR _ _ _ (by rw [List.length_append]; show ys.length+1≤k+1; omega) ⟨s2'.updR ht',⟨_,_,rfl⟩,?_⟩⟩
     rw [ir,if_pos hpos,List.map_append]
     exact sY ((ht.same (Same.upd nT)).same (Same.upd ht')) (.tup ak (.cons (.int _) (.cons (.int _) .nil)))
    ·rw [decide_eq_false hpos]
     refine bf (hR _ _ _ (by omega) ⟨s2',⟨_,_,rfl⟩,?_⟩)
     rw [ir,if_neg hpos,List.append_nil]
     exact ht.same (Same.upd nT)
   ·rintro ys σ Hc hy ⟨sc,_,ht⟩
    refine ⟨⟨_,SqL.of (sc _ _ e4),by rw [List.length_map]; omega⟩,fun D hD nD=>?_⟩
    have sx:=s14.trans sc
    exact q D ys _ (sx.updR hD) (sx.free hD) nD ak (ht.same (Same.upd hD))
end
end K04

set_option Elab.async false
set_option linter.all false
set_option maxRecDepth 100000
set_option maxHeartbeats 1000000
namespace K04
open PySem L2
theorem mR:∀ {a b:List Int},a.Pairwise (· < ·)→b.Pairwise (· < ·)→(∀ x,x∈a↔x∈b)→a=b
 | [],[],_,_,_=>rfl
 | [],y :: b,_,_,h=>absurd ((h y).mpr (.head _)) (by simp)
 | x :: a,[],_,_,h=>absurd ((h x).mp (.head _)) (by simp)
 | x :: a,y :: b,ha,hb,h=>by
  obtain ⟨ha1,ha2⟩:=List.pairwise_cons.mp ha
  obtain ⟨hb1,hb2⟩:=List.pairwise_cons.mp hb
  have e:x=y:=by
   rcases List.mem_cons.mp ((h x).mp (.head _)) with z | z
   ·exact z
   ·rcases List.mem_cons.mp ((h y).mpr (.head _)) with z' | z'
    ·exact z'.symm
    ·have:=ha1 y z'
     have:=hb1 x z
     omega
  subst e
  rw [mR ha2 hb2 fun z=>⟨fun hz=>?_,fun hz=>?_⟩]
  ·rcases List.mem_cons.mp ((h z).mp (.tail _ hz)) with w | w
   ·have:=ha1 z hz
    omega
   ·exact w
  ·rcases List.mem_cons.mp ((h z).mpr (.tail _ hz)) with w | w
   ·have:=hb1 z hz
    omega
   ·exact w
noncomputable def fQ (p:Key×V):Int:=match p.1 with
 | .inl h=>h
 | .inr _=>0
theorem jr:∀ {kv:List (Key×V)},KsOk kv→(kv.map fun p=>kV p.1)=(kv.map fQ).map V.int∧kv.map (·.1)=(kv.map fQ).map Sum.inl
 | [],_=>⟨rfl,rfl⟩
 | p :: kv,g=>by
  obtain ⟨h,e,_⟩:=g p (.head _)
  obtain ⟨i1,i2⟩:=jr fun q hq=>g q (.tail _ hq)
  have ei:fQ p=h:=by unfold fQ; rw [e]
  refine ⟨?_,?_⟩
  ·rw [List.map_cons,List.map_cons,List.map_cons,i1,ei,e]
   rfl
  ·rw [List.map_cons,List.map_cons,List.map_cons,i2,ei,e]
theorem zm {kv:List (Key×V)} {h:Int} (hm:h∈kv.map fQ) (g:KsOk kv):(cg kv (.inl h)).isSome=true:=by
 rw [← gw,List.any_eq_true]
 obtain ⟨p,hp,e⟩:=List.mem_map.mp hm
 obtain ⟨h',e',_⟩:=g p hp
 refine ⟨p,hp,decide_eq_true ?_⟩
 rw [e',← e]
 unfold fQ
 rw [e']
theorem Bu {kv:List (Key×V)} {h:Int} (hs:(cg kv (.inl h)).isSome=true):h∈kv.map fQ:=by
 rw [← gw,List.any_eq_true] at hs
 obtain ⟨p,hp,e⟩:=hs
 have e:=of_decide_eq_true e
 refine List.mem_map.mpr ⟨p,hp,?_⟩
 unfold fQ
 rw [e]
theorem zq {kv:List (Key×V)} {L ns:List Int} (hL:L.length=8) (g:KsOk kv) (nd:(kv.map (·.1)).Nodup) (hv:∀ h,0≤h→h < 8→(cg kv (.inl h)).getD (.int 0)=.int (L.getD h.toNat 0)) (pm:ns.Perm (kv.map fQ)) (so:ns.Pairwise (·≤·)) :
  (ns.filter fun h=>decide (0 < L.getD h.toNat 0)).map (fun h=>[h,L.getD h.toNat 0])=cz L 8:=by
 have nd':(kv.map fQ).Nodup:=by
  rw [(jr g).2] at nd
  exact (List.pairwise_map.mp nd).imp fun {a b} h e=>h (by rw [e])
 have ndn:ns.Nodup:=pm.nodup_iff.mpr nd'
 have lt:ns.Pairwise (· < ·):=(so.and ndn).imp fun {a b} h=>by have h1:a≤b:=h.1; have h2:a≠b:=h.2; omega
 have eq:(ns.filter fun h=>decide (0 < L.getD h.toNat 0))=(((List.range 8).filter fun h=>decide (0 < L.getD h 0)).map fun (h:Nat)=>(h:Int)):=by
  refine mR (lt.filter _) ?_ fun x=>?_
  ·rw [List.pairwise_map]
   exact (List.pairwise_lt_range.filter _).imp fun {a b} h=>by omega
  ·rw [List.mem_filter,List.mem_map,pm.mem_iff]
   constructor
   ·rintro ⟨h1,h2⟩
    obtain ⟨p,hp,e⟩:=List.mem_map.mp h1
    obtain ⟨h,e',h0,h8⟩:=g p hp
    have ex:x=h:=by rw [← e]; unfold fQ; rw [e']
    refine ⟨x.toNat,List.mem_filter.mpr ⟨List.mem_range.mpr (by omega),h2⟩,by omega⟩
   ·rintro ⟨k,hk,rfl⟩
    obtain ⟨h1,h2⟩:=List.mem_filter.mp hk
    have h1:=List.mem_range.mp h1
    have h2:=of_decide_eq_true h2
    refine ⟨Bu ?_,decide_eq_true (by rw [Int.toNat_natCast]; exact h2)⟩
    have:=hv (k:Int) (by omega) (by omega)
    rw [Int.toNat_natCast] at this
    cases z:cg kv (.inl (k:Int)) with
    | some v=>rfl
    | none =>
     rw [z] at this
     injection this with this
     omega
 rw [eq,List.map_map]
 unfold cz
 refine List.map_congr_left fun k _=>?_
 show [(k:Int),L.getD ((k:Int)).toNat 0]=_
 rw [Int.toNat_natCast]
theorem vz {L:List Int} {i v:Int} {B:Nat} (h:∀ x∈L,x.natAbs≤B) (hv:v.natAbs≤99):∀ x∈jP L i v,x.natAbs≤B+99:=by
 intro x hx
 unfold jP at hx
 rcases List.mem_or_eq_of_mem_set hx with z | z
 ·have:=h x z
  omega
 ·have:(L.getD i.toNat 0).natAbs≤B:=by
   rw [List.getD_eq_getElem?_getD]
   cases e:L[i.toNat]? with
   | none=>exact Nat.zero_le _
   | some y=>exact h y (List.mem_of_getElem? e)
  omega
theorem vA {n y:Int}:∀ {ss:List (List Int)} {L:List Int} {B:Nat},(∀ s∈ss,(fl s 3).natAbs≤99)→(∀ x∈L,x.natAbs≤B)→∀ x∈ss.foldl (hstep n y) L,x.natAbs≤B+198 * ss.length
 | [],L,B,_,h,x,hx=>by
  have:=h x hx
  omega
 | s :: ss,L,B,hs,h,x,hx=>by
  have h3:=hs s (.head _)
  have:=vA (ss:=ss) (L:=hstep n y L s) (B:=B+198) (fun t ht=>hs t (.tail _ ht)) (fun z hz=>by
   unfold hstep at hz
   split at hz
   ·have:=vz (B:=B+99) (vz (B:=B) h (show (-(fl s 3)).natAbs≤99 by omega)) h3 z hz
    omega
   ·have:=h z hz
    omega) x hx
  rw [List.length_cons]
  omega
theorem Bv {p:List Int} {ss:List (List Int)} {n y:Int} (op:okP p) (hs:∀ s∈ss,(fl s 3).natAbs≤99):∀ x∈bQ p ss n y,x.natAbs≤99+198 * ss.length:=by
 unfold bQ
 split
 ·refine vA hs fun x hx=>?_
  unfold base0 at hx
  obtain ⟨_,_,_,_,⟨e1,e2⟩,_⟩:=op
  rcases List.mem_or_eq_of_mem_set hx with z | z
  ·rw [List.eq_of_mem_replicate z]
   decide
  ·omega
 ·intro x hx
  rw [List.eq_of_mem_replicate hx]
  exact Nat.zero_le _
theorem Fq {ps ss:List (List Int)} (h:un ps ss=none):∀ s∈ss,(fl s 3).natAbs≤99:=fun s hs=>by
 obtain ⟨j,hj,e⟩:=List.getElem_of_mem hs
 have:=zj h j hj
 rw [getD_get hj,e] at this
 unfold d9 nO at this
 simp only [Bool.and_eq_true,decide_eq_true_eq] at this
 obtain ⟨⟨_,_,_,_,⟨a,b⟩,_⟩,_⟩:=this
 omega
theorem oZ:∀ {a b:List PyData},dH a=true→dH b=true→dH (a++b)=true
 | [],_,_,h=>h
 | x :: a,b,h,h'=>by
  have h:(tame x && dH a)=true:=h
  rw [Bool.and_eq_true] at h
  show (tame x && dH (a++b))=true
  rw [h.1,oZ h.2 h']
  rfl
theorem tD {L:List Int} {B:Nat} (h:∀ x∈L,x.natAbs≤B) (hB:B < 2 ^ 100):dH ((cz L 8).map d7)=true∧szs ((cz L 8).map d7)≤24:=by
 have key:∀ i,i≤8→dH ((cz L i).map d7)=true∧szs ((cz L i).map d7)≤3 * i:=by
  intro i
  induction i with
  | zero=>exact fun _=>⟨rfl,Nat.le_refl _⟩
  | succ i ih =>
   intro hi
   obtain ⟨h1,h2⟩:=ih (by omega)
   rw [ir]
   by_cases hp:0 < L.getD i 0
   ·rw [if_pos hp,List.map_append]
    have hx:(L.getD i 0).natAbs≤B:=by
     rw [List.getD_eq_getElem?_getD]
     cases e:L[i]? with
     | none=>exact Nat.zero_le _
     | some y=>exact h y (List.mem_of_getElem? e)
    refine ⟨oZ h1 ?_,?_⟩
    ·show ((decide (((i:Int)).natAbs < 2 ^ 128) && (decide ((L.getD i 0).natAbs < 2 ^ 128) && true)) && true)=true
     rw [decide_eq_true (by omega),decide_eq_true (by omega)]
     rfl
    ·rw [lr]
     show szs ((cz L i).map d7)+(1+(1+(1+0))+0)≤3 * (i+1)
     omega
   ·rw [if_neg hp,List.append_nil]
    exact ⟨h1,by omega⟩
 exact key 8 (Nat.le_refl _)
end K04

set_option Elab.async false
set_option linter.all false
set_option maxRecDepth 100000
set_option maxHeartbeats 2000000
namespace K04
open PySem L2
noncomputable def tE (o:Option Nat) (rs:List (List Int)):PyData:=match o with
 | some j=>iM j
 | none=>.list [.list (rs.map d7)]
noncomputable def FoundL (o:Option Nat) (rs:List (List Int)) (S:Addr→Prop) (H:Hp) (v:V):Prop:=match o with
 | some j=>∃ p,v=.ref p∧H p=some (.tup [.str (words.getD j "")])
 | none=>∃ p l xs,v=.ref p∧H p=some (.lst [.ref l])∧S p∧S l∧p≠l∧H l=some (.lst xs)∧IsThs (fun _=>False) H xs (rs.map d7)
theorem FoundL.th {o:Option Nat} {rs:List (List Int)} {S:Addr→Prop} {H:Hp} {v:V} (h:FoundL o rs S H v):IsTh S H v (tE o rs):=by
 cases o with
 | some j =>
  obtain ⟨p,rfl,e⟩:=h
  exact lu e rfl
 | none =>
  obtain ⟨p,l,xs,rfl,e,sp,sl,_,el,t⟩:=h
  exact .lst sp e (.cons (.lst sl el (t.kp (fun _ _ _ _ e=>e) fun _ _ _ _ z _=>z.elim)) .nil)
theorem FoundL.er {o:Option Nat} {rs:List (List Int)} {H H1:Hp} {v:V} {cs:List (Addr×Obj)} (h:FoundL o rs (New (fz H cs)) H1 v) (s:Same (fz H cs) H1) (no:NoC cs H):FoundL o rs (New H) (er H1 cs) v:=by
 have nw:∀ a,New (fz H cs) a→New H a:=fun a ⟨h1,h2⟩=>by
  refine ⟨?_,h2⟩
  cases z:H a with
  | none=>rfl
  | some o =>
   cases q:cs.lookup a with
   | some u=>rw [no a u q] at z; cases z
   | none=>rw [cH q,z] at h1; cases h1
 cases o with
 | some j =>
  obtain ⟨p,rfl,e⟩:=h
  exact ⟨p,rfl,kZ s (fun _ _ z=>by cases z) e⟩
 | none =>
  obtain ⟨p,l,xs,rfl,e,sp,sl,ne,el,t⟩:=h
  exact ⟨p,l,xs,rfl,kZ s (fun _ _ z=>by cases z) e,nw _ sp,nw _ sl,ne,kZ s (fun _ _ z=>by cases z) el,t.kp (fun b o _ n e=>kZ s n e) fun _ _ _ _ s _=>s⟩
section
variable {P:Program} {w:World} {K:PySem.W.Frag} {mg:Str→Option Value} {base:Heap}
theorem wN {Cs:Nat→Addr} {kk:Nat} {fl:Addr} {fd:FuncData} {body:Expr} {N:List Str} {vs:List V} {cs:List (Addr×Obj)} {H2:Hp} {o:Option Nat} {rs:List (List Int)} {Q:VK} (kd:∀ j,o=some j→Kind K Cs j) (L:LamObj H2 fl fd) (Z:LamAt fd body N) (C:CellsOf fd.closure N vs H2 cs) (hN:vs.length=N.length)
  (run:∀ A outer E Q,Room kk A→Fp Cs o rs H2 Q E→∃ te,(∀ s,PE (cxL P w K mg base N fd fl A outer s H2 E) body te)∧te (vs.map some) H2 Q)
  (q:∀ v' H3,Same (fz H2 cs) H3→FoundL o rs (New (fz H2 cs)) H3 v'→Q v' H3):uf P w K mg base Cs kk [.ref fl] (fz H2 cs) Q E0:=by
 have no:NoC cs H2:=C.no
 have hfz:∀ b o,H2 b=some o→fz H2 cs b=some o:=fun b o e=>by
  cases z:cs.lookup b with
  | some u=>rw [no b u z] at e; cases e
  | none=>rw [cH z]; exact e
 refine ⟨fl,fun v' H3=>o=none∧Same (fz H2 cs) H3∧∃ l xs,v'=.ref l∧New (fz H2 cs) l∧H3 l=some (.lst xs)∧IsThs (fun _=>False) H3 xs (rs.map d7),fun a C' H3=>∃ j,o=some j∧C'=Cs j∧Same (fz H2 cs) H3,rfl,
  ⟨fd,body,N,vs,cs,?_,Z,fun b o e=>oN e,C.cell,C.val,hN,fun A' outer' Q' E' hr' h1 h2=>?_⟩,?_,?_⟩
 ·obtain ⟨⟨o,e1,e2⟩,c,oc,vs,t,a1,a2,a3⟩:=L
  exact ⟨⟨o,hfz _ _ e1,e2⟩,c,oc,vs,t,a1,hfz _ _ a2,a3⟩
 ·rw [Ex no]
  refine run A' outer' _ _ hr' ⟨fun j hj a H' s' na no'=>?_,fun kn l xs H' s' nl nm el tv no'=>?_⟩
  ·exact h2 a (Cs j) (fz H' cs) ⟨j,hj,rfl,s'.fz⟩
  ·have nc:cs.lookup l=none:=by
    cases z:cs.lookup l with
    | none=>rfl
    | some u=>rw [no' l u z] at el; cases el
   refine h1 _ (fz H' cs) ⟨kn,s'.fz,l,xs,rfl,⟨by rw [cH nc]; exact nl,nm⟩,by rw [cH nc]; exact el,tv.kp (fun b o _ _ e=>?_) fun _ _ _ _ s _=>s⟩
   cases q:cs.lookup b with
   | some u=>rw [no' b u q] at e; cases e
   | none=>rw [cH q]; exact e
 ·rintro v' H3 ⟨kn,s3,l,xs,rfl,nl,el,tv⟩ p hp np
  refine q _ _ (s3.updR hp) ?_
  rw [kn]
  have npl:p≠l:=fun z=>by rw [z,el] at hp; cases hp
  exact ⟨p,l,xs,rfl,ak,⟨s3.free hp,np⟩,nl,npl,by rw [az npl.symm]; exact el,tv.same (Same.upd hp)⟩
 ·rintro a C' H3 ⟨j,hj,rfl,s3⟩
  refine ⟨j,rfl,kd j hj,fun fa p H4 s4 e4=>q _ _ (s3.trans s4) ?_⟩
  rw [hj]
  exact ⟨p,rfl,e4⟩
end
noncomputable def vB (T:Addr) (qn:Str):Sp:=fun vs H Q _=>∃ S v d vn n vy y,vs=[v,vn,vy]∧¬ S sysModules∧IsTh S H v d∧IsTh S H vn n∧IsTh S H vy y∧tame (.tuple [d,n,y])=true∧sz (.tuple [d,n,y])≤1000∧TabOk H T qn ∧
 ∀ H',(∀ b o,b≠T→H b=some o→H' b=some o)→TabOk H' T qn→Q (.bl true) H'
theorem kind_le {d n y:PyData} {j:Nat} (h:dN d n y=some j):j=3∨j=4∨j=5:=by
 unfold dN at h
 split at h
 ·cases h; omega
 ·split at h
  ·cases h; omega
  ·split at h
   ·cases h; omega
   ·cases h
theorem Dy (d n y:PyData):tame (tE (dN d n y) (fO d n y))=true∧sz (tE (dN d n y) (fO d n y))≤1000:=by
 unfold tE
 cases k:dN d n y with
 | some j =>
  rcases kind_le k with rfl | rfl | rfl
  ·exact ⟨(by show tame (iM 3)=true; decide +kernel),(by show sz (iM 3)≤1000; decide +kernel)⟩
  ·exact ⟨(by show tame (iM 4)=true; decide +kernel),(by show sz (iM 4)≤1000; decide +kernel)⟩
  ·exact ⟨(by show tame (iM 5)=true; decide +kernel),(by show sz (iM 5)≤1000; decide +kernel)⟩
 | none =>
  have hb:fX d=true:=by
   unfold dN at k
   split at k
   ·cases k
   ·rename_i h; simpa using h
  unfold dN at k
  rw [if_neg (by rw [hb]; decide)] at k
  have hn:cX n 0 ((rowsOf (part d 1)).length - 1)=true:=by
   split at k
   ·cases k
   ·rename_i h; simpa using h
  obtain ⟨d0,d1,d2,rfl,b0,b1,b2,b3⟩:=jc hb
  obtain ⟨ep,lp,okp⟩:=fK b1
  obtain ⟨es,ls,oks⟩:=fM b2
  have hn:cX n 0 ((rowsOf d1).length - 1)=true:=hn
  unfold cX at hn
  rw [Bool.and_eq_true,Bool.and_eq_true,decide_eq_true_eq,decide_eq_true_eq] at hn
  obtain ⟨p,hp,ep',op⟩:=fu okp hn.2.1 (by omega)
  have bd:=Bv (p:=(rowsOf d1).getD (intOf n).toNat []) (ss:=rowsOf d2) (n:=intOf n) (y:=intOf y) (by rw [ep']; exact op) (Fq b3)
  obtain ⟨t1,t2⟩:=tD bd (by omega)
  refine ⟨?_,?_⟩
  ·show ((dH ((fO (.tuple [d0,d1,d2]) n y).map d7)) && true)=true
   rw [show fO (.tuple [d0,d1,d2]) n y=cz (bQ ((rowsOf d1).getD (intOf n).toNat []) (rowsOf d2) (intOf n) (intOf y)) 8 from rfl,t1]
   rfl
  ·show 1+((1+szs ((fO (.tuple [d0,d1,d2]) n y).map d7))+0)≤1000
   rw [show fO (.tuple [d0,d1,d2]) n y=cz (bQ ((rowsOf d1).getD (intOf n).toNat []) (rowsOf d2) (intOf n) (intOf y)) 8 from rfl]
   omega
end K04

set_option Elab.async false
set_option linter.all false
set_option maxRecDepth 100000
set_option maxHeartbeats 2000000
namespace K04
open PySem L2
theorem uo (L:List Int) (i:Nat):(cz L i).length≤i:=by
 unfold cz
 rw [List.length_map]
 have:=List.length_filter_le (fun h=>decide (0 < L.getD h 0)) (List.range i)
 rw [List.length_range] at this
 exact this
theorem zr:∀ {l:List Int} {a:Int} {k:Nat},l.Pairwise (· < ·)→(∀ x∈l,a≤x∧x < a+k)→l.length≤k
 | [],_,_,_,_=>Nat.zero_le _
 | x :: l,a,0,h,g=>by
  have:=g x (.head _)
  omega
 | x :: l,a,k+1,h,g=>by
  obtain ⟨h1,h2⟩:=List.pairwise_cons.mp h
  have gx:=g x (.head _)
  have:=zr (a:=a+1) (k:=k) h2 fun y hy=>by
   have:=g y (.tail _ hy)
   have:=h1 y hy
   omega
  rw [List.length_cons]
  omega
theorem vC {kv:List (Key×V)} {ns:List Int} (g:KsOk kv) (nd:(kv.map (·.1)).Nodup) (pm:ns.Perm (kv.map fQ)) (so:ns.Pairwise (·≤·)):ns.length≤8:=by
 have nd':(kv.map fQ).Nodup:=by
  rw [(jr g).2] at nd
  exact (List.pairwise_map.mp nd).imp fun {a b} h e=>h (by rw [e])
 have ndn:ns.Nodup:=pm.nodup_iff.mpr nd'
 have lt:ns.Pairwise (· < ·):=(so.and ndn).imp fun {a b} h=>by have h1:a≤b:=h.1; have h2:a≠b:=h.2; omega
 refine zr (a:=0) (k:=8) lt fun x hx=>?_
 obtain ⟨p,hp,e⟩:=List.mem_map.mp (pm.mem_iff.mp hx)
 obtain ⟨h,e',h0,h8⟩:=g p hp
 have ex:x=h:=by rw [← e]; unfold fQ; rw [e']
 omega
theorem zx {kv:List (Key×V)} (g:KsOk kv) (nd:(kv.map (·.1)).Nodup):(kv.map fQ).length≤8:=by
 have pm:=List.mergeSort_perm (kv.map fQ) (fun a b=>decide (a≤b))
 have so:((kv.map fQ).mergeSort fun a b=>decide (a≤b)).Pairwise (·≤·):=(List.pairwise_mergeSort (le:=fun a b=>decide (a≤b)) (fun a b c h1 h2=>by simp only [decide_eq_true_eq] at *; omega) (fun a b=>by simp only [Bool.or_eq_true,decide_eq_true_eq]; omega) _).imp fun {a b} h=>by simpa using h
 rw [← pm.length_eq]
 exact vC g nd pm so
noncomputable def mU (L ns:List Int):List (List Int):=(ns.filter fun h=>decide (0 < L.getD h.toNat 0)).map fun h=>[h,L.getD h.toNat 0]
theorem jX (L ns:List Int) (x:Int):mU L (ns++[x])=mU L ns++(if 0 < L.getD x.toNat 0 then [[x,L.getD x.toNat 0]] else []):=by
 unfold mU
 rw [List.filter_append,List.map_append]
 congr 1
 by_cases h:0 < L.getD x.toNat 0
 ·rw [if_pos h,List.filter_cons_of_pos (p:=fun (h:Int)=>decide (0 < L.getD h.toNat 0)) (decide_eq_true h)]
  rfl
 ·rw [if_neg h,List.filter_cons_of_neg (p:=fun (h:Int)=>decide (0 < L.getD h.toNat 0)) (by rw [decide_eq_true_eq]; exact h)]
  rfl
theorem boot_sorted:bootBuiltins "sorted" = some (.builtin "sorted"):=by decide +kernel
section
variable {P:Program} {w:World} {K:PySem.W.Frag} {mg:Str→Option Value} {base:Heap}
theorem scR:FnScope ["_law_book_here","_law_number","_law_year","_law_kept","_law_due","_law_row","_law_turn","_law_found"] ["_law_book_here","_law_number","_law_year"] (aD (top 73)):=⟨rfl,rfl,rfl,by decide +kernel,rfl,by decide +kernel,by decide +kernel⟩
noncomputable def qnT:Str:=(PyProof.Rows.envOfC "_law_right" (aD (top 73)) 0 0 .none).qual++"<lambda>"
theorem zG {f T0 cc:Addr} {Cs:Nat→Addr} {fd:FuncData} (F:Fun K "_law_right" "_law_right" (top 73) f fd) (hc:fd.code=.ref cc) (hC:PySem.W.CodeHd base cc T0) (hB:base.BuiltinsAt mg T0) (T:Mg mg) (Tp:mg "repr" = none) (Tl:mg "list" = none) (Ts:mg "sorted" = none) (Tr:mg "range" = none) (kd:∀ j,j=3∨j=4∨j=5→Kind K Cs j)
  (c1:Cal P w K mg base 11 "_law_said" ["_law_call"] (uf P w K mg base Cs 9)) (c2:Bc P w K mg base 8 "holdings" ["book","number","year"] (vq Cs)) (c3:Cal P w K mg base 5 "_law_is_book" ["_law_thing"] (spT mQ)) (c4:Cal P w K mg base 2 "_law_between" ["_law_thing","_law_low","_law_high"] (km cX))
  (c5:Cal P w K mg base 2 "_law_sold" ["_law_promises_here","_law_sales_here"] qy) (c6:Cal P w K mg base 61 "_law_same" ["_law_found","_law_due"] yz) :
  FnOk P w K mg base CX0 62 f fd ["_law_book_here","_law_number","_law_year"] (vB T0 qnT):=by
 refine F.okC hc scR (fun vs H Q E h=>?_) (fun A outer s H vs Q E hr h=>?_)
 ·obtain ⟨S,v,d,vn,n,vy,y,rfl,_⟩:=h
  rfl
 ·obtain ⟨S,v,d,vn,n,vy,y,rfl,hS,th,tn,ty,tm,hz,tab,q⟩:=h
  obtain ⟨f1,fd1,F1,m1,k1,b1⟩:=id c1
  have room9:Room 11 (A.deeper (PyProof.Rows.envOfC "_law_right" (aD (top 73)) s.heap.objs.size f (.ref cc))):=hr.mono (by decide)
  refine ⟨_,aA (tH (i:=3) (j:=4) rfl scR.nd rfl rfl (by decide) rfl rfl (aq (aJ (iz (S:=S) hr.gd hS) rfl Tp gK (aq (bW (aq (pv 0) (aq (pv 1) (aq (pv 2) aj)))) aj)) (aq (bW (aq iQ aj)) aj)) rfl)
   (aA (bF (bG (aH c3 hr (by decide) rfl (aq (pv 0) aj)))
    (aA (bw (i:=4) scR.nd rfl (Or.inl rfl) (bW (aq iQ aj)))
    (aB (bF (bG (aH c4 hr (by decide) rfl (aq (pv 1) (aq ao (aq (aX jw (aJ aQ rfl T.len PySem.boot_len (aq (bh bx (pv 0) ao (fun _ _=>rfl)) aj)) ao) aj)))))
     (aA (bw (i:=4) scR.nd rfl (Or.inl rfl) (bW (aq iQ aj)))
     (aB (bF (bG (aH c4 hr (by decide) rfl (aq (pv 2) (aq ao (aq ao aj)))))
      (aA (bw (i:=5) scR.nd rfl (Or.inr rfl) (lN (gU hr) (bh bx (aH c5 hr (by decide) rfl (aq (bh bx (pv 0) ao (fun _ _=>rfl)) (aq (bh bx (pv 0) ao (fun _ _=>rfl)) aj))) ao (fun _ _=>rfl)) (bW (aq (pv 1) (aq (pv 2) aj))) rC (by constructor <;> rfl)))
      (aB (bw (i:=4) scR.nd rfl (Or.inl rfl) (pR (aq (rF ["_law_holder","_law_row"] [none,some 5] rfl (uv (aJ pZ rfl Ts boot_sorted (aq (dR (lY rfl) rfl Tl j9 (aq (pv 5) aj)) aj)))
       (fun C fp pins s₂ H₂=>⟨aC (i:=0) (nd2 _ _ (by decide)) rfl (Or.inl rfl),uF (bD lC (jf (gU hr) (pv 1) (pv 0) (fun _ _=>rfl)) ao (bj _)),bW (aq (pv 0) (aq (jf (gU hr) (pv 1) (pv 0) (fun _ _=>rfl)) aj))⟩)
       (fun C=>⟨⟨rfl,.inl rfl,rfl,.inl rfl⟩,trivial⟩) ⟨rfl,rfl,rfl,rfl⟩) aj))))) aV))) aV))) aV)
   (aA (dF PassesOwn.never rfl (dg rfl Tr (aq ao aj)) (aC (i:=6) scR.nd rfl (Or.inl rfl))
    (aA (bw (i:=7) scR.nd rfl (Or.inl rfl) (yt (N:=["_law_book_here","_law_number","_law_year"]) (ix:=[0,1,2]) (sc:=aD (top 73)) (NX:=["_law_book_here","_law_number","_law_year","_law_kept","_law_due","_law_row","_law_turn","_law_found"]) F1 room9 rfl m1 k1 b1 rfl (fun _=>rfl) rfl hC hB rfl rfl rfl (fun _ _ _ _ _=>rfl) (by decide +kernel)))
    (aA (bF (PW.pt (eV (bA (bG (aH c6 hr (by decide) rfl (aq (pv 7) (aq (pv 4) aj))))) (eO (bD nW (aJ (iz (S:=S) hr.gd hS) rfl Tp gK (aq (bW (aq (pv 0) (aq (pv 1) (aq (pv 2) aj)))) aj)) (pv 3) (bj _))))) (aB (aN dw)) aV)
    (aB (bF (bG (aJ bu rfl T.isinstance boot_isinstance (aq (pv 7) (aq (cB rfl Tl j9 (v:=.ty "list") rfl) aj)))) (aB (eY (iK PySem.F.plainAttrs_list PySem.F.slot_list_append PySem.F.type_list_append iy (bh bz (pv 7) ao (fun _ _=>rfl)) (aq (bW (aq ao (aq ao aj))) aj)))) aV)))))
   (aB (aN dw)))),?_⟩
  have zz:sz d≤4000∧sz n≤4000∧sz y≤4000:=by
   have:1+(sz d+(sz n+(sz y+0)))≤1000:=hz
   omega
  refine aK ?_
  refine ⟨_,rfl,_,rfl,_,rfl,(by show 3≤sizeLine; decide),fun p0 hp0=>?_⟩
  have sp0:=Same.upd (o:=.tup [v,vn,vy]) hp0
  refine ⟨.ref p0,.tuple [d,n,y],rfl,.tup ak (.cons (th.same sp0) (.cons (tn.same sp0) (.cons (ty.same sp0) .nil))),tm,by omega,lq hr (by decide) hz,(by show 1≤sizeLine; decide),fun p1 hp1=>⟨_,_,rfl,?_⟩⟩
  dsimp only
  refine cW (fun H1=>Same H H1∧H1 p1=some (.tup [.str "book"])) ⟨sp0.updR hp1,ak⟩ fun H1 ⟨s1,e1⟩=>?_
  refine Aj fun c hcc=>?_
  have rest:∀ v4 x5 H3,Same H H3→IsTh (fun a=>a≠sysModules) H3 v4 (tE (dN d n y) (fO d n y))→c [some v,some vn,some vy,some (.str (PyData.tuple [d,n,y]).shown),some v4,x5,none,none] H3:=by
   intro v4 x5 H3 s3 t3
   refine hcc _ _ ?_
   refine aK ?_
   refine ⟨2,rfl,by decide,by decide,?_⟩
   have tab3:=tab.same s3
   refine cQ (lo:=0) (fun i σ Hc=>∃ x6 x7,σ=[some v,some vn,some vy,some (.str (PyData.tuple [d,n,y]).shown),some v4,x5,x6,x7]∧(∀ b o,b≠T0→H3 b=some o→Hc b=some o)∧TabOk Hc T0 qnT) ?_ ?_ ?_
   ·exact ⟨_,_,rfl,fun _ _ _ e=>e,tab3⟩
   ·rintro i σ Hc hi ⟨x6,x7,rfl,kc,tabc⟩
    have thc:=(th.same s3).tbl tab3 kc
    have tnc:=(tn.same s3).tbl tab3 kc
    have tyc:=(ty.same s3).tbl tab3 kc
    have t3c:=t3.tbl tab3 kc
    refine aP ?_
    refine aK ?_
    refine aZ ?_
    refine ⟨tabc,fun fl pm cv ct H4 kp tab4 nf L Z=>⟨[v,vn,vy],rfl,fun j i z e1 e2=>?_,fun cs C=>?_⟩⟩
    ·rcases j with _ | _ | _ | j
     ·cases e1
      cases e2
      rfl
     ·cases e1
      cases e2
      rfl
     ·cases e1
      cases e2
      rfl
     ·simp at e1
    refine wN (o:=dN d n y) (rs:=fO d n y) (fun j hj=>kd j (kind_le hj)) L Z C rfl (fun A' outer' E' Q' hr' out=>⟨_,fun s'=>uY c2 (hr'.deeper _) (by decide) rfl yp rfl (aq (pv 0) (aq (pv 1) (aq (pv 2) aj))),⟨v,rfl,vn,rfl,vy,rfl,S,v,d,vn,n,vy,y,rfl,thc.tbl tabc kp,tnc.tbl tabc kp,tyc.tbl tabc kp,zz.1,zz.2.1,zz.2.2,out⟩⟩) fun v' H5 s5 fo=>?_
    refine aP ?_
    dsimp only
    have no:NoC cs H4:=C.no
    refine cW (fun H6=>FoundL (dN d n y) (fO d n y) (New H4) H6 v'∧Same H4 H6) ⟨fo.er s5 no,s5.er no⟩ fun H6 ⟨fo6,s6⟩=>?_
    clear fo s5 no C L Z
    have tv6:IsTh (fun a=>a≠sysModules) H6 v' (tE (dN d n y) (fO d n y)):=fo6.th.kp (fun _ _ _ _ e=>e) fun _ _ _ _ z _=>z.2
    have k6:∀ b o,b≠T0→Hc b=some o→H6 b=some o:=fun b o n e=>s6 b o (kp b o n e)
    have tab6:=TabOk.same tab4 s6
    obtain ⟨dt,ds⟩:=Dy d n y
    refine aK ?_
    refine ⟨_,rfl,_,rfl,fun a=>a≠sysModules,v',v4,_,_,rfl,fun z=>z rfl,tv6,t3c.tbl tabc k6,dt,dt,ds,ds,_,rfl,?_⟩
    rw [decide_eq_true rfl]
    refine bf ?_
    refine ⟨_,rfl,_,rfl,_,rfl,(by show 3≤sizeLine; decide),fun p6 hp6=>?_⟩
    have s7:=Same.upd (o:=.tup [v,vn,vy]) hp6
    refine ⟨.ref p6,.tuple [d,n,y],rfl,.tup ak (.cons ((thc.tbl tabc k6).same s7) (.cons ((tnc.tbl tabc k6).same s7) (.cons ((tyc.tbl tabc k6).same s7) .nil))),tm,by omega,lq hr (by decide) hz,_,rfl,rfl,_,rfl,?_⟩
    rw [decide_eq_true rfl]
    refine bf ?_
    refine bN ?_
    dsimp only
    refine cW (fun H7=>Same H6 H7) s7 fun H7 s7=>?_
    clear tv6 hp6
    have k7:∀ b o,b≠T0→Hc b=some o→H7 b=some o:=fun b o n e=>s7 b o (k6 b o n e)
    have tab7:=TabOk.same tab6 s7
    cases hk:dN d n y with
    | some j =>
     rw [hk] at fo6
     obtain ⟨p,rfl,ep⟩:=fo6
     refine ⟨_,rfl,.ref p,_,"list",false,rfl,.tup (s7 _ _ ep),rfl,_,rfl,?_⟩
     refine bf ?_
     exact ⟨_,_,rfl,fun b o n e=>k7 b o n (kc b o n e),tab7⟩
    | none =>
     rw [hk] at fo6
     obtain ⟨p,l,xs,rfl,ep,np,nl,npl,el,tl⟩:=fo6
     have ep7:=s7 _ _ ep
     have el7:=s7 _ _ el
     refine ⟨_,rfl,.ref p,_,"list",true,rfl,.lst ep7,rfl,_,rfl,?_⟩
     refine aY ?_
     refine ⟨_,rfl,p,[.ref l],0,.ref l,rfl,rfl,SqL.of ep7,rfl,.inl ⟨rfl,_,SqL.of el7⟩,(by show 2≤sizeLine; decide),fun tt htt=>⟨l,xs,.ref tt,rfl,rfl,Same.upd htt _ _ el7,?_,?_⟩⟩
     ·have:=tl.length
      rw [List.length_map] at this
      have:=uo (bQ ((rowsOf (part d 1)).getD (intOf n).toNat []) (rowsOf (part d 2)) (intOf n) (intOf y)) 8
      unfold fO at *
      rw [sizeLine_eq]
      omega
     ·have nlc:∀ b o,b≠T0→Hc b=some o→b≠l:=fun b o n e=>aG (kp b o n e) nl.1
      have lT:l≠T0:=fun z=>by
       obtain ⟨ps,e',_⟩:=tab7
       rw [z,e'] at el7
       cases el7
      refine ⟨_,_,rfl,fun b o n e=>?_,?_⟩
      ·rw [az (nlc b o n (kc b o n e))]
       exact Same.upd htt _ _ (k7 b o n (kc b o n e))
      ·refine (TabOk.same tab7 (Same.upd htt)).keep (fun ps e=>by rw [az lT.symm]; exact e) fun b o e=>?_
       rw [az fun z=>by rw [z,Same.upd htt _ _ el7] at e; cases e]
       exact e
   ·rintro σ Hc ⟨x6,x7,rfl,kc,tabc⟩
    exact q Hc (fun b o n e=>kc b o n (s3 b o e)) tabc
  refine ⟨_,rfl,S,v,d,rfl,th.same s1,zz.1,fun H2 s2=>⟨_,rfl,?_⟩⟩
  have s12:=s1.trans s2
  rw [← Bt]
  cases hb:fX d with
  | false =>
   refine bf (bN (rest _ _ H2 s12 ?_))
   have:tE (dN d n y) (fO d n y)=iM 3:=by unfold tE dN; rw [if_pos hb]
   rw [this]
   exact lu (s2 _ _ e1) rfl
  | true =>
  refine aY ?_
  obtain ⟨d0,d1,d2,rfl,b0,b1,b2,b3⟩:=jc hb
  have kb:dN (.tuple [d0,d1,d2]) n y=if cX n 0 ((rowsOf d1).length - 1)=false then some 4 else if cX y 0 19=false then some 5 else none:=by
   unfold dN
   rw [if_neg (by rw [hb]; decide)]
   rfl
  have eR:fO (.tuple [d0,d1,d2]) n y=cz (bQ ((rowsOf d1).getD (intOf n).toNat []) (rowsOf d2) (intOf n) (intOf y)) 8:=rfl
  rw [kb,eR] at rest
  obtain ⟨ep,lp,okp⟩:=fK b1
  obtain ⟨es,ls,oks⟩:=fM b2
  have th2:=th.same s12
  cases th2 with
  | @tup a xs _ ea r =>
  obtain ⟨v0,v1,v2,d0',d1',d2',rfl,ee,h0,h1,h2⟩:=iD r rfl
  cases ee
  rw [ep] at h1
  rw [es] at h2
  obtain ⟨ap,xp,rfl,rp⟩:=f9 h1
  obtain ⟨as_,xs,rfl,rs⟩:=f9 h2
  refine aK ?_
  refine aZ ?_
  refine ⟨(by show 1≤sizeLine; decide),fun p2 hp2=>?_⟩
  refine aP ?_
  dsimp only
  refine cW (fun H3=>Same H2 H3∧H3 p2=some (.tup [.str "number"])) ⟨Same.upd hp2,ak⟩ fun H3 ⟨s3,e3⟩=>?_
  have s13:=s12.trans s3
  refine ⟨_,rfl,_,rfl,a,_,1,.ref ap,rfl,rfl,SqT.of (s3 _ _ ea),rfl,ap,_,rfl,.inr (SqT.of (s3 _ _ rp.e)),_,_,rfl,rfl,S,vn,n,0,_,rfl,tn.same s13,zz.2.1,fun H4 s4=>⟨_,rfl,?_⟩⟩
  rw [rp.l]
  have s14:=s13.trans s4
  cases eb:cX n 0 ((rowsOf d1).length - 1) with
  | false =>
   refine bf (bN (rest _ _ H4 s14 ?_))
   rw [if_pos eb]
   exact lu (s4 _ _ e3) rfl
  | true =>
  rw [if_neg (by rw [eb]; decide)] at rest
  refine aY ?_
  refine aK ?_
  refine aZ ?_
  refine ⟨(by show 1≤sizeLine; decide),fun p5 hp5=>?_⟩
  refine aP ?_
  dsimp only
  refine cW (fun H5=>Same H4 H5∧H5 p5=some (.tup [.str "year"])) ⟨Same.upd hp5,ak⟩ fun H5 ⟨s5,e5⟩=>?_
  have s15:=s14.trans s5
  refine ⟨_,rfl,S,vy,y,0,19,rfl,ty.same s15,zz.2.2,fun H6 s6=>⟨_,rfl,?_⟩⟩
  have s16:=s15.trans s6
  cases ey:cX y 0 19 with
  | false =>
   refine bf (bN (rest _ _ H6 s16 ?_))
   rw [if_pos ey]
   exact lu (s6 _ _ e5) rfl
  | true =>
  rw [if_neg (by rw [ey]; decide)] at rest
  refine aY ?_
  obtain ⟨i,rfl,rfl,i0,i1⟩:=jq tn eb
  obtain ⟨j,rfl,rfl,j0,j1⟩:=jq ty ey
  have s26:Same H2 H6:=((s3.trans s4).trans s5).trans s6
  have rest:∀ v4 x5 H3,Same H H3→IsTh (fun a=>a≠sysModules) H3 v4 (.list [.list ((cz (bQ ((rowsOf d1).getD i.toNat []) (rowsOf d2) i j) 8).map d7)])→c [some (.ref a),some (.int i),some (.int j),some (.str (PyData.tuple [.tuple [d0,d1,d2],.int i,.int j]).shown),some v4,x5,none,none] H3:=rest
  have hl8:=fD ((rowsOf d1).getD i.toNat []) (rowsOf d2) i j
  refine aK ?_
  refine aZ ?_
  refine ⟨_,rfl,a,_,1,.ref ap,rfl,rfl,SqT.of (s26 _ _ ea),rfl,_,rfl,a,_,2,.ref as_,rfl,rfl,SqT.of (s26 _ _ ea),rfl,ap,xp,rowsOf d1,as_,xs,rowsOf d2,rfl,rp.same s26,lp,okp,rs.same s26,by omega,oks,fun tt fo H7 s7 ett hdt=>?_⟩
  obtain ⟨b,kvs,dt⟩:=hdt b3
  refine ⟨tt,_,0,.ref fo,rfl,rfl,SqT.of ett,rfl,fo,rfl,.inr ⟨kvs,.inl dt.e⟩,_,rfl,_,rfl,(by show 2≤sizeLine; decide),fun k hk=>?_⟩
  have s8:=Same.upd (o:=.tup [.int i,.int j]) hk
  refine fun z hz0 nz=>?_
  have s9:=s8.updR (o:=.dK []) hz0
  have ek9:=Same.upd (o:=.dK []) hz0 _ _ (ak (H:=H7) (a:=k) (o:=.tup [.int i,.int j]))
  refine ⟨_,DGet.t (k:=ky i j) (s9 _ _ dt.e) ek9,?_⟩
  have s17:=s16.trans s7
  have row:∃ dr kv,(cg kvs (ky i j)).getD (.ref z)=.ref dr∧upd (upd H7 k (.tup [.int i,.int j])) z (.dK []) dr=some (.dK kv)∧KsOk kv∧∀ h,0≤h→h < 8→(cg kv (.inl h)).getD (.int 0)=.int ((bQ ((rowsOf d1).getD i.toNat []) (rowsOf d2) i j).getD h.toNat 0):=by
   by_cases hd:dom (rowsOf d1) i j
   ·obtain ⟨dr,kv,q1,q2,q3,q4⟩:=dt.g i j hd
    exact ⟨dr,kv,by rw [q1]; rfl,s9 _ _ q2,q3.2,q4⟩
   ·refine ⟨z,[],by rw [dt.no i j hd]; rfl,ak,fun p hp=>absurd hp (by simp),fun h h0 h8=>?_⟩
    have:¬ (fl ((rowsOf d1).getD i.toNat []) 2≤j∧j≤fl ((rowsOf d1).getD i.toNat []) 3):=fun w=>hd ⟨i0,by omega,w.1,w.2⟩
    unfold bQ
    rw [if_neg this,List.getD_eq_getElem?_getD,List.getElem?_replicate,if_pos (by omega)]
    rfl
  obtain ⟨dr,kv,er,edr,ks,hv⟩:=row
  have er':(cg kvs (ky i j)).getD (.ref z)=.ref dr:=er
  rw [er']
  refine aP ?_
  dsimp only
  refine cW (fun H9=>Same H7 H9∧H9 dr=some (.dK kv)) ⟨s9,edr⟩ fun H9 ⟨s9,edr⟩=>?_
  clear dt hdt ett ek9 er er' s8
  generalize bQ ((rowsOf d1).getD i.toNat []) (rowsOf d2) i j=L at rest hv hl8
  have s19:=s17.trans s9
  refine aZ ?_
  refine ⟨_,rfl,dr,kv,rfl,edr,fun nd l hl=>?_⟩
  rw [(jr ks).1]
  refine ⟨l,kv.map fQ,rfl,SqL.of ak,(by have:=zx ks nd; omega),fun q' ns hq' pm so=>?_⟩
  have s20:=(Same.upd (o:=.lst ((kv.map fQ).map V.int)) hl).updR (o:=.lst (ns.map V.int)) hq'
  have dr20:=s20 _ _ edr
  have eq20:=ak (H:=upd H9 l (.lst ((kv.map fQ).map V.int))) (a:=q') (o:=.lst (ns.map V.int))
  generalize upd (upd H9 l (.lst ((kv.map fQ).map V.int))) q' (.lst (ns.map V.int))=HA at s20 dr20 eq20 ⊢
  have ln:=vC ks nd pm so
  have fin:mU L ns=cz L 8:=zq hl8 ks nd hv pm so
  rw [← fin] at rest
  have vh:∀ h∈ns,cg kv (.inl h)=some (.int (L.getD h.toNat 0)):=fun h hh=>by
   obtain ⟨p,hp,e⟩:=List.mem_map.mp (pm.mem_iff.mp hh)
   obtain ⟨h',e',h0,h8⟩:=ks p hp
   have ex:h=h':=by rw [← e]; unfold fQ; rw [e']
   have vs:=zm (pm.mem_iff.mp hh) ks
   have:=hv h (by omega) (by omega)
   cases z:cg kv (.inl h) with
   | none=>rw [z] at vs; cases vs
   | some v =>
    rw [z] at this
    exact congrArg some this
  refine ⟨q',rfl,⟨_,SqL.of eq20⟩,sX ns.length (fun k ys σ Hc=>Same HA Hc∧(∃ o1,σ=[o1,some (.ref dr)])∧IsThs (fun _=>False) Hc ys ((mU L (ns.take k)).map d7)) ⟨Same.refl _,⟨_,rfl⟩,.nil⟩ (by rw [sizeLine_eq]; omega) ?_ ?_⟩
  ·rintro k ys σ Hc hk hy ⟨sc,⟨o1,rfl⟩,ht⟩
   have sq1:SqL K Hc q' (ns.map V.int):=SqL.of (sc _ _ eq20)
   have hx:(ns.map V.int)[k]?=some (.int ns[k]):=by
    rw [List.getElem?_map,List.getElem?_eq_getElem hk]
    rfl
   have etk:ns.take (k+1)=ns.take k++[ns[k]]:=by rw [List.take_add_one,List.getElem?_eq_getElem hk]; rfl
   have vk:=vh ns[k] (List.getElem_mem hk)
   have drc:=sc _ _ dr20
   refine ⟨⟨_,_,sq1,hx⟩,fun x H' yv R hR=>?_⟩
   obtain ⟨rfl,yv⟩:=yv
   have yv:=yv _ sq1
   rw [hx] at yv
   cases yv
   refine aP ?_
   refine ⟨_,rfl,_,rfl,dr,_,rfl,by rw [← vk]; exact DGet.k (k:=.inl ns[k]) drc,_,_,rfl,rfl,_,rfl,?_⟩
   by_cases hpos:0 < L.getD (ns[k]).toNat 0
   ·rw [decide_eq_true hpos]
    refine aY ⟨_,rfl,_,rfl,_,rfl,dr,_,rfl,by rw [← vk]; exact DGet.k (k:=.inl ns[k]) drc,(by show 2≤sizeLine; decide),fun t ht'=>hR _ _ _ (by rw [List.length_append]; show ys.length+1≤k+1; omega) ⟨sc.updR ht',⟨_,rfl⟩,?_⟩⟩
    rw [etk,jX,if_pos hpos,List.map_append]
    exact sY (ht.same (Same.upd ht')) (.tup ak (.cons (.int _) (.cons (.int _) .nil)))
   ·rw [decide_eq_false hpos]
    refine bf (hR _ _ _ (by omega) ⟨sc,⟨_,rfl⟩,?_⟩)
    rw [etk,jX,if_neg hpos,List.append_nil]
    exact ht
  ·rintro ys σ Hc hy ⟨sc,_,ht⟩
   rw [List.take_length] at ht
   refine ⟨⟨_,SqL.of (sc _ _ eq20),by rw [List.length_map]; exact Nat.le_refl _⟩,fun D hD nD=>⟨(by show 1≤sizeLine; decide),fun p9 hp9 np9=>?_⟩⟩
   have sB:=(sc.updR (o:=.lst ys) hD).updR (o:=.lst [.ref D]) hp9
   refine aP (rest _ _ _ ((s19.trans s20).trans sB) ?_)
   have nDp:D≠p9:=fun z=>by rw [← z,ak] at hp9; cases hp9
   refine .lst np9 ak (.cons (.lst nD (by rw [az nDp]; exact ak) ?_) .nil)
   exact ((ht.same (Same.upd hD)).same (Same.upd hp9)).kp (fun _ _ _ _ e=>e) fun _ _ _ _ z _=>z.elim
end
end K04

set_option Elab.async false
set_option linter.all false
set_option maxRecDepth 100000
set_option maxHeartbeats 2000000
namespace K04
open PySem L2
noncomputable def vD (K:PySem.W.Frag) (T:Addr):Sp:=fun vs H Q _=>∃ (a:Addr) (ns:List Int),vs=[.ref a]∧SqL K H a (ns.map V.int)∧ns.length≤63∧TabOk H T qnT∧∀ H',Q (.bl true) H'
theorem zH {T st:Addr} {q:Str} {H H':Hp} (t:TabOk H T q) (sa:fP H st) (g:Dr st H H'):TabOk H' T q:=by
 obtain ⟨x,y,e,_⟩:=sa
 refine t.keep (fun ps e'=>g.bt _ _ e' fun z=>?_) fun b o e'=>g.bt _ _ e' fun z=>?_
 ·rw [z,e] at e'
  cases e'
 ·rw [z,e] at e'
  cases e'
noncomputable abbrev Fs (st:Addr) (a:Addr):Prop:=a=st∨a=sysModules
theorem zJ {st:Addr} {H:Hp} (g:fP H st):Fb (Fs st) st H:=⟨.inl rfl,.inr rfl,fun b hb hn=>hb.elim (fun z=>by
 obtain ⟨u,v,e,_⟩:=g
 rw [z,e] at hn
 cases hn) id⟩
theorem vG {rs:List (List Int)} (h:∀ r∈rs,∀ i∈r,-10≤i∧i≤2000000):tms (2 ^ 100) (rs.map d7)=true:=by
 refine tms_all.mpr fun d hd=>?_
 obtain ⟨r,hr,rfl⟩:=List.mem_map.mp hd
 show tms (2 ^ 100) (r.map PyData.int)=true
 refine tms_all.mpr fun d hd=>?_
 obtain ⟨i,hi,rfl⟩:=List.mem_map.mp hd
 have:=h r hr i hi
 exact decide_eq_true (show i.natAbs < 2 ^ 100 by omega)
theorem qC {k:Nat}:∀ {rs:List (List Int)},(∀ r∈rs,r.length=k)→szs (rs.map d7)=(k+1) * rs.length
 | [],_=>rfl
 | r :: rs,h=>by
  show sz (d7 r)+szs (rs.map d7)=(k+1) * (rs.length+1)
  rw [qC fun x hx=>h x (List.mem_cons_of_mem _ hx),Nat.mul_succ]
  show 1+szs (r.map PyData.int)+_=_
  rw [mJ,h r List.mem_cons_self]
  omega
theorem Dz {r:List Int} (h:okP r):∀ i∈r,-10≤i∧i≤2000000:=by
 intro i hi
 rw [fj h.1] at hi
 obtain ⟨_,a,b,c,d,e⟩:=h
 simp only [List.mem_cons,List.not_mem_nil,or_false] at hi
 omega
theorem RowsAt.thF {F:Addr→Prop} {H:Hp} {a:Addr} {rs:List (List Int)} {xs:List V} (h:RowsAt H a xs rs):IsTh (fun a=>¬ F a) H (.ref a) (cI rs):=h.th.keep (fun _ _ e=>e) (fun _ _ z _=>z.elim) fun _ _ z _=>z.elim
noncomputable def Sc (u:V):Prop:=∃ d,(∀ S H,IsTh S H u d)∧tame d=true∧sz d≤1
theorem Sc.int {i:Int} (h:i.natAbs < 2 ^ 128):Sc (.int i):=⟨.int i,fun _ _=>.int i,decide_eq_true h,Nat.le_refl _⟩
theorem Sc.non:Sc .non:=⟨.none,fun _ _=>.non,rfl,Nat.le_refl _⟩
theorem Sc.bl (b:Bool):Sc (.bl b):=⟨.bool b,fun _ _=>.bl b,rfl,Nat.le_refl _⟩
theorem Sc.nil:Sc (.str "0"):=⟨.str "0",fun _ _=>.str _,by decide +kernel,Nat.le_refl _⟩
theorem uq {xs:List V} {r:Int} (h0:0≤r) (h1:r < xs.length):∃ u,atI xs r=some u∧u∈xs:=by
 have hr:r.toNat < xs.length:=by omega
 have e:xs[r.toNat]?=some xs[r.toNat]:=List.getElem?_eq_getElem hr
 have:=gC e
 rw [show ((r.toNat:Nat):Int)=r by omega] at this
 exact ⟨_,this,List.getElem_mem hr⟩
structure Bk (T st bk:Addr) (vc:V) (dc:List PyData) (ap:Addr) (xp:List V) (ps:List (List Int)) (as_:Addr) (xs:List V) (ss:List (List Int)) (H0 H:Hp):Prop where
 kp:∀ b o,b≠T→b≠st→H0 b=some o→H b=some o
 sa:fP H st
 tb:TabOk H T qnT
 eb:H bk=some (.tup [vc,.ref ap,.ref as_])
 tc:IsTh (fun a=>¬ Fs st a) H vc (.tuple dc)
 rp:RowsAt H ap xp ps
 rs:RowsAt H as_ xs ss
section
variable {T st bk:Addr} {vc:V} {dc:List PyData} {ap:Addr} {xp:List V} {ps:List (List Int)} {as_:Addr} {xs:List V} {ss:List (List Int)} {H0 H H':Hp}
theorem Bk.dr (a:Bk T st bk vc dc ap xp ps as_ xs ss H0 H) (g:Dr st H H'):Bk T st bk vc dc ap xp ps as_ xs ss H0 H':=by
 refine ⟨fun b o n1 n2 e=>g.bt _ _ (a.kp b o n1 n2 e) n2,g.sa,zH a.tb a.sa g,g.bt _ _ a.eb fun z=>?_,g.th a.sa (.inl rfl) a.tc,g.rows a.sa a.rp,g.rows a.sa a.rs⟩
 obtain ⟨x,y,e,_⟩:=a.sa
 have:=a.eb
 rw [z,e] at this
 cases this
theorem Bk.same (a:Bk T st bk vc dc ap xp ps as_ xs ss H0 H) (s:Same H H'):Bk T st bk vc dc ap xp ps as_ xs ss H0 H':=a.dr (Dr.same ⟨But.refl,a.sa⟩ s)
theorem Bk.right (a:Bk T st bk vc dc ap xp ps as_ xs ss H0 H) (k:∀ b o,b≠T→H b=some o→H' b=some o) (t:TabOk H' T qnT):Bk T st bk vc dc ap xp ps as_ xs ss H0 H':=by
 obtain ⟨qs,e',_⟩:=id a.tb
 have nT:∀ b l,H b=some (.tup l)→b≠T:=fun b l e z=>by
  rw [z,e'] at e
  cases e
 refine ⟨fun b o n1 n2 e=>k b o n1 (a.kp b o n1 n2 e),?_,t,k _ _ (nT _ _ a.eb) a.eb,a.tc.tbl a.tb k,a.rp.keep fun b l e=>k _ _ (nT _ _ e) e,a.rs.keep fun b l e=>k _ _ (nT _ _ e) e⟩
 obtain ⟨x,y,e,r⟩:=a.sa
 exact ⟨x,y,k _ _ (fun z=>by rw [z,e'] at e; cases e) e,r⟩
theorem Bk.th (a:Bk T st bk vc dc ap xp ps as_ xs ss H0 H):IsTh (fun a=>¬ Fs st a) H (.ref bk) (.tuple [.tuple dc,cI ps,cI ss]):=.tup a.eb (.cons a.tc (.cons a.rp.thF (.cons a.rs.thF .nil)))
end
section
variable {P:Program} {w:World} {K:PySem.W.Frag} {mg:Str→Option Value} {base:Heap}
theorem scLw:FnScope ["_law_script","_law_k","_law_state_here","_law_book_here","_law_number","_law_year","_law_turn","_law_thing"] ["_law_script"] (aD (top 74)):=⟨rfl,rfl,rfl,by decide +kernel,rfl,by decide +kernel,by decide +kernel⟩
theorem DG {f T0:Addr} {fd:FuncData} (F:Fun K "law" "law" (top 74) f fd) (T:Mg mg) (Tr:mg "range" = none) (Tm:mg "max" = none) (Tn:mg "min" = none)
  (c1:Cal P w K mg base 2 "_law_state" ["_law_script","_law_k"] (uR K)) (c2:Cal P w K mg base 4 "_law_book" ["_law_state_here","_law_years","_law_most","_law_sales_here"] yZ) (c3:Cal P w K mg base 1 "_law_take" ["_law_state_here","_law_many"] ik)
  (c4:Cal P w K mg base 7 "_law_spoilt" ["_law_state_here","_law_thing","_law_deep"] (jn (4:Nat))) (c5:Cal P w K mg base 2 "_law_odd" ["_law_state_here"] yD) (c6:Cal P w K mg base 62 "_law_right" ["_law_book_here","_law_number","_law_year"] (vB T0 qnT)) :
  FnOk P w K mg base CX0 63 f fd ["_law_script"] (vD K T0):=by
 refine F.ok scLw (fun vs H Q E h=>?_) (fun cdv A outer s H vs Q E hr h=>?_)
 ·obtain ⟨a,ns,rfl,_⟩:=h
  rfl
 ·obtain ⟨a,ns,rfl,hS,hl,tab,q⟩:=h
  refine EY (bI ⟨dF PassesOwn.never rfl (dg rfl Tr (aq (aJ (nY rfl) rfl Tm oX (aq ao (aq (aJ (jA rfl) rfl Tn boot_min (aq (aJ aQ rfl T.len PySem.boot_len (aq (pv 0) aj)) (aq ao aj))) aj))) aj)) (aC (i:=1) scLw.nd rfl (Or.inl rfl))
    (oH (bI (dM (i:=2) scLw.nd rfl (Or.inl rfl) ⟨aH c1 hr (by omega) rfl (aq (pv 0) (aq (pv 1) aj))⟩)
    (bI (dM (i:=3) scLw.nd rfl (Or.inl rfl) ⟨aH c2 hr (by omega) rfl (aq (pv 2) (aq ao (aq ao (aq ao aj))))⟩)
    (bI ⟨dF PassesOwn.never rfl (dg rfl Tr (aq (aJ aQ rfl T.len PySem.boot_len (aq (bh bx (pv 3) ao (fun _ _=>rfl)) aj)) aj)) (aC (i:=4) scLw.nd rfl (Or.inl rfl))
      (oH (dJ ⟨dF PassesOwn.never rfl (uv (xU (dI (aR (gO bx (gO bx (gO bx ⟨pv 3⟩ cV (fun _ _=>rfl)) ⟨pv 4⟩ (fun _ _=>rfl)) cV (fun _ _=>rfl)) (aR (gO bx (gO bx (gO bx ⟨pv 3⟩ cV (fun _ _=>rfl)) ⟨pv 4⟩ (fun _ _=>rfl)) cV (fun _ _=>rfl)) (aR ⟨aH c3 hr (by omega) rfl (aq (pv 2) (aq ao aj))⟩ bC)))))) (aC (i:=5) scLw.nd rfl (Or.inl rfl))
       (oH (dJ (yI (ue (qj ⟨aH c6 hr (by omega) rfl (aq (pv 3) (aq (pv 4) (aq (pv 5) aj)))⟩)) (dJ (jL lR)) ql)))⟩))⟩
    (dJ ⟨dF PassesOwn.never rfl (dg rfl Tr (aq ao aj)) (aC (i:=6) scLw.nd rfl (Or.inl rfl))
      (oH (bI (dM (i:=7) scLw.nd rfl (Or.inl rfl) (gO bz (dI (aR ⟨pv 3⟩ (aR ⟨pv 3⟩ (aR ⟨aH c4 hr (by omega) rfl (aq (pv 2) (aq (pv 3) (aq ao aj)))⟩ (aR ⟨aH c5 hr (by omega) rfl (aq (pv 2) aj)⟩ bC))))) ⟨aH c3 hr (by omega) rfl (aq (pv 2) (aq ao aj))⟩ (fun _ _=>rfl)))
      (bI (dM (i:=4) scLw.nd rfl (Or.inl rfl) (gO bz (dI (aR ⟨aJ aQ rfl T.len PySem.boot_len (aq (bh bx (pv 3) ao (fun _ _=>rfl)) aj)⟩ (aR u6 (aR pX (aR lR (aR bY (aR cV bC))))))) ⟨aH c3 hr (by omega) rfl (aq (pv 2) (aq ao aj))⟩ (fun _ _=>rfl)))
      (bI (dM (i:=5) scLw.nd rfl (Or.inl rfl) (gO bz (dI (aR cV (aR u6 (aR pX (aR lR (aR xV (aR cV (aR cV bC)))))))) ⟨aH c3 hr (by omega) rfl (aq (pv 2) (aq ao aj))⟩ (fun _ _=>rfl)))
      (dJ (yI (ue (qj ⟨aH c6 hr (by omega) rfl (aq (pv 7) (aq (pv 4) (aq (pv 5) aj)))⟩)) (dJ (jL lR)) ql))))))⟩)))))⟩
   (dJ (jL lR))) ?_
  refine aK ?_
  have hl':(ns.map V.int).length≤63:=by rw [List.length_map]; exact hl
  refine ⟨_,rfl,a,_,rfl,.inl hS,_,_,rfl,_,_,rfl,_,rfl,?_,?_,?_⟩
  ·split <;> split <;> omega
  ·split <;> split <;> omega
  refine cQ (lo:=0) (fun i σ Hc=>∃ x1 x2 x3 x4 x5 x6 x7,σ=[some (.ref a),x1,x2,x3,x4,x5,x6,x7]∧(∀ b o,b≠T0→H b=some o→Hc b=some o)∧TabOk Hc T0 qnT) ?_ ?_ ?_
  ·exact ⟨none,none,none,none,none,none,none,rfl,fun _ _ _ e=>e,tab⟩
  ·rintro i σ H1 hi ⟨x1,x2,x3,x4,x5,x6,x7,rfl,k1,tab1⟩
   have hS1:SqL K H1 a (ns.map V.int):=by
    obtain ⟨ps,eT,_⟩:=tab
    rcases hS with (h | ⟨o,h⟩) | h
    ·exact .inl (.inl (k1 _ _ (fun z=>by rw [z,eT] at h; cases h) h))
    ·exact .inl (.inr ⟨o,k1 _ _ (fun z=>by rw [z,eT] at h; cases h) h⟩)
    ·exact .inr h
   refine aP ?_
   refine aK ?_
   refine aZ ?_
   refine ⟨_,rfl,_,rfl,a,ns,_,rfl,hS1,by omega,fun st x y hn hx0 hy0 hy1=>?_⟩
   have nT:st≠T0:=fun z=>by
    obtain ⟨ps,eT,_⟩:=tab1
    rw [z,eT] at hn
    cases hn
   have nst:H st=none:=by
    cases e:H st with
    | none=>rfl
    | some o =>
     rw [k1 st o nT e] at hn
     cases hn
   have g1:fP (upd H1 st (.lst [.int x,.int y])) st:=⟨x,y,ak,hx0,hy0,hy1⟩
   have kp2:∀ b o,b≠T0→b≠st→H b=some o→upd H1 st (.lst [.int x,.int y]) b=some o:=fun b o n1 n2 e=>by
    rw [az n2]
    exact k1 b o n1 e
   have tab2:=TabOk.same tab1 (Same.upd (o:=.lst [.int x,.int y]) hn)
   refine aP ?_
   dsimp only
   generalize upd H1 st (.lst [.int x,.int y])=H2 at g1 kp2 tab2 ⊢
   refine aK ?_
   refine aZ ?_
   refine ⟨_,rfl,Fs st,st,4,10,12,rfl,g1,zJ g1,by decide,by decide,by decide,by decide,by decide,by decide,fun bk vc dc ap xp ps as_ xs ss H3 d3 eb tc mc zc rp lp okp rs ls oks=>?_⟩
   have B3:Bk T0 st bk vc dc ap xp ps as_ xs ss H H3:=⟨fun b o n1 n2 e=>d3.bt _ _ (kp2 b o n1 n2 e) n2,d3.sa,zH tab2 g1 d3,eb,tc,rp,rs⟩
   have mb:tm (2 ^ 100) (.tuple [.tuple dc,cI ps,cI ss])=true:=by
    show (tm (2 ^ 100) (.tuple dc) && (tm (2 ^ 100) (cI ps) && (tm (2 ^ 100) (cI ss) && true)))=true
    rw [show tm (2 ^ 100) (.tuple dc)=true from mc,show tm (2 ^ 100) (cI ps)=true from vG fun r hr=>Dz (okp r hr),show tm (2 ^ 100) (cI ss)=true from vG fun r hr=>(oks r hr).2]
    rfl
   have zb:sz (.tuple [.tuple dc,cI ps,cI ss])≤233:=by
    have zp:szs (ps.map d7)=7 * ps.length:=qC (k:=6) fun r hr=>(okp r hr).1
    have zs:szs (ss.map d7)=6 * ss.length:=qC (k:=5) fun r hr=>(oks r hr).1
    show 1+((1+szs dc)+((1+szs (ps.map d7))+((1+szs (ss.map d7))+0)))≤233
    omega
   have tb:=qg mb (by decide)
   clear d3 eb tc mc zc rp rs g1 kp2 tab2
   refine aP ?_
   dsimp only
   refine aK ?_
   refine ⟨_,rfl,bk,_,1,.ref ap,rfl,rfl,SqT.of B3.eb,rfl,ap,_,rfl,.inr (SqT.of B3.rp.e),_,rfl,?_,?_,?_⟩
   ·omega
   ·have:=B3.rp.l
    omega
   have lxp:=B3.rp.l
   refine cQ (lo:=0) (fun j σ Hc=>∃ x4 x5,σ=[some (.ref a),some (.int (0+i)),some (.ref st),some (.ref bk),x4,x5,x6,x7]∧Bk T0 st bk vc dc ap xp ps as_ xs ss H Hc) ?_ ?_ ?_
   ·exact ⟨_,_,rfl,B3⟩
   ·clear B3
    rintro j σ Hc hj ⟨x4,x5,rfl,B⟩
    refine aP ?_
    have hj':(0:Int)+j < ps.length:=by omega
    obtain ⟨p,hp,ep,op⟩:=fu (n:=0+(j:Int)) okp (by omega) hj'
    obtain ⟨tp,hat,etp⟩:=iI B.rp (n:=0+(j:Int)) (by omega) hp
    rw [fj op.1] at etp
    obtain ⟨_,_,_,⟨g1,g2,g3⟩,_⟩:=id op
    refine ⟨_,rfl,bk,_,1,.ref ap,rfl,rfl,SqT.of B.eb,rfl,_,rfl,ap,xp,_,.ref tp,rfl,rfl,SqT.of B.rp.e,hat,tp,_,2,.int (fl p 2),rfl,rfl,SqT.of etp,rfl,_,rfl,bk,_,1,.ref ap,rfl,rfl,SqT.of B.eb,rfl,_,rfl,ap,xp,_,.ref tp,rfl,rfl,SqT.of B.rp.e,hat,tp,_,3,.int (fl p 3),rfl,rfl,SqT.of etp,rfl,_,rfl,st,20,rfl,B.sa,by decide,by decide,fun r a' b' r0 r1 h1 h2 h3=>⟨(by show 3≤sizeLine; decide),fun L hL=>⟨L,rfl,⟨_,SqL.of ak⟩,?_⟩⟩⟩
    have BL:=(B.dr (Dr.take ⟨But.refl,B.sa⟩ h1 h2 h3)).same (Same.upd (o:=.lst [.int (fl p 2),.int (fl p 3),.int r]) hL)
    have eL:=ak (H:=upd Hc st (.lst [.int a',.int b'])) (a:=L) (o:=.lst [.int (fl p 2),.int (fl p 3),.int r])
    generalize upd (upd Hc st (.lst [.int a',.int b'])) L (.lst [.int (fl p 2),.int (fl p 3),.int r])=HL at BL eL ⊢
    clear B etp hL
    have nLT:L≠T0:=fun z=>by
     obtain ⟨qs,eT,_⟩:=BL.tb
     rw [z,eT] at eL
     cases eL
    refine xf (xs:=[.int (fl p 2),.int (fl p 3),.int r]) (fun k σ Hk=>∃ x5,σ=[some (.ref a),some (.int (0+i)),some (.ref st),some (.ref bk),some (.int (0+j)),x5,x6,x7]∧(∀ b o,b≠T0→HL b=some o→Hk b=some o)∧TabOk Hk T0 qnT) ?_ ?_ ?_ ?_
    ·exact ⟨_,rfl,fun _ _ _ e=>e,BL.tb⟩
    ·rintro k σ Hk hk ⟨x5,rfl,kc,tc⟩
     exact SqL.of (kc _ _ nLT eL)
    ·rintro k u σ Hk hu ⟨x5,rfl,kc,tc⟩
     have su:Sc u:=by
      have hu:=List.mem_of_getElem? hu
      simp only [List.mem_cons,List.not_mem_nil,or_false] at hu
      rcases hu with rfl | rfl | rfl
      ·exact Sc.int (by omega)
      ·exact Sc.int (by omega)
      ·exact Sc.int (by omega)
     obtain ⟨du,tu,mu,zu⟩:=su
     refine aP ?_
     refine ⟨_,rfl,_,rfl,_,rfl,fun a=>¬ Fs st a,.ref bk,(.tuple [.tuple dc,cI ps,cI ss]),.int (0+(j:Int)),.int (0+(j:Int)),u,du,rfl,fun z=>z (.inr rfl),BL.th.tbl BL.tb kc,.int _,tu _ _,?_,?_,tc,fun H' k' t'=>⟨true,rfl,?_⟩⟩
     ·show (tame (.tuple [.tuple dc,cI ps,cI ss]) && (decide ((0+(j:Int)).natAbs < 2 ^ 128) && (tame du && true)))=true
      rw [tb,mu,decide_eq_true (by omega)]
      rfl
     ·show 1+(sz (.tuple [.tuple dc,cI ps,cI ss])+(1+(sz du+0)))≤1000
      omega
     ·refine bf ?_
      exact ⟨_,rfl,fun b o n e=>k' b o n (kc b o n e),t'⟩
    ·rintro σ Hk ⟨x5,rfl,kc,tc⟩
     exact ⟨_,_,rfl,BL.right kc tc⟩
   ·clear B3
    rintro σ Hc ⟨x4,x5,rfl,B⟩
    dsimp only
    refine ⟨5,rfl,by decide,by decide,?_⟩
    refine cQ (lo:=0) (fun j σ Hc=>∃ x4 x5 x6 x7,σ=[some (.ref a),some (.int (0+i)),some (.ref st),some (.ref bk),x4,x5,x6,x7]∧Bk T0 st bk vc dc ap xp ps as_ xs ss H Hc) ?_ ?_ ?_
    ·exact ⟨_,_,_,_,rfl,B⟩
    ·clear B
     rintro j σ Hc hj ⟨x4,x5,x6,x7,rfl,B⟩
     refine aP ?_
     refine aK ?_
     refine aZ ?_
     refine ⟨_,rfl,_,rfl,_,rfl,_,rfl,Fs st,st,.ref bk,(.tuple [.tuple dc,cI ps,cI ss]),3,2 ^ 100,rfl,B.sa,zJ B.sa,by decide,by decide,B.th,mb,Nat.le_refl _,by omega,fun v8 H8 d8 g8 t8 m8 z8=>⟨_,rfl,st,rfl,g8.sa,fun vo Ho mo=>⟨(by show 4≤sizeLine; decide),fun L hL=>?_⟩⟩⟩
     have B8:=B.dr g8
     obtain ⟨dO,go,tO,mO,zO⟩:=mo.dr (zJ B8.sa)
     have t8o:=go.th B8.sa (.inl rfl) t8
     have Bo:=B8.dr go
     have sL:=Same.upd (o:=.lst [.ref bk,.ref bk,v8,vo]) hL
     have BL:=Bo.same sL
     have nLs:L≠st:=go.ne hL
     refine ⟨_,rfl,st,4,rfl,BL.sa,by decide,by decide,fun r a' b' r0 r1 h1 h2 h3=>?_⟩
     obtain ⟨u,hu,mu⟩:=uq (xs:=[.ref bk,.ref bk,v8,vo]) r0 r1
     refine ⟨L,_,r,u,rfl,rfl,SqL.of (by rw [az nLs]; exact ak),hu,?_⟩
     have gT:Dr st (upd Ho L (.lst [.ref bk,.ref bk,v8,vo])) (upd (upd Ho L (.lst [.ref bk,.ref bk,v8,vo])) st (.lst [.int a',.int b'])):=Dr.take ⟨But.refl,BL.sa⟩ h1 h2 h3
     have au:∃ du,IsTh (fun a=>¬ Fs st a) (upd (upd Ho L (.lst [.ref bk,.ref bk,v8,vo])) st (.lst [.int a',.int b'])) u du∧tame du=true∧sz du≤500:=by
      simp only [List.mem_cons,List.not_mem_nil,or_false] at mu
      rcases mu with rfl | rfl | rfl | rfl
      ·exact ⟨_,(BL.dr gT).th,tb,by omega⟩
      ·exact ⟨_,(BL.dr gT).th,tb,by omega⟩
      ·exact ⟨_,gT.th BL.sa (.inl rfl) (t8o.same sL),qg m8 (by decide),by omega⟩
      ·exact ⟨_,gT.th BL.sa (.inl rfl) (tO.same sL),qg mO (by decide),by omega⟩
     obtain ⟨du,tu,mu,zu⟩:=au
     refine aP ?_
     dsimp only
     refine cW (fun Hx=>Bk T0 st bk vc dc ap xp ps as_ xs ss H Hx∧IsTh (fun a=>¬ Fs st a) Hx u du) ⟨BL.dr gT,tu⟩ fun Hx ⟨Bx,tu⟩=>?_
     clear B B8 Bo BL tO t8 t8o g8 go gT hL sL hu mo
     refine aK ?_
     refine aZ ?_
     refine ⟨_,rfl,bk,_,1,.ref ap,rfl,rfl,SqT.of Bx.eb,rfl,ap,_,rfl,.inr (SqT.of Bx.rp.e),1,rfl,(by show 6≤sizeLine; decide),fun L hL=>?_⟩
     have sL:=Same.upd (o:=.lst [.int xp.length,.int (-1),.non,.bl true,.str "0",.int 0]) hL
     have BL:=Bx.same sL
     have nLs:L≠st:=Dr.ne ⟨But.refl,Bx.sa⟩ hL
     refine ⟨_,rfl,st,6,rfl,BL.sa,by decide,by decide,fun r a' b' r0 r1 h1 h2 h3=>?_⟩
     obtain ⟨un,hun,mun⟩:=uq (xs:=[.int xp.length,.int (-1),.non,.bl true,.str "0",.int 0]) r0 r1
     refine ⟨L,_,r,un,rfl,rfl,SqL.of (by rw [az nLs]; exact ak),hun,?_⟩
     have gT:=Dr.take ⟨But.refl,BL.sa⟩ h1 h2 h3
     have tuT:=gT.th BL.sa (.inl rfl) (tu.same sL)
     have su:Sc un:=by
      simp only [List.mem_cons,List.not_mem_nil,or_false] at mun
      rcases mun with rfl | rfl | rfl | rfl | rfl | rfl
      ·exact Sc.int (by omega)
      ·exact Sc.int (by decide)
      ·exact Sc.non
      ·exact Sc.bl true
      ·exact Sc.nil
      ·exact Sc.int (by decide)
     refine aP ?_
     dsimp only
     refine cW (fun Hx=>Bk T0 st bk vc dc ap xp ps as_ xs ss H Hx∧IsTh (fun a=>¬ Fs st a) Hx u du) ⟨BL.dr gT,tuT⟩ fun Hy ⟨By,tu⟩=>?_
     clear Bx BL tuT gT hL sL hun nLs
     refine aK ?_
     refine aZ ?_
     refine ⟨1,rfl,_,_,rfl,rfl,⟨by decide,by decide,by decide⟩,(by show 7≤sizeLine; decide),fun L hL=>?_⟩
     have sL:=Same.upd (o:=.lst [.int 20,.int (-1),.non,.bl false,.int (10 ^ (29:Int).toNat),.int 19,.int 3]) hL
     have BL:=By.same sL
     have nLs:L≠st:=Dr.ne ⟨But.refl,By.sa⟩ hL
     refine ⟨_,rfl,st,7,rfl,BL.sa,by decide,by decide,fun r a' b' r0 r1 h1 h2 h3=>?_⟩
     obtain ⟨uy,huy,muy⟩:=uq (xs:=[.int 20,.int (-1),.non,.bl false,.int (10 ^ (29:Int).toNat),.int 19,.int 3]) r0 r1
     refine ⟨L,_,r,uy,rfl,rfl,SqL.of (by rw [az nLs]; exact ak),huy,?_⟩
     have gT:=Dr.take ⟨But.refl,BL.sa⟩ h1 h2 h3
     have tuT:=gT.th BL.sa (.inl rfl) (tu.same sL)
     have sy:Sc uy:=by
      simp only [List.mem_cons,List.not_mem_nil,or_false] at muy
      rcases muy with rfl | rfl | rfl | rfl | rfl | rfl | rfl
      ·exact Sc.int (by decide)
      ·exact Sc.int (by decide)
      ·exact Sc.non
      ·exact Sc.bl false
      ·exact Sc.int (by decide)
      ·exact Sc.int (by decide)
      ·exact Sc.int (by decide)
     refine aP ?_
     dsimp only
     refine cW (fun Hx=>Bk T0 st bk vc dc ap xp ps as_ xs ss H Hx∧IsTh (fun a=>¬ Fs st a) Hx u du) ⟨BL.dr gT,tuT⟩ fun Hz ⟨Bz,tu⟩=>?_
     clear By BL tuT gT hL sL huy nLs
     obtain ⟨dn,tn,mn,zn⟩:=su
     obtain ⟨dy,ty,my,zy⟩:=sy
     refine ⟨_,rfl,_,rfl,_,rfl,fun a=>¬ Fs st a,u,du,un,dn,uy,dy,rfl,fun z=>z (.inr rfl),tu,tn _ _,ty _ _,?_,?_,Bz.tb,fun H' k' t'=>⟨true,rfl,?_⟩⟩
     ·show (tame du && (tame dn && (tame dy && true)))=true
      rw [mu,mn,my]
      rfl
     ·show 1+(sz du+(sz dn+(sz dy+0)))≤1000
      omega
     ·refine bf ?_
      exact ⟨_,_,_,_,rfl,Bz.right k' t'⟩
    ·rintro σ Hc ⟨x4,x5,x6,x7,rfl,B⟩
     exact ⟨_,_,_,_,_,_,_,rfl,fun b o n e=>B.kp b o n (aG e nst) e,B.tb⟩
  ·rintro σ Hc ⟨x1,x2,x3,x4,x5,x6,x7,rfl,k1,tab1⟩
   exact q _
end
end K04

set_option Elab.async false
set_option linter.all false
theorem PySem.W.Fast.tw16437744247741568000:True:=⟨⟩
theorem PySem.W.Fast.tw12607144366996894752:True:=⟨⟩
theorem PySem.W.Fast.tw14402093242212758656:True:=⟨⟩
theorem PySem.W.Fast.tw1860944706816813248:True:=⟨⟩
theorem PySem.W.Fast.tw9371854096445910240:True:=⟨⟩
theorem PySem.W.Fast.tw6964427096945026304:True:=⟨⟩
theorem PySem.W.Fast.tw16882723271035824384:True:=⟨⟩
theorem PySem.W.Fast.tw4665323573517446496:True:=⟨⟩
theorem PySem.W.Fast.tw10421116908030874048:True:=⟨⟩
theorem PySem.W.Fast.tw7567570489626666624:True:=⟨⟩
theorem PySem.W.Fast.tw3358529229169868512:True:=⟨⟩
theorem PySem.W.Fast.tw14567320859797885760:True:=⟨⟩
theorem PySem.W.Fast.tw16561801786096458560:True:=⟨⟩
theorem PySem.W.Fast.tw13112980436680789920:True:=⟨⟩
theorem PySem.W.Fast.tw16503432237453808576:True:=⟨⟩
theorem PySem.W.Fast.tw5342947398277493728:True:=⟨⟩
theorem PySem.W.Fast.tw17499642526463552480:True:=⟨⟩
theorem PySem.W.Fast.tw13805946125692911681:True:=⟨⟩
theorem PySem.W.Fast.tw18205055045999974497:True:=⟨⟩
theorem PySem.W.Fast.tw16073407510402620545:True:=⟨⟩
theorem PySem.W.Fast.tw1726837665337421953:True:=⟨⟩
theorem PySem.W.Fast.tw14670589273301000385:True:=⟨⟩
theorem PySem.W.Fast.tw7486726364674464033:True:=⟨⟩
theorem PySem.W.Fast.tw651456606574486977:True:=⟨⟩
theorem PySem.W.Fast.tw13361915612123885057:True:=⟨⟩
theorem PySem.W.Fast.tw14649348722080011937:True:=⟨⟩
theorem PySem.W.Fast.tw15107323259811595937:True:=⟨⟩
theorem PySem.W.Fast.tw5267567969807728321:True:=⟨⟩
theorem PySem.W.Fast.tw15480292161645220545:True:=⟨⟩
theorem PySem.W.Fast.tw3200480068858156801:True:=⟨⟩
theorem PySem.W.Fast.tw10996528176543876897:True:=⟨⟩
theorem PySem.W.Fast.tw14327179528647438145:True:=⟨⟩
theorem PySem.W.Fast.tw1369545400837889921:True:=⟨⟩
theorem PySem.W.Fast.tw7733471581980954529:True:=⟨⟩
theorem PySem.W.Fast.tw11159992754982494210:True:=⟨⟩
theorem PySem.W.Fast.tw14231828363660697666:True:=⟨⟩
theorem PySem.W.Fast.tw15996766361953264738:True:=⟨⟩
theorem PySem.W.Fast.tw10328264187514442050:True:=⟨⟩
theorem PySem.W.Fast.tw6965228231812892994:True:=⟨⟩
theorem PySem.W.Fast.tw14862559265640912290:True:=⟨⟩
theorem PySem.W.Fast.tw10022556472247971266:True:=⟨⟩
theorem PySem.W.Fast.tw2697953989937784258:True:=⟨⟩
theorem PySem.W.Fast.tw15597184641571599906:True:=⟨⟩
theorem PySem.W.Fast.tw1068938334019577378:True:=⟨⟩
theorem PySem.W.Fast.tw15608978532619267778:True:=⟨⟩
theorem PySem.W.Fast.tw14414426199578197794:True:=⟨⟩
theorem PySem.W.Fast.tw6290600906924478274:True:=⟨⟩
theorem PySem.W.Fast.tw12858228750514060130:True:=⟨⟩
theorem PySem.W.Fast.tw7451560280331027394:True:=⟨⟩
theorem PySem.W.Fast.tw3011855730327236546:True:=⟨⟩
theorem PySem.W.Fast.tw8848789393287197666:True:=⟨⟩
theorem PySem.W.Fast.tw5911423703021344738:True:=⟨⟩
theorem PySem.W.Fast.tw1709489473115022435:True:=⟨⟩
theorem PySem.W.Fast.tw1695238865788350595:True:=⟨⟩
theorem PySem.W.Fast.tw5273730862340524195:True:=⟨⟩
theorem PySem.W.Fast.tw9383138619806469443:True:=⟨⟩
theorem PySem.W.Fast.tw7061738860278066595:True:=⟨⟩
theorem PySem.W.Fast.tw17621064291364421027:True:=⟨⟩
theorem PySem.W.Fast.tw17053006055738683875:True:=⟨⟩
theorem PySem.W.Fast.tw8136660466887135875:True:=⟨⟩
theorem PySem.W.Fast.tw3656826851773650595:True:=⟨⟩
theorem PySem.W.Fast.tw9337247843316307683:True:=⟨⟩
theorem PySem.W.Fast.tw15176656025068181379:True:=⟨⟩
theorem PySem.W.Fast.tw9396671996721284995:True:=⟨⟩
theorem PySem.W.Fast.tw16189103057618903971:True:=⟨⟩
theorem PySem.W.Fast.tw13640857976682102820:True:=⟨⟩
theorem PySem.W.Fast.tw1519526862264978468:True:=⟨⟩
theorem PySem.W.Fast.tw6162834230845787204:True:=⟨⟩
theorem PySem.W.Fast.tw18182015520390032548:True:=⟨⟩
theorem PySem.W.Fast.tw17384873560164743332:True:=⟨⟩
theorem PySem.W.Fast.tw4674809825407226116:True:=⟨⟩
theorem PySem.W.Fast.tw187314877810429252:True:=⟨⟩
theorem PySem.W.Fast.tw9471618491097398596:True:=⟨⟩
theorem PySem.W.Fast.tw5263174884067580260:True:=⟨⟩
theorem PySem.W.Fast.tw13371850920088580516:True:=⟨⟩
theorem PySem.W.Fast.tw16811554316852615652:True:=⟨⟩
theorem PySem.W.Fast.tw11107706708243074596:True:=⟨⟩
theorem PySem.W.Fast.tw18133476047251045988:True:=⟨⟩
theorem PySem.W.Fast.tw7802450658917087972:True:=⟨⟩
theorem PySem.W.Fast.tw16871551710285563780:True:=⟨⟩
theorem PySem.W.Fast.tw11626786641159267365:True:=⟨⟩
theorem PySem.W.Fast.tw8095654667918656613:True:=⟨⟩
theorem PySem.W.Fast.tw12546177274730204357:True:=⟨⟩
theorem PySem.W.Fast.tw7080620411617481957:True:=⟨⟩
theorem PySem.W.Fast.tw8646626852838876517:True:=⟨⟩
theorem PySem.W.Fast.tw5657272698571344229:True:=⟨⟩
theorem PySem.W.Fast.tw1298569220370176453:True:=⟨⟩
theorem PySem.W.Fast.tw10395326651942325797:True:=⟨⟩
theorem PySem.W.Fast.tw14388612178893420133:True:=⟨⟩
theorem PySem.W.Fast.tw6562431936093209189:True:=⟨⟩
theorem PySem.W.Fast.tw6437452622102490853:True:=⟨⟩
theorem PySem.W.Fast.tw10141922533539136293:True:=⟨⟩
theorem PySem.W.Fast.tw7563327579838381158:True:=⟨⟩
theorem PySem.W.Fast.tw5911369411193081030:True:=⟨⟩
theorem PySem.W.Fast.tw10593790617407466726:True:=⟨⟩
theorem PySem.W.Fast.tw3024970993109960006:True:=⟨⟩
theorem PySem.W.Fast.tw10232898111344518470:True:=⟨⟩
theorem PySem.W.Fast.tw13696380938844487014:True:=⟨⟩
theorem PySem.W.Fast.tw16881482880755964294:True:=⟨⟩
theorem PySem.W.Fast.tw5939356669254517190:True:=⟨⟩
theorem PySem.W.Fast.tw6750404838379400774:True:=⟨⟩
theorem PySem.W.Fast.tw17302082072680419014:True:=⟨⟩
theorem PySem.W.Fast.tw3460365838870973158:True:=⟨⟩
theorem PySem.W.Fast.tw17393190594342605574:True:=⟨⟩
theorem PySem.W.Fast.tw18206146095000753990:True:=⟨⟩
theorem PySem.W.Fast.tw13304682391659900742:True:=⟨⟩
theorem PySem.W.Fast.tw11133106352144717734:True:=⟨⟩
theorem PySem.W.Fast.tw9721998954533702598:True:=⟨⟩
theorem PySem.W.Fast.tw7386009636240348167:True:=⟨⟩
theorem PySem.W.Fast.tw10552012130094956583:True:=⟨⟩
theorem PySem.W.Fast.tw11194697706448977991:True:=⟨⟩
theorem PySem.W.Fast.tw12425275465920396423:True:=⟨⟩
theorem PySem.W.Fast.tw3097255449651539111:True:=⟨⟩
theorem PySem.W.Fast.tw4017817694948464871:True:=⟨⟩
theorem PySem.W.Fast.tw892745162066071015:True:=⟨⟩
theorem PySem.W.Fast.tw14022951697319246343:True:=⟨⟩
theorem PySem.W.Fast.tw6164140519668370951:True:=⟨⟩
theorem PySem.W.Fast.tw5473342189096528423:True:=⟨⟩
theorem PySem.W.Fast.tw18073910131981378151:True:=⟨⟩
theorem PySem.W.Fast.tw12007689016505071303:True:=⟨⟩
theorem PySem.W.Fast.tw4209408843887862503:True:=⟨⟩
theorem PySem.W.Fast.tw17653638572728139816:True:=⟨⟩
theorem PySem.W.Fast.tw15589074335702651048:True:=⟨⟩
theorem PySem.W.Fast.tw1225001233346694344:True:=⟨⟩
theorem PySem.W.Fast.tw6868056967843015912:True:=⟨⟩
theorem PySem.W.Fast.tw1639800691421655400:True:=⟨⟩
theorem PySem.W.Fast.tw6796593167823395208:True:=⟨⟩
theorem PySem.W.Fast.tw1928109011628907048:True:=⟨⟩
theorem PySem.W.Fast.tw10200937067271585384:True:=⟨⟩
theorem PySem.W.Fast.tw7234591877914471208:True:=⟨⟩
theorem PySem.W.Fast.tw11752306289452560393:True:=⟨⟩
theorem PySem.W.Fast.tw16044151076232914057:True:=⟨⟩
theorem PySem.W.Fast.tw12385739991824839913:True:=⟨⟩
theorem PySem.W.Fast.tw16111677317791143305:True:=⟨⟩
theorem PySem.W.Fast.tw9272289536479767113:True:=⟨⟩
theorem PySem.W.Fast.tw7225978098809809513:True:=⟨⟩
theorem PySem.W.Fast.tw11510887764724448937:True:=⟨⟩
theorem PySem.W.Fast.tw13191602734540962569:True:=⟨⟩
theorem PySem.W.Fast.tw12556766818631593769:True:=⟨⟩
theorem PySem.W.Fast.tw2682798542225214281:True:=⟨⟩
theorem PySem.W.Fast.tw14264949872832130889:True:=⟨⟩
theorem PySem.W.Fast.tw6450446601701090153:True:=⟨⟩
theorem PySem.W.Fast.tw4567319971209835433:True:=⟨⟩
theorem PySem.W.Fast.tw3962821957964904458:True:=⟨⟩
theorem PySem.W.Fast.tw13437196535975757834:True:=⟨⟩
theorem PySem.W.Fast.tw6607481439987696682:True:=⟨⟩
theorem PySem.W.Fast.tw11670306987169489034:True:=⟨⟩
theorem PySem.W.Fast.tw6635258301021012170:True:=⟨⟩
theorem PySem.W.Fast.tw7649349610208238858:True:=⟨⟩
theorem PySem.W.Fast.tw5950249389444842762:True:=⟨⟩
theorem PySem.W.Fast.tw17263720856765024682:True:=⟨⟩
theorem PySem.W.Fast.tw11914074345889151434:True:=⟨⟩
theorem PySem.W.Fast.tw5516767060777261546:True:=⟨⟩
theorem PySem.W.Fast.tw10013333451296359946:True:=⟨⟩
theorem PySem.W.Fast.tw16626906361770055274:True:=⟨⟩
theorem PySem.W.Fast.tw11482748145535382282:True:=⟨⟩
theorem PySem.W.Fast.tw7332598909978153738:True:=⟨⟩
theorem PySem.W.Fast.tw7394281090401960746:True:=⟨⟩
theorem PySem.W.Fast.tw7913823018616807210:True:=⟨⟩
theorem PySem.W.Fast.tw8400182446761000842:True:=⟨⟩
theorem PySem.W.Fast.tw5010447310534818730:True:=⟨⟩
theorem PySem.W.Fast.tw13211120621337999371:True:=⟨⟩
theorem PySem.W.Fast.tw16765633867600862251:True:=⟨⟩
theorem PySem.W.Fast.tw15322536893121314923:True:=⟨⟩
theorem PySem.W.Fast.tw10891341809697751307:True:=⟨⟩
theorem PySem.W.Fast.tw5137119706252558603:True:=⟨⟩
theorem PySem.W.Fast.tw8271578994438602123:True:=⟨⟩
theorem PySem.W.Fast.tw12818253047995834827:True:=⟨⟩
theorem PySem.W.Fast.tw17366595927630485995:True:=⟨⟩
theorem PySem.W.Fast.tw15081827046000869867:True:=⟨⟩
theorem PySem.W.Fast.tw8088857773546135115:True:=⟨⟩
theorem PySem.W.Fast.tw7918037562961900139:True:=⟨⟩
theorem PySem.W.Fast.tw4180284941688404651:True:=⟨⟩
theorem PySem.W.Fast.tw5211169339860202187:True:=⟨⟩
theorem PySem.W.Fast.tw7486460975346703051:True:=⟨⟩
theorem PySem.W.Fast.tw2388873217414125323:True:=⟨⟩
theorem PySem.W.Fast.tw13942855124186588139:True:=⟨⟩
theorem PySem.W.Fast.tw3574244957041431596:True:=⟨⟩
theorem PySem.W.Fast.tw2510421058759247916:True:=⟨⟩
theorem PySem.W.Fast.tw9800114987681817708:True:=⟨⟩
theorem PySem.W.Fast.tw7957464764893427820:True:=⟨⟩
theorem PySem.W.Fast.tw4382599100858153228:True:=⟨⟩
theorem PySem.W.Fast.tw4572171089078446380:True:=⟨⟩
theorem PySem.W.Fast.tw17355946804478594540:True:=⟨⟩
theorem PySem.W.Fast.tw8139143502429340172:True:=⟨⟩
theorem PySem.W.Fast.tw16245238148681633324:True:=⟨⟩
theorem PySem.W.Fast.tw14563565614156030572:True:=⟨⟩
theorem PySem.W.Fast.tw10152358225616400012:True:=⟨⟩
theorem PySem.W.Fast.tw15752011263436949228:True:=⟨⟩
theorem PySem.W.Fast.tw14097071414437489484:True:=⟨⟩
theorem PySem.W.Fast.tw16709940120859051884:True:=⟨⟩
theorem PySem.W.Fast.tw11676936467636991852:True:=⟨⟩
theorem PySem.W.Fast.tw10697786230379251692:True:=⟨⟩
theorem PySem.W.Fast.tw15404922008921185293:True:=⟨⟩
theorem PySem.W.Fast.tw12751373616620748845:True:=⟨⟩
theorem PySem.W.Fast.tw7548858273624605005:True:=⟨⟩
theorem PySem.W.Fast.tw8134987477787182445:True:=⟨⟩
theorem PySem.W.Fast.tw5297397445939050893:True:=⟨⟩
theorem PySem.W.Fast.tw6294604121755881869:True:=⟨⟩
theorem PySem.W.Fast.tw8373505884200249773:True:=⟨⟩
theorem PySem.W.Fast.tw8150840984868009453:True:=⟨⟩
theorem PySem.W.Fast.tw4766857611542793741:True:=⟨⟩
theorem PySem.W.Fast.tw4052104704174145037:True:=⟨⟩
theorem PySem.W.Fast.tw7253746309817474605:True:=⟨⟩
theorem PySem.W.Fast.tw12583003637787311917:True:=⟨⟩
theorem PySem.W.Fast.tw15043428021499793229:True:=⟨⟩
theorem PySem.W.Fast.tw578363568595868493:True:=⟨⟩
theorem PySem.W.Fast.tw16459345612472403853:True:=⟨⟩
theorem PySem.W.Fast.tw2479193482676528077:True:=⟨⟩
theorem PySem.W.Fast.tw17933363886268194797:True:=⟨⟩
theorem PySem.W.Fast.tw42051468266245198:True:=⟨⟩
theorem PySem.W.Fast.tw15445725519835405454:True:=⟨⟩
theorem PySem.W.Fast.tw9424164579348538542:True:=⟨⟩
theorem PySem.W.Fast.tw931036351261016430:True:=⟨⟩
theorem PySem.W.Fast.tw10760661033511670126:True:=⟨⟩
theorem PySem.W.Fast.tw14416668914914514286:True:=⟨⟩
theorem PySem.W.Fast.tw13072993568708340206:True:=⟨⟩
theorem PySem.W.Fast.tw12990684371281533550:True:=⟨⟩
theorem PySem.W.Fast.tw10387710407733874382:True:=⟨⟩
theorem PySem.W.Fast.tw15138165407362440014:True:=⟨⟩
theorem PySem.W.Fast.tw17928555027773132654:True:=⟨⟩
theorem PySem.W.Fast.tw10301362044315680654:True:=⟨⟩
theorem PySem.W.Fast.tw618351466400902062:True:=⟨⟩
theorem PySem.W.Fast.tw2940396778373103566:True:=⟨⟩
theorem PySem.W.Fast.tw4487076625659249711:True:=⟨⟩
theorem PySem.W.Fast.tw17037119516640295055:True:=⟨⟩
theorem PySem.W.Fast.tw10585295271057265807:True:=⟨⟩
theorem PySem.W.Fast.tw9656044889116280015:True:=⟨⟩
theorem PySem.W.Fast.tw15008271999048257839:True:=⟨⟩
theorem PySem.W.Fast.tw7347817365240486383:True:=⟨⟩
theorem PySem.W.Fast.tw1499076449825503759:True:=⟨⟩
theorem PySem.W.Fast.tw9103939719158414991:True:=⟨⟩
theorem PySem.W.Fast.tw7816757438855747215:True:=⟨⟩
theorem PySem.W.Fast.tw5945093244181322575:True:=⟨⟩
theorem PySem.W.Fast.tw14816209873052772368:True:=⟨⟩
theorem PySem.W.Fast.tw3017671713369929744:True:=⟨⟩
theorem PySem.W.Fast.tw17617291091233065008:True:=⟨⟩
theorem PySem.W.Fast.tw8273893636700264496:True:=⟨⟩
theorem PySem.W.Fast.tw16036290134300288048:True:=⟨⟩
theorem PySem.W.Fast.tw497553961830801488:True:=⟨⟩
theorem PySem.W.Fast.tw8794812421063332976:True:=⟨⟩
theorem PySem.W.Fast.tw9973648320890850448:True:=⟨⟩
theorem PySem.W.Fast.tw7525064356541426928:True:=⟨⟩
theorem PySem.W.Fast.tw14071807730153446800:True:=⟨⟩
theorem PySem.W.Fast.tw6004044591058091536:True:=⟨⟩
theorem PySem.W.Fast.tw13825745899262247472:True:=⟨⟩
theorem PySem.W.Fast.tw5447084926102362704:True:=⟨⟩
theorem PySem.W.Fast.tw1670740788353212144:True:=⟨⟩
theorem PySem.W.Fast.tw17087704057488744176:True:=⟨⟩
theorem PySem.W.Fast.tw4592117239549835024:True:=⟨⟩
theorem PySem.W.Fast.tw8735346150754251568:True:=⟨⟩
theorem PySem.W.Fast.tw16511178742287688528:True:=⟨⟩
theorem PySem.W.Fast.tw16996578117465371536:True:=⟨⟩
theorem PySem.W.Fast.tw3301340083110616081:True:=⟨⟩
theorem PySem.W.Fast.tw2523290176944984081:True:=⟨⟩
theorem PySem.W.Fast.tw2064723822730165393:True:=⟨⟩
theorem PySem.W.Fast.tw10270163099069602993:True:=⟨⟩
theorem PySem.W.Fast.tw11749727246358318449:True:=⟨⟩
theorem PySem.W.Fast.tw10067806334721563025:True:=⟨⟩
theorem PySem.W.Fast.tw9548266715856752113:True:=⟨⟩
theorem PySem.W.Fast.tw3525681317555484241:True:=⟨⟩
theorem PySem.W.Fast.tw12509661570082990705:True:=⟨⟩
theorem PySem.W.Fast.tw4357046601718689393:True:=⟨⟩
theorem PySem.W.Fast.tw4129357635332141713:True:=⟨⟩
theorem PySem.W.Fast.tw1611424109684116498:True:=⟨⟩
theorem PySem.W.Fast.tw17203920955787529298:True:=⟨⟩
theorem PySem.W.Fast.tw927072258441046098:True:=⟨⟩
theorem PySem.W.Fast.tw12520685444657940626:True:=⟨⟩
theorem PySem.W.Fast.tw15699842848814698834:True:=⟨⟩
theorem PySem.W.Fast.tw11019638488127439218:True:=⟨⟩
theorem PySem.W.Fast.tw15684591405571550738:True:=⟨⟩
theorem PySem.W.Fast.tw856432572893321842:True:=⟨⟩
theorem PySem.W.Fast.tw7804842867825801938:True:=⟨⟩
theorem PySem.W.Fast.tw17998267365074066162:True:=⟨⟩
theorem PySem.W.Fast.tw10688086760633097010:True:=⟨⟩
theorem PySem.W.Fast.tw17512193795302258:True:=⟨⟩
theorem PySem.W.Fast.tw9356103113181683602:True:=⟨⟩
theorem PySem.W.Fast.tw522770516221173682:True:=⟨⟩
theorem PySem.W.Fast.tw7714309875462336498:True:=⟨⟩
theorem PySem.W.Fast.tw5603067217667065043:True:=⟨⟩
theorem PySem.W.Fast.tw5607435059694992659:True:=⟨⟩
theorem PySem.W.Fast.tw18059202529014568275:True:=⟨⟩
theorem PySem.W.Fast.tw9521852428102691155:True:=⟨⟩
theorem PySem.W.Fast.tw4821610587084485971:True:=⟨⟩
theorem PySem.W.Fast.tw5605637679336052083:True:=⟨⟩
theorem PySem.W.Fast.tw13472138830690626003:True:=⟨⟩
theorem PySem.W.Fast.tw18164981661045203475:True:=⟨⟩
theorem PySem.W.Fast.tw6709991346426289811:True:=⟨⟩
theorem PySem.W.Fast.tw5477628696443414163:True:=⟨⟩
theorem PySem.W.Fast.tw10340253474584563443:True:=⟨⟩
theorem PySem.W.Fast.tw5466117627834828563:True:=⟨⟩
theorem PySem.W.Fast.tw13121527912424043283:True:=⟨⟩
theorem PySem.W.Fast.tw7601734976029913875:True:=⟨⟩
theorem PySem.W.Fast.tw10152263838691737395:True:=⟨⟩
theorem PySem.W.Fast.tw3302084858865407795:True:=⟨⟩
theorem PySem.W.Fast.tw14344731158291418995:True:=⟨⟩
theorem PySem.W.Fast.tw7893850443604568979:True:=⟨⟩
theorem PySem.W.Fast.tw13885726242274489235:True:=⟨⟩
theorem PySem.W.Fast.tw6559596472009308051:True:=⟨⟩
theorem PySem.W.Fast.tw667642929430430643:True:=⟨⟩
theorem PySem.W.Fast.tw9797042595288098739:True:=⟨⟩
theorem PySem.W.Fast.tw9601544089821111316:True:=⟨⟩
theorem PySem.W.Fast.tw9365026923871315156:True:=⟨⟩
theorem PySem.W.Fast.tw2079481381535760628:True:=⟨⟩
theorem PySem.W.Fast.tw7757261984044125684:True:=⟨⟩
theorem PySem.W.Fast.tw9718410557843380788:True:=⟨⟩
theorem PySem.W.Fast.tw10784807722058550004:True:=⟨⟩
theorem PySem.W.Fast.tw8743406741909120756:True:=⟨⟩
theorem PySem.W.Fast.tw4356972915827751700:True:=⟨⟩
theorem PySem.W.Fast.tw14829648825056894997:True:=⟨⟩
theorem PySem.W.Fast.tw18086423055320222869:True:=⟨⟩
theorem PySem.W.Fast.tw13928018686212922581:True:=⟨⟩
theorem PySem.W.Fast.tw14192885135549886677:True:=⟨⟩
theorem PySem.W.Fast.tw410340038011336981:True:=⟨⟩
theorem PySem.W.Fast.tw964466015748116853:True:=⟨⟩
theorem PySem.W.Fast.tw1724758987722268053:True:=⟨⟩
theorem PySem.W.Fast.tw1053710485689899445:True:=⟨⟩
theorem PySem.W.Fast.tw5251921672350807477:True:=⟨⟩
theorem PySem.W.Fast.tw9373048676425405013:True:=⟨⟩
theorem PySem.W.Fast.tw13714400597297529493:True:=⟨⟩
theorem PySem.W.Fast.tw12833673129354514165:True:=⟨⟩
theorem PySem.W.Fast.tw8781277969537807221:True:=⟨⟩
theorem PySem.W.Fast.tw10801650201173259286:True:=⟨⟩
theorem PySem.W.Fast.tw836291705653587062:True:=⟨⟩
theorem PySem.W.Fast.tw16945613763329073334:True:=⟨⟩
theorem PySem.W.Fast.tw7170560030491399542:True:=⟨⟩
theorem PySem.W.Fast.tw14750288457033110934:True:=⟨⟩
theorem PySem.W.Fast.tw15944419277076050358:True:=⟨⟩
theorem PySem.W.Fast.tw6336465698588222934:True:=⟨⟩
theorem PySem.W.Fast.tw7932007338966355638:True:=⟨⟩
theorem PySem.W.Fast.tw5942887868761750230:True:=⟨⟩
theorem PySem.W.Fast.tw2747335767330352918:True:=⟨⟩
theorem PySem.W.Fast.tw6463458794712803094:True:=⟨⟩
theorem PySem.W.Fast.tw12174619258310680502:True:=⟨⟩
theorem PySem.W.Fast.tw18351856746159705175:True:=⟨⟩
theorem PySem.W.Fast.tw6766979226698850423:True:=⟨⟩
theorem PySem.W.Fast.tw8496254210842306679:True:=⟨⟩
theorem PySem.W.Fast.tw4500696742669372631:True:=⟨⟩
theorem PySem.W.Fast.tw67314215804919063:True:=⟨⟩
theorem PySem.W.Fast.tw14352215058934747447:True:=⟨⟩
theorem PySem.W.Fast.tw17162622137398657335:True:=⟨⟩
theorem PySem.W.Fast.tw7656146828796654167:True:=⟨⟩
theorem PySem.W.Fast.tw9550401402497177271:True:=⟨⟩
theorem PySem.W.Fast.tw10086417962628478647:True:=⟨⟩
theorem PySem.W.Fast.tw6771012305313156087:True:=⟨⟩
theorem PySem.W.Fast.tw6434663250059196440:True:=⟨⟩
theorem PySem.W.Fast.tw6604144680154562680:True:=⟨⟩
theorem PySem.W.Fast.tw18019397277693037688:True:=⟨⟩
theorem PySem.W.Fast.tw15016388728362413240:True:=⟨⟩
theorem PySem.W.Fast.tw14397664146222995672:True:=⟨⟩
theorem PySem.W.Fast.tw4556390372769317112:True:=⟨⟩
theorem PySem.W.Fast.tw228159824595850520:True:=⟨⟩
theorem PySem.W.Fast.tw5857332537571795224:True:=⟨⟩
theorem PySem.W.Fast.tw5447061452341170488:True:=⟨⟩
theorem PySem.W.Fast.tw18444254517090269592:True:=⟨⟩
theorem PySem.W.Fast.tw3523752486049408664:True:=⟨⟩
theorem PySem.W.Fast.tw91978030729387704:True:=⟨⟩
theorem PySem.W.Fast.tw8228682507698267832:True:=⟨⟩
theorem PySem.W.Fast.tw17476639690092313336:True:=⟨⟩
theorem PySem.W.Fast.tw17569574640008891224:True:=⟨⟩
theorem PySem.W.Fast.tw15942706644764461016:True:=⟨⟩
theorem PySem.W.Fast.tw13194500618002098201:True:=⟨⟩
theorem PySem.W.Fast.tw11534030469394735193:True:=⟨⟩
theorem PySem.W.Fast.tw1070468330462232857:True:=⟨⟩
theorem PySem.W.Fast.tw10640700785357020537:True:=⟨⟩
theorem PySem.W.Fast.tw3757034596194625401:True:=⟨⟩
theorem PySem.W.Fast.tw8804705148554812377:True:=⟨⟩
theorem PySem.W.Fast.tw6400086630321675257:True:=⟨⟩
theorem PySem.W.Fast.tw3571066929148178490:True:=⟨⟩
theorem PySem.W.Fast.tw4413522959894664282:True:=⟨⟩
theorem PySem.W.Fast.tw12111781580411404538:True:=⟨⟩
theorem PySem.W.Fast.tw9197387326656936186:True:=⟨⟩
theorem PySem.W.Fast.tw5318652258254893338:True:=⟨⟩
theorem PySem.W.Fast.tw7348439263101334842:True:=⟨⟩
theorem PySem.W.Fast.tw11696305233440842170:True:=⟨⟩
theorem PySem.W.Fast.tw12804665102813739450:True:=⟨⟩
theorem PySem.W.Fast.tw10848480358846566874:True:=⟨⟩
theorem PySem.W.Fast.tw4656966583206781434:True:=⟨⟩
theorem PySem.W.Fast.tw18012896008757956186:True:=⟨⟩
theorem PySem.W.Fast.tw1837914757963306586:True:=⟨⟩
theorem PySem.W.Fast.tw2588518352213028474:True:=⟨⟩
theorem PySem.W.Fast.tw2904783047448945274:True:=⟨⟩
theorem PySem.W.Fast.tw15809813244430556890:True:=⟨⟩
theorem PySem.W.Fast.tw14172521892625394554:True:=⟨⟩
theorem PySem.W.Fast.tw13480171025967093883:True:=⟨⟩
theorem PySem.W.Fast.tw12436803198966373563:True:=⟨⟩
theorem PySem.W.Fast.tw1261073576904834267:True:=⟨⟩
theorem PySem.W.Fast.tw16196216389528350939:True:=⟨⟩
theorem PySem.W.Fast.tw9000241044353789211:True:=⟨⟩
theorem PySem.W.Fast.tw15053050961701264731:True:=⟨⟩
theorem PySem.W.Fast.tw6941556943931740571:True:=⟨⟩
theorem PySem.W.Fast.tw4060617520651769307:True:=⟨⟩
theorem PySem.W.Fast.tw17156441109009845755:True:=⟨⟩
theorem PySem.W.Fast.tw9042230672164826747:True:=⟨⟩
theorem PySem.W.Fast.tw1711540612764094107:True:=⟨⟩
theorem PySem.W.Fast.tw4250601403119246107:True:=⟨⟩
theorem PySem.W.Fast.tw355804603165351707:True:=⟨⟩
theorem PySem.W.Fast.tw16136321255669944123:True:=⟨⟩
theorem PySem.W.Fast.tw5541348457953401691:True:=⟨⟩
theorem PySem.W.Fast.tw7133527703636640667:True:=⟨⟩
theorem PySem.W.Fast.tw4342137656157192123:True:=⟨⟩
theorem PySem.W.Fast.tw16807342903162951675:True:=⟨⟩
theorem PySem.W.Fast.tw13703486850094822588:True:=⟨⟩
theorem PySem.W.Fast.tw6893979932127958332:True:=⟨⟩
theorem PySem.W.Fast.tw9707706067504389468:True:=⟨⟩
theorem PySem.W.Fast.tw14948091415242643804:True:=⟨⟩
theorem PySem.W.Fast.tw12448515702124574076:True:=⟨⟩
theorem PySem.W.Fast.tw13130514529686559196:True:=⟨⟩
theorem PySem.W.Fast.tw1228526473033754204:True:=⟨⟩
theorem PySem.W.Fast.tw16474895060093379164:True:=⟨⟩
theorem PySem.W.Fast.tw10547126760609842972:True:=⟨⟩
theorem PySem.W.Fast.tw903323710778936156:True:=⟨⟩
theorem PySem.W.Fast.tw11118564606592555932:True:=⟨⟩
theorem PySem.W.Fast.tw11941841344780548028:True:=⟨⟩
theorem PySem.W.Fast.tw16852247515445420988:True:=⟨⟩
theorem PySem.W.Fast.tw17577734106184775612:True:=⟨⟩
theorem PySem.W.Fast.tw1306878082534504412:True:=⟨⟩
theorem PySem.W.Fast.tw16879275255879164957:True:=⟨⟩
theorem PySem.W.Fast.tw7808012059924261053:True:=⟨⟩
theorem PySem.W.Fast.tw9682723246358637821:True:=⟨⟩
theorem PySem.W.Fast.tw11808799768363111709:True:=⟨⟩
theorem PySem.W.Fast.tw17811276536962482589:True:=⟨⟩
theorem PySem.W.Fast.tw16972755186932839901:True:=⟨⟩
theorem PySem.W.Fast.tw14558009255757958717:True:=⟨⟩
theorem PySem.W.Fast.tw13538378764257614461:True:=⟨⟩
theorem PySem.W.Fast.tw1902396477428366013:True:=⟨⟩
theorem PySem.W.Fast.tw17193866460538000093:True:=⟨⟩
theorem PySem.W.Fast.tw4683259897587652477:True:=⟨⟩
theorem PySem.W.Fast.tw8458760439899430877:True:=⟨⟩
theorem PySem.W.Fast.tw8547488365488016381:True:=⟨⟩
theorem PySem.W.Fast.tw18369745680814995453:True:=⟨⟩
theorem PySem.W.Fast.tw7906338793718324254:True:=⟨⟩
theorem PySem.W.Fast.tw7747263795143428158:True:=⟨⟩
theorem PySem.W.Fast.tw5189101350093491294:True:=⟨⟩
theorem PySem.W.Fast.tw8986817307643424894:True:=⟨⟩
theorem PySem.W.Fast.tw11849889398472908958:True:=⟨⟩
theorem PySem.W.Fast.tw1911744827095274878:True:=⟨⟩
theorem PySem.W.Fast.tw322646312366401918:True:=⟨⟩
theorem PySem.W.Fast.tw8409062487134754206:True:=⟨⟩
theorem PySem.W.Fast.tw14963343768186397150:True:=⟨⟩
theorem PySem.W.Fast.tw15159373275978232286:True:=⟨⟩
theorem PySem.W.Fast.tw15240413549742637566:True:=⟨⟩
theorem PySem.W.Fast.tw10434918732460961278:True:=⟨⟩
theorem PySem.W.Fast.tw11741165970087404126:True:=⟨⟩
theorem PySem.W.Fast.tw14012046979234175614:True:=⟨⟩
theorem PySem.W.Fast.tw6693356482176362174:True:=⟨⟩
theorem PySem.W.Fast.tw17458145838981606206:True:=⟨⟩
theorem PySem.W.Fast.tw17298992368261184382:True:=⟨⟩
theorem PySem.W.Fast.tw8457708670413211614:True:=⟨⟩
theorem PySem.W.Fast.tw5040461686289890270:True:=⟨⟩
theorem PySem.W.Fast.tw7196662157889440766:True:=⟨⟩
theorem PySem.W.Fast.tw16688111211075726334:True:=⟨⟩
theorem PySem.W.Fast.tw906234443181381695:True:=⟨⟩
theorem PySem.W.Fast.tw3535824432965686399:True:=⟨⟩
theorem PySem.W.Fast.tw18184472449330715839:True:=⟨⟩
theorem PySem.W.Fast.tw13062315639063816383:True:=⟨⟩
theorem PySem.W.Fast.tw13256937911790498015:True:=⟨⟩
theorem PySem.W.Fast.tw3991815465592962271:True:=⟨⟩
theorem PySem.W.Fast.tw2014991426019923199:True:=⟨⟩
theorem PySem.W.Fast.tw6773475418879924479:True:=⟨⟩
theorem PySem.W.Fast.tw14837254363425728767:True:=⟨⟩
theorem PySem.W.Fast.tw2166287777303938335:True:=⟨⟩
theorem PySem.W.Fast.tw5871635015628834111:True:=⟨⟩
theorem PySem.W.Fast.tw16041626179772660095:True:=⟨⟩
theorem PySem.W.Fast.tw10522704636996049279:True:=⟨⟩
theorem PySem.W.Fast.tw2446036004827675039:True:=⟨⟩
theorem PySem.W.Fast.tw15793803401594555039:True:=⟨⟩
theorem PySem.W.Fast.tw9748218819410178783:True:=⟨⟩
theorem PySem.W.Fast.tw3122512186224503583:True:=⟨⟩
theorem PySem.W.Fast.tw7365193557860256639:True:=⟨⟩
theorem PySem.W.Fast.tw14415675378956736383:True:=⟨⟩
theorem PySem.W.Fast.tw6830831006935400351:True:=⟨⟩
theorem PySem.W.Fast.tw7794901983680836739:True:=⟨⟩
theorem PySem.W.Fast.tw3667366749874994075:True:=⟨⟩

set_option Elab.async false
set_option linter.all false
set_option maxRecDepth 100000
set_option maxHeartbeats 400000
namespace K04
open PySem L2
theorem el1 {C:List Value→Prop} (h:∀ a0:Value,C [a0]):∀ us:List Value,us.length=1→C us:=fun us e=>match us,e with | [a0],_=>h a0
theorem el2 {C:List Value→Prop} (h:∀ a0 a1:Value,C [a0,a1]):∀ us:List Value,us.length=2→C us:=fun us e=>match us,e with | [a0,a1],_=>h a0 a1
theorem el3 {C:List Value→Prop} (h:∀ a0 a1 a2:Value,C [a0,a1,a2]):∀ us:List Value,us.length=3→C us:=fun us e=>match us,e with | [a0,a1,a2],_=>h a0 a1 a2
theorem el4 {C:List Value→Prop} (h:∀ a0 a1 a2 a3:Value,C [a0,a1,a2,a3]):∀ us:List Value,us.length=4→C us:=fun us e=>match us,e with | [a0,a1,a2,a3],_=>h a0 a1 a2 a3
noncomputable def Has (K:PySem.W.Frag) (x:Str) (st:Stmt):Prop:=∃ (f:Addr) (od an:Option Addr) (sl:Array (Option Value)) (oc kV dc pm cd ct:Value),PySem.W.nsIn K mainGlobals x=some (some (.ref f)) ∧
 K.lookup f=some ⟨oc,od,.func (PySem.W.fnOf x x (fU st) (cZ st) (aD st) .none kV dc pm an cd ct),sl⟩∧PySem.W.codeIn K cd x=true∧PySem.W.keepIn K (.ref f)=true
theorem has_mk {K:PySem.W.Frag} {x:Str} {st:Stmt} {f:Addr} {od an:Option Addr} {sl:Array (Option Value)} {oc kV dc pm cd ct:Value} (a:PySem.W.nsIn K mainGlobals x=some (some (.ref f)))
  (l:K.lookup f=some ⟨oc,od,.func (PySem.W.fnOf x x (fU st) (cZ st) (aD st) .none kV dc pm an cd ct),sl⟩) (c:PySem.W.codeIn K cd x=true) (k:PySem.W.keepIn K (.ref f)=true):Has K x st:=⟨f,od,an,sl,oc,kV,dc,pm,cd,ct,a,l,c,k⟩
theorem Has.get {K:PySem.W.Frag} {x:Str} {st:Stmt} {h:Heap} {mg:Str→Option Value} (H:Has K x st) (X:K.In h) (G:h.Ns mainGlobals mg):∃ f fd,Fun K x x st f fd∧mg x=some (.ref f):=by
 obtain ⟨f,od,an,sl,oc,kV,dc,pm,cd,ct,a,l,c,k⟩:=H
 exact ⟨f,_,xF (st:=st) l c k,PySem.W.mg_of X G a⟩
theorem aU {P:Program} {w:World} {K:PySem.W.Frag} {mg:Str→Option Value} {base:Heap} {k:Nat} {x:Str} {ps:List Str} {sp:Sp} {f:Addr} {fd:FuncData} (F:FnOk P w K mg base CX0 k f fd ps sp) (m:mg x=some (.ref f)) (kp:PySem.W.keepIn K (.ref f)=true) (b:Binds K fd ps []):Cal P w K mg base k x ps sp:=⟨f,fd,F,m,kp,b⟩
theorem vH {P:Program} {w:World} {K:PySem.W.Frag} {mg:Str→Option Value} {base:Heap} {k:Nat} {x:Str} {ps:List Str} {sp:Sp} {f:Addr} {fd:FuncData} (F:FnOk P w K mg base (CX1 P w) k f fd ps sp) (m:mg x=some (.ref f)) (kp:PySem.W.keepIn K (.ref f)=true) (b:Binds K fd ps []):Bc P w K mg base k x ps sp:=⟨f,fd,F,m,kp,b⟩
theorem Bw {P:Program} {w:World} {K:PySem.W.Frag} {mg:Str→Option Value} {base:Heap} {k:Nat} {x:Str} {ps:List Str} {sp:Sp} {f:Addr} {fd:FuncData} (F:FnOkU P w K mg base CX0 k f fd ps sp) (m:mg x=some (.ref f)) (kp:PySem.W.keepIn K (.ref f)=true) (b:Binds K fd ps []):Dt P w K mg base k x ps sp:=⟨f,fd,F,m,kp,b⟩
theorem BJ {K:PySem.W.Frag} {x qual:Str} {st:Stmt} {f c T:Addr} {fd:FuncData} {h:Heap} {mg:Str→Option Value} (X:K.In h) (G:h.Ns mainGlobals mg) (F:Fun K x qual st f fd) (m:mg x=some (.ref f)) (t:PySem.W.tabIn K x=some (c,T)):fd.code=.ref c:=by
 obtain ⟨oc,od,kV,doc,pm,an,cdv,ct,osl,rfl,lk,_⟩:=F.ex
 exact PySem.W.law_code X G t m (X _ _ lk) rfl
theorem all_mk {l:PySem.W.OpenLaw} {w:World} {K:PySem.W.Frag} {h:Heap} {mg:Str→Option Value} {fa fL:Addr} {odL anL:Option Addr} {slL:Array (Option Value)} {ocL kVL dcL pmL cdL ctL:Value} {t0 t1 t2 t3 t4 t5 t6 t7 t8:Tok} {cT T0:Addr} {C0 C1 C2 C3 C4 C5 C6 C7 C8 C9 C10 C11 C12 C13 C14 C15 C16 C17:Addr} (X:K.In h) (G:h.Ns mainGlobals mg) (hfa:mg "law" = some (.ref fa))
  (h20:Has K "is_whole" (top 20))
  (h21:Has K "is_whole_from" (top 21))
  (h22:Has K "is_tuple_of" (top 22))
  (h23:Has K "are_wholes" (top 23))
  (h34:Has K "is_clip" (top 34))
  (h35:Has K "are_clips" (top 35))
  (h36:Has K "is_promise" (top 36))
  (h37:Has K "are_promises" (top 37))
  (h38:Has K "are_sales" (top 38))
  (h39:Has K "held_in" (top 39))
  (h40:Has K "is_sale_between" (top 40))
  (h41:Has K "sale_holds" (top 41))
  (h42:Has K "first_unheld" (top 42))
  (h43:Has K "is_book" (top 43))
  (h44:Has K "refuse_no_book" (top 44))
  (h45:Has K "holdings" (top 45))
  (h47:Has K "_law_cell_at" (top 47))
  (h48:Has K "_law_state" (top 48))
  (h49:Has K "_law_take" (top 49))
  (h50:Has K "_law_clips" (top 50))
  (h51:Has K "_law_promises" (top 51))
  (h52:Has K "_law_begun" (top 52))
  (h53:Has K "_law_holds" (top 53))
  (h54:Has K "_law_sell" (top 54))
  (h55:Has K "_law_sold" (top 55))
  (h56:Has K "_law_any_sale" (top 56))
  (h57:Has K "_law_sales" (top 57))
  (h58:Has K "_law_book" (top 58))
  (h59:Has K "_law_kind" (top 59))
  (h60:Has K "_law_said" (top 60))
  (h61:Has K "_law_whole" (top 61))
  (h62:Has K "_law_between" (top 62))
  (h63:Has K "_law_is_clip" (top 63))
  (h64:Has K "_law_are_clips" (top 64))
  (h65:Has K "_law_is_promise" (top 65))
  (h66:Has K "_law_are_promises" (top 66))
  (h67:Has K "_law_is_sale" (top 67))
  (h68:Has K "_law_are_sales" (top 68))
  (h69:Has K "_law_is_book" (top 69))
  (h70:Has K "_law_odd" (top 70))
  (h71:Has K "_law_spoilt" (top 71))
  (h72:Has K "_law_same" (top 72))
  (h73:Has K "_law_right" (top 73))
  (aL:PySem.W.nsIn K mainGlobals "law" = some (some (.ref fL))) (lL:K.lookup fL=some ⟨ocL,odL,.func (PySem.W.fnOf "law" "law" (fU (top 74)) (cZ (top 74)) (aD (top 74)) .none kVL dcL pmL anL cdL ctL),slL⟩) (cL:PySem.W.codeIn K cdL "law" = true) (kL:PySem.W.keepIn K (.ref fL)=true)
  (n0:PySem.W.nsIn K mainGlobals "SORTS" = some (some (.int 3 t0)))
  (n1:PySem.W.nsIn K mainGlobals "HOLDERS" = some (some (.int 8 t1)))
  (n2:PySem.W.nsIn K mainGlobals "LAST_YEAR" = some (some (.int 19 t2)))
  (n3:PySem.W.nsIn K mainGlobals "MOST_CLIPS" = some (some (.int 20 t3)))
  (n4:PySem.W.nsIn K mainGlobals "MOST_PROMISES" = some (some (.int 10 t4)))
  (n5:PySem.W.nsIn K mainGlobals "MOST_WOOL" = some (some (.int 999 t5)))
  (n6:PySem.W.nsIn K mainGlobals "MOST_SACKS" = some (some (.int 99 t6)))
  (n7:PySem.W.nsIn K mainGlobals "MOST_PRICE" = some (some (.int 1000000 t7)))
  (n8:PySem.W.nsIn K mainGlobals "MOST_SALES" = some (some (.int 12 t8)))
  (z_isinstance:PySem.W.nsIn K mainGlobals "isinstance" = some none)
  (z_int:PySem.W.nsIn K mainGlobals "int" = some none)
  (z_bool:PySem.W.nsIn K mainGlobals "bool" = some none)
  (z_tuple:PySem.W.nsIn K mainGlobals "tuple" = some none)
  (z_len:PySem.W.nsIn K mainGlobals "len" = some none)
  (z_all:PySem.W.nsIn K mainGlobals "all" = some none)
  (z_range:PySem.W.nsIn K mainGlobals "range" = some none)
  (z_list:PySem.W.nsIn K mainGlobals "list" = some none)
  (z_max:PySem.W.nsIn K mainGlobals "max" = some none)
  (z_min:PySem.W.nsIn K mainGlobals "min" = some none)
  (z_repr:PySem.W.nsIn K mainGlobals "repr" = some none)
  (z_zip:PySem.W.nsIn K mainGlobals "zip" = some none)
  (z_enumerate:PySem.W.nsIn K mainGlobals "enumerate" = some none)
  (z_sorted:PySem.W.nsIn K mainGlobals "sorted" = some none)
  (z_ValueError:PySem.W.nsIn K mainGlobals "ValueError" = some none)
  (k0:PySem.W.nsIn K mainGlobals "NoClips" = some (some (.ref C0)))
  (k1:PySem.W.nsIn K mainGlobals "NoPromises" = some (some (.ref C1)))
  (k2:PySem.W.nsIn K mainGlobals "NoSales" = some (some (.ref C2)))
  (k3:PySem.W.nsIn K mainGlobals "NoBook" = some (some (.ref C3)))
  (k4:PySem.W.nsIn K mainGlobals "NoNumber" = some (some (.ref C4)))
  (k5:PySem.W.nsIn K mainGlobals "NoYear" = some (some (.ref C5)))
  (k6:PySem.W.nsIn K mainGlobals "NoWeights" = some (some (.ref C6)))
  (k7:PySem.W.nsIn K mainGlobals "NoPaper" = some (some (.ref C7)))
  (k8:PySem.W.nsIn K mainGlobals "NoGrowth" = some (some (.ref C8)))
  (k9:PySem.W.nsIn K mainGlobals "NoPromise" = some (some (.ref C9)))
  (k10:PySem.W.nsIn K mainGlobals "NoSort" = some (some (.ref C10)))
  (k11:PySem.W.nsIn K mainGlobals "NoClip" = some (some (.ref C11)))
  (k12:PySem.W.nsIn K mainGlobals "NoSale" = some (some (.ref C12)))
  (k13:PySem.W.nsIn K mainGlobals "NoDeed" = some (some (.ref C13)))
  (k14:PySem.W.nsIn K mainGlobals "NoText" = some (some (.ref C14)))
  (k15:PySem.W.nsIn K mainGlobals "NoLine" = some (some (.ref C15)))
  (k16:PySem.W.nsIn K mainGlobals "TooMany" = some (some (.ref C16)))
  (k17:PySem.W.nsIn K mainGlobals "WoolError" = some (some (.ref C17)))
  (e3:PySem.W.excIn K C3 VE "ValueError.__new__" = true) (d3:yN K [C0,C1,C2,C3,C4,C5,C6,C7,C8,C9,C10,C11,C12,C13,C14,C15,C16,C17] 3=true)
  (e4:PySem.W.excIn K C4 VE "ValueError.__new__" = true) (d4:yN K [C0,C1,C2,C3,C4,C5,C6,C7,C8,C9,C10,C11,C12,C13,C14,C15,C16,C17] 4=true)
  (e5:PySem.W.excIn K C5 VE "ValueError.__new__" = true) (d5:yN K [C0,C1,C2,C3,C4,C5,C6,C7,C8,C9,C10,C11,C12,C13,C14,C15,C16,C17] 5=true)
  (tb:PySem.W.tabIn K "_law_right" = some (cT,T0))
  : ∃ fd:FuncData,(∀ (s:Shared) (v:Value),BindsTo s fd ⟨[v],[]⟩ [("_law_script",v)])∧∀ base:Heap,K.In base→base.Ns mainGlobals mg→PySem.W.CodeHd base cT T0→base.BuiltinsAt mg T0→FnOk l.prog w K mg base CX0 63 fa fd ["_law_script"] (vD K T0):=by
 have e:=hfa.symm.trans (PySem.W.mg_of X G aL)
 cases e
 have FL:=xF (st:=top 74) lL cL kL
 obtain ⟨f20,fd20,F20,m20⟩:=h20.get X G
 have b20:=F20.binds (ps:=["thing"]) fun _ _ _ _ _ _=>el1 fun _=>rfl
 obtain ⟨f21,fd21,F21,m21⟩:=h21.get X G
 have b21:=F21.binds (ps:=["thing","least","most"]) fun _ _ _ _ _ _=>el3 fun _ _ _=>rfl
 obtain ⟨f22,fd22,F22,m22⟩:=h22.get X G
 have b22:=F22.binds (ps:=["thing","fewest","most"]) fun _ _ _ _ _ _=>el3 fun _ _ _=>rfl
 obtain ⟨f23,fd23,F23,m23⟩:=h23.get X G
 have b23:=F23.binds (ps:=["thing","many"]) fun _ _ _ _ _ _=>el2 fun _ _=>rfl
 obtain ⟨f34,fd34,F34,m34⟩:=h34.get X G
 have b34:=F34.binds (ps:=["thing"]) fun _ _ _ _ _ _=>el1 fun _=>rfl
 obtain ⟨f35,fd35,F35,m35⟩:=h35.get X G
 have b35:=F35.binds (ps:=["thing"]) fun _ _ _ _ _ _=>el1 fun _=>rfl
 obtain ⟨f36,fd36,F36,m36⟩:=h36.get X G
 have b36:=F36.binds (ps:=["thing"]) fun _ _ _ _ _ _=>el1 fun _=>rfl
 obtain ⟨f37,fd37,F37,m37⟩:=h37.get X G
 have b37:=F37.binds (ps:=["thing"]) fun _ _ _ _ _ _=>el1 fun _=>rfl
 obtain ⟨f38,fd38,F38,m38⟩:=h38.get X G
 have b38:=F38.binds (ps:=["thing"]) fun _ _ _ _ _ _=>el1 fun _=>rfl
 obtain ⟨f39,fd39,F39,m39⟩:=h39.get X G
 have b39:=F39.binds (ps:=["promises","sales","number","year"]) fun _ _ _ _ _ _=>el4 fun _ _ _ _=>rfl
 obtain ⟨f40,fd40,F40,m40⟩:=h40.get X G
 have b40:=F40.binds (ps:=["promises","sale"]) fun _ _ _ _ _ _=>el2 fun _ _=>rfl
 obtain ⟨f41,fd41,F41,m41⟩:=h41.get X G
 have b41:=F41.binds (ps:=["promises","ahead","sale"]) fun _ _ _ _ _ _=>el3 fun _ _ _=>rfl
 obtain ⟨f42,fd42,F42,m42⟩:=h42.get X G
 have b42:=F42.binds (ps:=["promises","sales"]) fun _ _ _ _ _ _=>el2 fun _ _=>rfl
 obtain ⟨f43,fd43,F43,m43⟩:=h43.get X G
 have b43:=F43.binds (ps:=["thing"]) fun _ _ _ _ _ _=>el1 fun _=>rfl
 obtain ⟨f44,fd44,F44,m44⟩:=h44.get X G
 have b44:=F44.binds (ps:=["thing"]) fun _ _ _ _ _ _=>el1 fun _=>rfl
 obtain ⟨f45,fd45,F45,m45⟩:=h45.get X G
 have b45:=F45.binds (ps:=["book","number","year"]) fun _ _ _ _ _ _=>el3 fun _ _ _=>rfl
 obtain ⟨f47,fd47,F47,m47⟩:=h47.get X G
 have b47:=F47.binds (ps:=["_law_script","_law_k"]) fun _ _ _ _ _ _=>el2 fun _ _=>rfl
 obtain ⟨f48,fd48,F48,m48⟩:=h48.get X G
 have b48:=F48.binds (ps:=["_law_script","_law_k"]) fun _ _ _ _ _ _=>el2 fun _ _=>rfl
 obtain ⟨f49,fd49,F49,m49⟩:=h49.get X G
 have b49:=F49.binds (ps:=["_law_state_here","_law_many"]) fun _ _ _ _ _ _=>el2 fun _ _=>rfl
 obtain ⟨f50,fd50,F50,m50⟩:=h50.get X G
 have b50:=F50.binds (ps:=["_law_state_here","_law_most"]) fun _ _ _ _ _ _=>el2 fun _ _=>rfl
 obtain ⟨f51,fd51,F51,m51⟩:=h51.get X G
 have b51:=F51.binds (ps:=["_law_state_here","_law_most","_law_years"]) fun _ _ _ _ _ _=>el3 fun _ _ _=>rfl
 obtain ⟨f52,fd52,F52,m52⟩:=h52.get X G
 have b52:=F52.binds (ps:=["_law_promises_here"]) fun _ _ _ _ _ _=>el1 fun _=>rfl
 obtain ⟨f53,fd53,F53,m53⟩:=h53.get X G
 have b53:=F53.binds (ps:=["_law_promises_here","_law_rows","_law_sale"]) fun _ _ _ _ _ _=>el3 fun _ _ _=>rfl
 obtain ⟨f54,fd54,F54,m54⟩:=h54.get X G
 have b54:=F54.binds (ps:=["_law_promises_here","_law_rows","_law_sale"]) fun _ _ _ _ _ _=>el3 fun _ _ _=>rfl
 obtain ⟨f55,fd55,F55,m55⟩:=h55.get X G
 have b55:=F55.binds (ps:=["_law_promises_here","_law_sales_here"]) fun _ _ _ _ _ _=>el2 fun _ _=>rfl
 obtain ⟨f56,fd56,F56,m56⟩:=h56.get X G
 have b56:=F56.binds (ps:=["_law_state_here","_law_promises_here"]) fun _ _ _ _ _ _=>el2 fun _ _=>rfl
 obtain ⟨f57,fd57,F57,m57⟩:=h57.get X G
 have b57:=F57.binds (ps:=["_law_state_here","_law_promises_here","_law_most"]) fun _ _ _ _ _ _=>el3 fun _ _ _=>rfl
 obtain ⟨f58,fd58,F58,m58⟩:=h58.get X G
 have b58:=F58.binds (ps:=["_law_state_here","_law_years","_law_most","_law_sales_here"]) fun _ _ _ _ _ _=>el4 fun _ _ _ _=>rfl
 obtain ⟨f59,fd59,F59,m59⟩:=h59.get X G
 have b59:=F59.binds (ps:=["_law_e"]) fun _ _ _ _ _ _=>el1 fun _=>rfl
 obtain ⟨f60,fd60,F60,m60⟩:=h60.get X G
 have b60:=F60.binds (ps:=["_law_call"]) fun _ _ _ _ _ _=>el1 fun _=>rfl
 obtain ⟨f61,fd61,F61,m61⟩:=h61.get X G
 have b61:=F61.binds (ps:=["_law_thing"]) fun _ _ _ _ _ _=>el1 fun _=>rfl
 obtain ⟨f62,fd62,F62,m62⟩:=h62.get X G
 have b62:=F62.binds (ps:=["_law_thing","_law_low","_law_high"]) fun _ _ _ _ _ _=>el3 fun _ _ _=>rfl
 obtain ⟨f63,fd63,F63,m63⟩:=h63.get X G
 have b63:=F63.binds (ps:=["_law_thing"]) fun _ _ _ _ _ _=>el1 fun _=>rfl
 obtain ⟨f64,fd64,F64,m64⟩:=h64.get X G
 have b64:=F64.binds (ps:=["_law_thing"]) fun _ _ _ _ _ _=>el1 fun _=>rfl
 obtain ⟨f65,fd65,F65,m65⟩:=h65.get X G
 have b65:=F65.binds (ps:=["_law_thing"]) fun _ _ _ _ _ _=>el1 fun _=>rfl
 obtain ⟨f66,fd66,F66,m66⟩:=h66.get X G
 have b66:=F66.binds (ps:=["_law_thing"]) fun _ _ _ _ _ _=>el1 fun _=>rfl
 obtain ⟨f67,fd67,F67,m67⟩:=h67.get X G
 have b67:=F67.binds (ps:=["_law_thing"]) fun _ _ _ _ _ _=>el1 fun _=>rfl
 obtain ⟨f68,fd68,F68,m68⟩:=h68.get X G
 have b68:=F68.binds (ps:=["_law_thing"]) fun _ _ _ _ _ _=>el1 fun _=>rfl
 obtain ⟨f69,fd69,F69,m69⟩:=h69.get X G
 have b69:=F69.binds (ps:=["_law_thing"]) fun _ _ _ _ _ _=>el1 fun _=>rfl
 obtain ⟨f70,fd70,F70,m70⟩:=h70.get X G
 have b70:=F70.binds (ps:=["_law_state_here"]) fun _ _ _ _ _ _=>el1 fun _=>rfl
 obtain ⟨f71,fd71,F71,m71⟩:=h71.get X G
 have b71:=F71.binds (ps:=["_law_state_here","_law_thing","_law_deep"]) fun _ _ _ _ _ _=>el3 fun _ _ _=>rfl
 obtain ⟨f72,fd72,F72,m72⟩:=h72.get X G
 have b72:=F72.binds (ps:=["_law_found","_law_due"]) fun _ _ _ _ _ _=>el2 fun _ _=>rfl
 obtain ⟨f73,fd73,F73,m73⟩:=h73.get X G
 have b73:=F73.binds (ps:=["_law_book_here","_law_number","_law_year"]) fun _ _ _ _ _ _=>el3 fun _ _ _=>rfl
 have T:Mg mg:=⟨(PySem.W.mg_none_of X G z_isinstance),(PySem.W.mg_none_of X G z_int),(PySem.W.mg_none_of X G z_bool),(PySem.W.mg_none_of X G z_tuple),(PySem.W.mg_none_of X G z_len),(PySem.W.mg_none_of X G z_all)⟩
 have N:Nums mg:=⟨⟨t0,PySem.W.mg_of X G n0⟩,⟨t1,PySem.W.mg_of X G n1⟩,⟨t2,PySem.W.mg_of X G n2⟩,⟨t3,PySem.W.mg_of X G n3⟩,⟨t4,PySem.W.mg_of X G n4⟩,⟨t5,PySem.W.mg_of X G n5⟩,⟨t6,PySem.W.mg_of X G n6⟩,⟨t7,PySem.W.mg_of X G n7⟩⟩
 have N2:MS mg:=⟨⟨t8,PySem.W.mg_of X G n8⟩⟩
 refine ⟨PySem.W.fnOf "law" "law" (fU (top 74)) (cZ (top 74)) (aD (top 74)) .none kVL dcL pmL anL cdL ctL,fun s v=>.of_eq rfl,fun base kb _ hC hB=>?_⟩
 have L:Clss mg (fun i=>[C0,C1,C2,C3,C4,C5,C6,C7,C8,C9,C10,C11,C12,C13,C14,C15,C16,C17].getD i 0):=⟨PySem.W.mg_of X G k0,PySem.W.mg_of X G k1,PySem.W.mg_of X G k2,PySem.W.mg_of X G k3,PySem.W.mg_of X G k4,PySem.W.mg_of X G k5,PySem.W.mg_of X G k6,PySem.W.mg_of X G k7,PySem.W.mg_of X G k8,PySem.W.mg_of X G k9,PySem.W.mg_of X G k10,PySem.W.mg_of X G k11,PySem.W.mg_of X G k12,PySem.W.mg_of X G k13,PySem.W.mg_of X G k14,PySem.W.mg_of X G k15,PySem.W.mg_of X G k16,PySem.W.mg_of X G k17⟩
 have O3:=u9 (mg:=mg) kb L.n3 e3
 have K3:=yO d3
 have O4:=u9 (mg:=mg) kb L.n4 e4
 have K4:=yO d4
 have O5:=u9 (mg:=mg) kb L.n5 e5
 have K5:=yO d5
 have hcode:=BJ X G F73 m73 tb
 have C20:=aU (P:=l.prog) (w:=w) (base:=base) (rR F20 T) m20 F20.kp b20
 have C21:=aU (P:=l.prog) (w:=w) (base:=base) (nQ F21 C20) m21 F21.kp b21
 have C22:=aU (P:=l.prog) (w:=w) (base:=base) (mz F22 T) m22 F22.kp b22
 have C23:=aU (P:=l.prog) (w:=w) (base:=base) (nH F23 T C20 C22) m23 F23.kp b23
 have C34:=aU (P:=l.prog) (w:=w) (base:=base) (uc F34 T N C23) m34 F34.kp b34
 have C35:=aU (P:=l.prog) (w:=w) (base:=base) (qb F35 T N C34 C22) m35 F35.kp b35
 have C36:=aU (P:=l.prog) (w:=w) (base:=base) (nJ F36 T N C23) m36 F36.kp b36
 have C37:=aU (P:=l.prog) (w:=w) (base:=base) (kE F37 T N C36 C22) m37 F37.kp b37
 have C38:=aU (P:=l.prog) (w:=w) (base:=base) (qw F38 T N2 C23 C22) m38 F38.kp b38
 have C39:=aU (P:=l.prog) (w:=w) (base:=base) (Bh F39 N) m39 F39.kp b39
 have C40:=aU (P:=l.prog) (w:=w) (base:=base) (Bj F40 T N) m40 F40.kp b40
 have C41:=aU (P:=l.prog) (w:=w) (base:=base) (yR F41 T (PySem.W.mg_none_of X G z_range) C40 C39) m41 F41.kp b41
 have C42:=aU (P:=l.prog) (w:=w) (base:=base) (yU F42 (PySem.W.mg_none_of X G z_enumerate) C37 C38 C41) m42 F42.kp b42
 have C43:=aU (P:=l.prog) (w:=w) (base:=base) (Bl F43 C22 C35 C37 C38 C42) m43 F43.kp b43
 have C44:=vH (P:=l.prog) (w:=w) (base:=base) (um (Cs:=fun i=>[C0,C1,C2,C3,C4,C5,C6,C7,C8,C9,C10,C11,C12,C13,C14,C15,C16,C17].getD i 0) F44 O3 C43) m44 F44.kp b44
 have C45:=vH (P:=l.prog) (w:=w) (base:=base) (sZ F45 T N (PySem.W.mg_none_of X G z_enumerate) O4 O5 C44 C21 C39) m45 F45.kp b45
 have C47:=aU (P:=l.prog) (w:=w) (base:=base) (Aw F47 T) m47 F47.kp b47
 have C48:=aU (P:=l.prog) (w:=w) (base:=base) (yx F48 C47) m48 F48.kp b48
 have C49:=aU (P:=l.prog) (w:=w) (base:=base) (Ax F49) m49 F49.kp b49
 have C50:=aU (P:=l.prog) (w:=w) (base:=base) (yE F50 T (PySem.W.mg_none_of X G z_range) C49) m50 F50.kp b50
 have C51:=aU (P:=l.prog) (w:=w) (base:=base) (qz F51 T (PySem.W.mg_none_of X G z_range) (PySem.W.mg_none_of X G z_min) C49) m51 F51.kp b51
 have C52:=aU (P:=l.prog) (w:=w) (base:=base) (yV F52 (PySem.W.mg_none_of X G z_enumerate) (PySem.W.mg_none_of X G z_range)) m52 F52.kp b52
 have C53:=aU (P:=l.prog) (w:=w) (base:=base) (wK F53 T (PySem.W.mg_none_of X G z_range) (PySem.W.mg_none_of X G z_min)) m53 F53.kp b53
 have C54:=aU (P:=l.prog) (w:=w) (base:=base) (Bq F54 (PySem.W.mg_none_of X G z_range)) m54 F54.kp b54
 have SR:=aU (P:=l.prog) (w:=w) (base:=base) (sO F55 (PySem.W.mg_none_of X G z_enumerate) C52 C53 C54) m55 F55.kp b55
 have SO:=aU (P:=l.prog) (w:=w) (base:=base) (Br (sO F55 (PySem.W.mg_none_of X G z_enumerate) C52 C53 C54)) m55 F55.kp b55
 have C56:=aU (P:=l.prog) (w:=w) (base:=base) (Dv F56 T (PySem.W.mg_none_of X G z_max) C49) m56 F56.kp b56
 have C57:=aU (P:=l.prog) (w:=w) (base:=base) (za F57 T (PySem.W.mg_none_of X G z_range) C49 C56 SO) m57 F57.kp b57
 have C58:=aU (P:=l.prog) (w:=w) (base:=base) (zf F58 T C50 C51 C57) m58 F58.kp b58
 have C59:=Bw (P:=l.prog) (w:=w) (base:=base) (Be F59 T (PySem.W.mg_none_of X G z_ValueError) L) m59 F59.kp b59
 have C60:=aU (P:=l.prog) (w:=w) (base:=base) (Bg (kk:=9) F60 L C59) m60 F60.kp b60
 have C61:=aU (P:=l.prog) (w:=w) (base:=base) (wH F61 T) m61 F61.kp b61
 have C62:=aU (P:=l.prog) (w:=w) (base:=base) (rT F62 C61) m62 F62.kp b62
 have C63:=aU (P:=l.prog) (w:=w) (base:=base) (rW F63 T C62) m63 F63.kp b63
 have C64:=aU (P:=l.prog) (w:=w) (base:=base) (nM F64 T C63) m64 F64.kp b64
 have C65:=aU (P:=l.prog) (w:=w) (base:=base) (mD F65 T (PySem.W.mg_none_of X G z_zip) C62) m65 F65.kp b65
 have C66:=aU (P:=l.prog) (w:=w) (base:=base) (jO F66 T C65) m66 F66.kp b66
 have C67:=aU (P:=l.prog) (w:=w) (base:=base) (sV F67 T C61) m67 F67.kp b67
 have C68:=aU (P:=l.prog) (w:=w) (base:=base) (nP F68 T C67) m68 F68.kp b68
 have C69:=aU (P:=l.prog) (w:=w) (base:=base) (sW F69 T C64 C66 C68 SO) m69 F69.kp b69
 have C70:=aU (P:=l.prog) (w:=w) (base:=base) (Dn F70 C49) m70 F70.kp b70
 have S0:=aU (P:=l.prog) (w:=w) (base:=base) (ud (f:=f71) (fd:=fd71)) m71 F71.kp b71
 have S1:=aU (P:=l.prog) (w:=w) (base:=base) (iG (k:=0) F71 T (PySem.W.mg_none_of X G z_list) C49 C61 C70 S0) m71 F71.kp b71
 have S2:=aU (P:=l.prog) (w:=w) (base:=base) (iG (k:=1) F71 T (PySem.W.mg_none_of X G z_list) C49 C61 C70 S1) m71 F71.kp b71
 have S3:=aU (P:=l.prog) (w:=w) (base:=base) (iG (k:=2) F71 T (PySem.W.mg_none_of X G z_list) C49 C61 C70 S2) m71 F71.kp b71
 have S4:=aU (P:=l.prog) (w:=w) (base:=base) (iG (k:=3) F71 T (PySem.W.mg_none_of X G z_list) C49 C61 C70 S3) m71 F71.kp b71
 have C72:=aU (P:=l.prog) (w:=w) (base:=base) (Ay F72 (PySem.W.mg_none_of X G z_repr)) m72 F72.kp b72
 have C73:=aU (P:=l.prog) (w:=w) (base:=base) (zG F73 hcode hC hB T (PySem.W.mg_none_of X G z_repr) (PySem.W.mg_none_of X G z_list) (PySem.W.mg_none_of X G z_sorted) (PySem.W.mg_none_of X G z_range) (fun j hj=>by rcases hj with rfl | rfl | rfl; exact K3; exact K4; exact K5) C60 C45 C69 C62 SR C72) m73 F73.kp b73
 exact DG FL T (PySem.W.mg_none_of X G z_range) (PySem.W.mg_none_of X G z_max) (PySem.W.mg_none_of X G z_min) C48 C58 C49 S4 C70 C73
theorem walk {l:PySem.W.OpenLaw} {q:Program} {loose:List Str} {XP:(Str→Option Value)→Heap→Prop} {YP:World→Heap→Prop} {d dr:DefRec} {K:Params→PySem.W.Frag} {c T0:Addr} (hn:l.most=some 63) (hdf:d.params.defaults=[])
  (hY:∀ (w:World) (h:Heap),YP w h→(K w.params).In h) (hfd:(PyProof.Rows.recsOf q).find? (fun e=>e.name == ("_law_right" : Str))=some dr) (htb:∀ p:Params,PySem.W.tabIn (K p) "_law_right" = some (c,T0)) (hnt:∀ p:Params,PySem.W.noTabs (K p)=true)
  (F:∀ (w:World) (mg:Str→Option Value) (fa:Addr) (h:Heap),(K w.params).In h→h.Ns mainGlobals mg→mg d.name=some (.ref fa) →
   ∃ fd:FuncData,(∀ (s:Shared) (u:Value),BindsTo s fd ⟨[u],[]⟩ [("_law_script",u)])∧∀ base:Heap,(K w.params).In base→base.Ns mainGlobals mg→PySem.W.CodeHd base c T0→base.BuiltinsAt mg T0→FnOk l.prog w (K w.params) mg base CX0 63 fa fd ["_law_script"] (vD (K w.params) T0)) :
  PySem.W.WalkO q loose XP YP l.row.toRowW d [] (fun f vs=>PySem.call f vs) :=
 L2.walk_ofT (n:=63) (k:=63) (x:="_law_script") (nm:="_law_right") (qn:=qnT) (CX:=fun _=>CX0) (sp:=fun w=>vD (K w.params) T0) hn (by decide) hdf ⟨rfl,by decide,by decide,rfl⟩ hY hfd htb hnt F (fun _ _ a ns hl hS hT=>⟨a,ns,rfl,hS,hl,hT,fun _=>rfl⟩) fun _ _ _ _ _ z=>z
end K04
open PySem PySem.W PyProof.Rows
set_option maxRecDepth 100000 in
set_option maxHeartbeats 0 in
theorem PySem.Challenge.cw_woolyears_k04_holdings_told_holds : PySem.Challenge.rw_woolyears_k04_holdings_told.Holds := by
 w_on; o_law; k_head; (case hw=>w_witness2)
 k_fill
 refine' K04.walk (l:=PySem.Challenge.rw_woolyears_k04_holdings_told) rfl rfl (fun w h Y=>PySem.W.km_in_of Y) ?fd ?tb ?nt ?F
 case fd=>exact rfl
 case tb =>
  intro p
  refine' K04.tab_mk ?a ?l ?c ?m ?v
  (case a=>k_is); (case l=>k_is); (case c=>exact rfl); (case m=>k_is); (case v=>exact rfl)
 case nt =>
  intro p
  kernel_rfl
 case F =>
  intro w mg fa h KX G hmg
  refine' K04.all_mk KX G hmg ?h20 ?h21 ?h22 ?h23 ?h34 ?h35 ?h36 ?h37 ?h38 ?h39 ?h40 ?h41 ?h42 ?h43 ?h44 ?h45 ?h47 ?h48 ?h49 ?h50 ?h51 ?h52 ?h53 ?h54 ?h55 ?h56 ?h57 ?h58 ?h59 ?h60 ?h61 ?h62 ?h63 ?h64 ?h65 ?h66 ?h67 ?h68 ?h69 ?h70 ?h71 ?h72 ?h73 ?aL ?lL ?cL ?kL ?n0 ?n1 ?n2 ?n3 ?n4 ?n5 ?n6 ?n7 ?n8 ?z0 ?z1 ?z2 ?z3 ?z4 ?z5 ?z6 ?z7 ?z8 ?z9 ?z10 ?z11 ?z12 ?z13 ?z14 ?k0 ?k1 ?k2 ?k3 ?k4 ?k5 ?k6 ?k7 ?k8 ?k9 ?k10 ?k11 ?k12 ?k13 ?k14 ?k15 ?k16 ?k17 ?e3 ?d3 ?e4 ?d4 ?e5 ?d5 ?tb
  case h20 =>
   refine' K04.has_mk ?a ?l ?c ?k
   (case a=>k_is); (case l=>k_is); (case c=>k_is); (case k=>k_is)
  case h21 =>
   refine' K04.has_mk ?a ?l ?c ?k
   (case a=>k_is); (case l=>k_is); (case c=>k_is); (case k=>k_is)
  case h22 =>
   refine' K04.has_mk ?a ?l ?c ?k
   (case a=>k_is); (case l=>k_is); (case c=>k_is); (case k=>k_is)
  case h23 =>
   refine' K04.has_mk ?a ?l ?c ?k
   (case a=>k_is); (case l=>k_is); (case c=>k_is); (case k=>k_is)
  case h34 =>
   refine' K04.has_mk ?a ?l ?c ?k
   (case a=>k_is); (case l=>k_is); (case c=>k_is); (case k=>k_is)
  case h35 =>
   refine' K04.has_mk ?a ?l ?c ?k
   (case a=>k_is); (case l=>k_is); (case c=>k_is); (case k=>k_is)
  case h36 =>
   refine' K04.has_mk ?a ?l ?c ?k
   (case a=>k_is); (case l=>k_is); (case c=>k_is); (case k=>k_is)
  case h37 =>
   refine' K04.has_mk ?a ?l ?c ?k
   (case a=>k_is); (case l=>k_is); (case c=>k_is); (case k=>k_is)
  case h38 =>
   refine' K04.has_mk ?a ?l ?c ?k
   (case a=>k_is); (case l=>k_is); (case c=>k_is); (case k=>k_is)
  case h39 =>
   refine' K04.has_mk ?a ?l ?c ?k
   (case a=>k_is); (case l=>k_is); (case c=>k_is); (case k=>k_is)
  case h40 =>
   refine' K04.has_mk ?a ?l ?c ?k
   (case a=>k_is); (case l=>k_is); (case c=>k_is); (case k=>k_is)
  case h41 =>
   refine' K04.has_mk ?a ?l ?c ?k
   (case a=>k_is); (case l=>k_is); (case c=>k_is); (case k=>k_is)
  case h42 =>
   refine' K04.has_mk ?a ?l ?c ?k
   (case a=>k_is); (case l=>k_is); (case c=>k_is); (case k=>k_is)
  case h43 =>
   refine' K04.has_mk ?a ?l ?c ?k
   (case a=>k_is); (case l=>k_is); (case c=>k_is); (case k=>k_is)
  case h44 =>
   refine' K04.has_mk ?a ?l ?c ?k
   (case a=>k_is); (case l=>k_is); (case c=>k_is); (case k=>k_is)
  case h45 =>
   refine' K04.has_mk ?a ?l ?c ?k
   (case a=>k_is); (case l=>k_is); (case c=>k_is); (case k=>k_is)
  case h47 =>
   refine' K04.has_mk ?a ?l ?c ?k
   (case a=>k_is); (case l=>k_is); (case c=>k_is); (case k=>k_is)
  case h48 =>
   refine' K04.has_mk ?a ?l ?c ?k
   (case a=>k_is); (case l=>k_is); (case c=>k_is); (case k=>k_is)
  case h49 =>
   refine' K04.has_mk ?a ?l ?c ?k
   (case a=>k_is); (case l=>k_is); (case c=>k_is); (case k=>k_is)
  case h50 =>
   refine' K04.has_mk ?a ?l ?c ?k
   (case a=>k_is); (case l=>k_is); (case c=>k_is); (case k=>k_is)
  case h51 =>
   refine' K04.has_mk ?a ?l ?c ?k
   (case a=>k_is); (case l=>k_is); (case c=>k_is); (case k=>k_is)
  case h52 =>
   refine' K04.has_mk ?a ?l ?c ?k
   (case a=>k_is); (case l=>k_is); (case c=>k_is); (case k=>k_is)
  case h53 =>
   refine' K04.has_mk ?a ?l ?c ?k
   (case a=>k_is); (case l=>k_is); (case c=>k_is); (case k=>k_is)
  case h54 =>
   refine' K04.has_mk ?a ?l ?c ?k
   (case a=>k_is); (case l=>k_is); (case c=>k_is); (case k=>k_is)
  case h55 =>
   refine' K04.has_mk ?a ?l ?c ?k
   (case a=>k_is); (case l=>k_is); (case c=>k_is); (case k=>k_is)
  case h56 =>
   refine' K04.has_mk ?a ?l ?c ?k
   (case a=>k_is); (case l=>k_is); (case c=>k_is); (case k=>k_is)
  case h57 =>
   refine' K04.has_mk ?a ?l ?c ?k
   (case a=>k_is); (case l=>k_is); (case c=>k_is); (case k=>k_is)
  case h58 =>
   refine' K04.has_mk ?a ?l ?c ?k
   (case a=>k_is); (case l=>k_is); (case c=>k_is); (case k=>k_is)
  case h59 =>
   refine' K04.has_mk ?a ?l ?c ?k
   (case a=>k_is); (case l=>k_is); (case c=>k_is); (case k=>k_is)
  case h60 =>
   refine' K04.has_mk ?a ?l ?c ?k
   (case a=>k_is); (case l=>k_is); (case c=>k_is); (case k=>k_is)
  case h61 =>
   refine' K04.has_mk ?a ?l ?c ?k
   (case a=>k_is); (case l=>k_is); (case c=>k_is); (case k=>k_is)
  case h62 =>
   refine' K04.has_mk ?a ?l ?c ?k
   (case a=>k_is); (case l=>k_is); (case c=>k_is); (case k=>k_is)
  case h63 =>
   refine' K04.has_mk ?a ?l ?c ?k
   (case a=>k_is); (case l=>k_is); (case c=>k_is); (case k=>k_is)
  case h64 =>
   refine' K04.has_mk ?a ?l ?c ?k
   (case a=>k_is); (case l=>k_is); (case c=>k_is); (case k=>k_is)
  case h65 =>
   refine' K04.has_mk ?a ?l ?c ?k
   (case a=>k_is); (case l=>k_is); (case c=>k_is); (case k=>k_is)
  case h66 =>
   refine' K04.has_mk ?a ?l ?c ?k
   (case a=>k_is); (case l=>k_is); (case c=>k_is); (case k=>k_is)
  case h67 =>
   refine' K04.has_mk ?a ?l ?c ?k
   (case a=>k_is); (case l=>k_is); (case c=>k_is); (case k=>k_is)
  case h68 =>
   refine' K04.has_mk ?a ?l ?c ?k
   (case a=>k_is); (case l=>k_is); (case c=>k_is); (case k=>k_is)
  case h69 =>
   refine' K04.has_mk ?a ?l ?c ?k
   (case a=>k_is); (case l=>k_is); (case c=>k_is); (case k=>k_is)
  case h70 =>
   refine' K04.has_mk ?a ?l ?c ?k
   (case a=>k_is); (case l=>k_is); (case c=>k_is); (case k=>k_is)
  case h71 =>
   refine' K04.has_mk ?a ?l ?c ?k
   (case a=>k_is); (case l=>k_is); (case c=>k_is); (case k=>k_is)
  case h72 =>
   refine' K04.has_mk ?a ?l ?c ?k
   (case a=>k_is); (case l=>k_is); (case c=>k_is); (case k=>k_is)
  case h73 =>
   refine' K04.has_mk ?a ?l ?c ?k
   (case a=>k_is); (case l=>k_is); (case c=>k_is); (case k=>k_is)
  (case aL=>k_is); (case lL=>k_is); (case cL=>k_is); (case kL=>k_is)
  (case n0=>k_is)
  (case n1=>k_is)
  (case n2=>k_is)
  (case n3=>k_is)
  (case n4=>k_is)
  (case n5=>k_is)
  (case n6=>k_is)
  (case n7=>k_is)
  (case n8=>k_is)
  (case z0=>k_is)
  (case z1=>k_is)
  (case z2=>k_is)
  (case z3=>k_is)
  (case z4=>k_is)
  (case z5=>k_is)
  (case z6=>k_is)
  (case z7=>k_is)
  (case z8=>k_is)
  (case z9=>k_is)
  (case z10=>k_is)
  (case z11=>k_is)
  (case z12=>k_is)
  (case z13=>k_is)
  (case z14=>k_is)
  (case k0=>k_is)
  (case k1=>k_is)
  (case k2=>k_is)
  (case k3=>k_is)
  (case k4=>k_is)
  (case k5=>k_is)
  (case k6=>k_is)
  (case k7=>k_is)
  (case k8=>k_is)
  (case k9=>k_is)
  (case k10=>k_is)
  (case k11=>k_is)
  (case k12=>k_is)
  (case k13=>k_is)
  (case k14=>k_is)
  (case k15=>k_is)
  (case k16=>k_is)
  (case k17=>k_is)
  (case e3=>kernel_rfl); (case d3=>kernel_rfl)
  (case e4=>kernel_rfl); (case d4=>kernel_rfl)
  (case e5=>kernel_rfl); (case d5=>kernel_rfl)
  case tb =>
   refine' K04.tab_mk ?a ?l ?c ?m ?v
   (case a=>k_is); (case l=>k_is); (case c=>exact rfl); (case m=>k_is); (case v=>exact rfl)

