import PyProof.Rows.All
import Wide.All
import OpenK.AllK
import Wide.FinOn
import Lean
import PyProof.EqAt
import PyProof.EqKinds
import PyProof.TupleCall
import PyProof.StrLawsRepr
import PyProof.ZipIter
import PySem.Challenge.RW_woolyears_k74_whole_a_keeper_is_its_book
import PyProof.Rows.SortRunsK
import PyProof.AttrMissHeap
import PyProof.SeqRoads
import PyProof.ListOps
set_option compiler.extract_closed false
set_option Elab.async false
set_option linter.all false
set_option maxRecDepth 100000
set_option maxHeartbeats 4000000
noncomputable section
def zA0:=@List.getElem?_eq_getElem
def zA1:=@List.length_map
def zA2:=@List.length_append
def zA3:=@Nat.le_refl
def zA4:=@List.map_append
def zA5:=@List.mem_map
def zA6:=@List.mem_append
def zA7:=@List.getD_eq_getElem?_getD
def zA8:=@List.size_toArray
def zA9:=@Array.length_toList
def zAa:=@List.getElem?_eq_some_iff
def zAb:=@List.getElem?_map
def zAc:=@Bool.and_eq_true
def zAd:=@List.length_take
def zAe:=@List.length_cons
def zAf:=@List.append_assoc
def zAg:=@Bool.false_ne_true
def zAh:=@List.getElem_mem
def zAi:=@Int.toNat_natCast
def zAj:=@List.take_add_one
def zAk:=@List.map_cons
def zAl:=@Option.some.inj
def zAm:=@List.take_length
def zAn:=@List.append_nil
def zAo:=@List.mem_cons
def zAp:=@Nat.zero_le
def zAq:=@List.mem_filter
def zAr:=@List.map_map
def zAs:=@List.length_zip
namespace L2
open PySem PySem.Spec PyProof.Rows

abbrev Key:=Sum Int Str
def lR:Key->Value->Bool
 | .inl k,v=>Value.isInt k v
 | .inr x,v=>Value.isStrOf x v
def Hy (w:World):Key->Int
 | .inl k=>hashInt k
 | .inr x=>hashStr w x
theorem cg:∀ {k:Key} {v:Value},lR k v=true->(∃ i t,k=Sum.inl i/\v=Value.int i t)\/(∃ x t,k=Sum.inr x/\v=Value.str x t)
 | .inl i,v,h=>by
  obtain ⟨t,e⟩:=Value.isInt_shape (k:=i) (v:=v) h
  exact .inl ⟨i,t,rfl,e⟩
 | .inr x,v,h=>by
  obtain ⟨t,e⟩:=Value.isStrOf_shape (x:=x) (v:=v) h
  exact .inr ⟨x,t,rfl,e⟩
theorem wQ (i:Int)(t:Tok):lR (.inl i) (.int i t)=true:=by simp [lR,Value.isInt]
theorem wR (x:Str)(t:Tok):lR (.inr x) (.str x t)=true:=by simp [lR,Value.isStrOf]
theorem Dz (a b:Int):decide ((Sum.inl a:Key)=Sum.inl b)=(a == b):=by
 by_cases e:a=b
 ·subst e;simp
 ·have h:¬ (Sum.inl a:Key)=Sum.inl b:=fun q=>e (Sum.inl.inj q)
  rw [decide_eq_false h]
  exact (beq_eq_false_iff_ne.mpr e).symm
theorem DG (a b:Str):decide ((Sum.inr a:Key)=Sum.inr b)=decide (a=b):=by
 by_cases e:a=b
 ·subst e;simp
 ·have h:¬ (Sum.inr a:Key)=Sum.inr b:=fun q=>e (Sum.inr.inj q)
  rw [decide_eq_false h,decide_eq_false e]
theorem DK (a:Int)(b:Str):decide ((Sum.inl a:Key)=Sum.inr b)=false:=decide_eq_false (fun q=>nomatch q)
theorem DN (a:Str)(b:Int):decide ((Sum.inr a:Key)=Sum.inl b)=false:=decide_eq_false (fun q=>nomatch q)

def bW (prog:Program)(w:World):PySem.KeyKind prog w Key where
 is:=lR
 hash:=Hy w
 inj:=fun v a b ha hb=>by
  rcases cg ha with ⟨i,t,rfl,rfl⟩ | ⟨x,t,rfl,rfl⟩
  ·rcases cg hb with ⟨j,u,rfl,e⟩ | ⟨y,u,rfl,e⟩
   ·injection e with e1 _;rw [e1]
   ·exact nomatch e
  ·rcases cg hb with ⟨j,u,rfl,e⟩ | ⟨y,u,rfl,e⟩
   ·exact nomatch e
   ·injection e with e1 _;rw [e1]
 byValue:=fun k v h=>by
  rcases cg h with ⟨i,t,rfl,rfl⟩ | ⟨x,t,rfl,rfl⟩ <;> rfl
 pyHash:=fun hv h=>by
  rcases cg hv with ⟨i,t,rfl,rfl⟩ | ⟨x,t,rfl,rfl⟩
  ·exact wpAny_pyHash_int h
  ·exact wpAny_pyHash_str h
 eqBool:=fun hu hv h=>by
  rcases cg hu with ⟨i,t,rfl,rfl⟩ | ⟨x,t,rfl,rfl⟩
  ·rcases cg hv with ⟨j,u,rfl,rfl⟩ | ⟨y,u,rfl,rfl⟩
   ·rw [Dz] at h;exact wpAny_eqBool_int h
   ·rw [DK] at h;exact SeqAt.EqAt.int_str i t y u _ _ _ _ h
  ·rcases cg hv with ⟨j,u,rfl,rfl⟩ | ⟨y,u,rfl,rfl⟩
   ·rw [DN] at h;exact SeqAt.EqAt.str_int x t j u _ _ _ _ h
   ·rw [DG] at h;exact wpAny_eqBool_str h
 «strs»:=fun k x t v h=>by
  rcases cg h with ⟨i,u,rfl,e⟩ | ⟨y,u,rfl,e⟩
  ·exact nomatch e
  ·injection e with e1 _
   subst e1
   cases v <;> rfl

theorem rG (prog:Program)(w:World)(i:Int)(t:Tok):(bW prog w).is (.inl i) (.int i t)=true:=wQ i t
theorem rH (prog:Program)(w:World)(x:Str)(t:Tok):(bW prog w).is (.inr x) (.str x t)=true:=wR x t
end L2

namespace L2
open PySem PySem.Spec PyProof.Rows

inductive V where
 | non | bl (b:Bool) | int (i:Int) | str (x:Str) | byt (b:Array UInt8) | flt (b:UInt64) | ref (a:Addr) | ty (n:String)
 deriving DecidableEq

def RelV:V->Value->Prop
 | .non,u=>u=Value.none
 | .bl b,u=>u=Value.bool b
 | .int i,u=>∃ t,u=Value.int i t
 | .str x,u=>∃ t,u=Value.str x t
 | .byt b,u=>∃ t,u=Value.bytes b t
 | .flt b,u=>∃ t,u=Value.float b t
 | .ref a,u=>u=Value.ref a
 | .ty n,u=>u=Value.type n

abbrev Vals:List V->List Value->Prop:=Paired RelV
theorem Vals.length {xs:List V}{us:List Value}(r:Vals xs us):xs.length=us.length:=Paired.length r
theorem Vals.get:∀ {xs:List V} {us:List Value} {i:Nat} {x:V},Vals xs us->xs[i]?=some x->∃ u,us[i]?=some u/\RelV x u
 | _,_,_,_,.nil,e=>by simp at e
 | _,_,0,_,.cons r _,e=>by simp at e;subst e;exact ⟨_,rfl,r⟩
 | _,_,i+1,x,.cons _ t,e=>by
  obtain ⟨u,h1,h2⟩:=Vals.get (i:=i) (x:=x) t (by simpa using e)
  exact ⟨u,by simpa using h1,h2⟩
theorem Vals.set {x:V}{u:Value}(r:RelV x u):∀ {xs:List V} {us:List Value} (i:Nat),Vals xs us->Vals (xs.set i x) (us.set i u)
 | _,_,_,.nil=>.nil
 | _,_,0,.cons _ t=>.cons r t
 | _,_,i+1,.cons q t=>.cons q (Vals.set r i t)
theorem Vals.append:∀ {xs ys:List V} {us ws:List Value},Vals xs us->Vals ys ws->Vals (xs++ys) (us++ws)
 | _,_,_,_,.nil,s=>s
 | _,_,_,_,.cons r t,s=>.cons r (Vals.append t s)
theorem Vals.take:∀ {xs:List V} {us:List Value} (n:Nat),Vals xs us->Vals (xs.take n) (us.take n)
 | _,_,0,_=>.nil
 | _,_,_+1,.nil=>.nil
 | _,_,n+1,.cons r t=>.cons r (Vals.take n t)
theorem Vals.drop:∀ {xs:List V} {us:List Value} (n:Nat),Vals xs us->Vals (xs.drop n) (us.drop n)
 | _,_,0,r=>r
 | _,_,_+1,.nil=>.nil
 | _,_,n+1,.cons _ t=>Vals.drop n t
def RelO:Option V->Option Value->Prop
 | some v,some u=>RelV v u
 | none,none=>True
 | _,_=>False
def KV {κ:Type}:List (κ×V)->List (κ×Value)->Prop:=Paired fun (p:κ×V) (q:κ×Value)=>p.1=q.1/\RelV p.2 q.2

def kV:Key->V
 | .inl i=>.int i
 | .inr x=>.str x

inductive HO where
  | lst (xs:List V)
  | tup (xs:List V)
  | dK (kvs:List (Key×V)) | dT (kvs:List (List Key×V))
  | set (S:Int->Bool) (n:Nat)
  | ins (C dx:Addr) (fs:List (Str×V))
  | own (x:Addr)
  | xd (fs:List (Str×V))
  | met (f x:Addr)
  | rng (lo hi:Int)
  | frz (o:Obj) (u:HO)
  | tbl (ps:Array Value)
  | ext (φ:Heap->Prop)

abbrev Hp:=Addr->Option HO
def upd (H:Hp)(a:Addr)(o:HO):Hp:=fun b=>if b=a then some o else H b
theorem ao {H:Hp}{a:Addr}{o:HO}:upd H a o a=some o:=by unfold upd;rw [if_pos rfl]
theorem aD {H:Hp}{a b:Addr}{o:HO}(h:b≠a):upd H a o b=H b:=by unfold upd;rw [if_neg h]
theorem Fy {H:Hp}{a b:Addr}{o u:HO}(h:H a=some o)(h':H b=some u)(d:o≠u):a≠b:=by
 intro e;subst e;rw [h] at h';exact d (zAl h')
theorem aF {H:Hp}{a b:Addr}{o:HO}(h:H a=some o)(h':H b=none):a≠b:=by
 intro e;subst e;rw [h] at h';cases h'

section
variable (P:Program)(w:World)
def ObjOk (H:Hp)(h:Heap)(a:Addr):HO->Prop
 | .lst xs=>xs.length<=sizeLine/\∃ (its:List Value) (n:Nat),Vals xs its/\h.get? a=some { cls:=.type "list",data:=.seq its.toArray n }
 | .tup xs=>xs.length<=sizeLine/\∃ its:List Value,Vals xs its/\IsTup h a its.toArray
 | .dK kvs=>kvs.length<=sizeLine/\(a == sysModules)=false/\∃ vs,KV kvs vs/\h.DictOf (bW P w) a vs
 | .dT kvs=>kvs.length<=sizeLine/\(a == sysModules)=false/\∃ xs:List (List Key×Addr×Value),
   Paired (fun (p:List Key×V) (q:List Key×Addr×Value)=>p.1=q.1/\H q.2.1=some (.tup (p.1.map kV))/\RelV p.2 q.2.2) kvs xs /\
   ∃ o es ep,h.get? a=some o/\o.ExactDict/\o.data=.dict es ep/\es.toList=xs.map (entryOfKey (tupleKind (bW P w)))/\(xs.map (·.1)).Nodup
 | .set S n=>h.SetOf (intKind P w) a S n
 | .ins C dx fs=>H dx=some (.own a)/\fs.length<=1000/\dx≠a/\h.get? a=some (PySem.W.instObj C dx) /\
   ∃ mA,h.Ns1 dx mA/\(∀ f,RelO (fs.lookup f) (mA f))/\PySem.Within mA (fs.map (·.1))
 | .own _=>∃ o,h.get? a=some o
 | .xd fs=>∃ mA,h.Ns1 a mA/\∀ f,RelO (fs.lookup f) (mA f)
 | .rng lo hi=>∃ t u v,h.get? a=some { cls:=.type "range",data:=.fields #[.int lo t,.int hi u,.int 1 v] }
 | .frz o u=>h.get? a=some o/\ObjOk H h a u
 | .tbl ps=>h.get? a=some { cls:=.none,data:=.fields ps }
 | .met f x=>h.get? a=some (PySem.W.methodObj (.ref f) (.ref x))
 | .ext φ=>φ h/\(∃ o,h.get? a=some o)/\∀ h1 h2:Heap,φ h1->(∀ o,h1.get? a=some o->h2.get? a=some o)->φ h2
def HOk (H:Hp)(h:Heap):Prop:=∀ a o,H a=some o->ObjOk P w H h a o
end

section
variable {P:Program}{w:World}{H H':Hp}{h h':Heap}{a:Addr}{o:HO}
theorem ObjOk.lt (x:ObjOk P w H h a o):a < h.objs.size:=by
 cases o with
 | lst xs=>obtain ⟨_,_,_,_,e⟩:=x;exact Heap.lt_size e
 | tup xs=>obtain ⟨_,_,_,p⟩:=x;exact p.lt
 | dK kvs=>obtain ⟨_,_,_,_,o,_,_,e,_⟩:=x;exact Heap.lt_size e
 | dT kvs=>obtain ⟨_,_,_,_,o,_,_,e,_⟩:=x;exact Heap.lt_size e
 | set S n=>obtain ⟨o,_,_,_,e,_⟩:=x;exact Heap.lt_size e
 | ins C dx fs=>obtain ⟨_,_,_,e,_⟩:=x;exact Heap.lt_size e
 | own y=>obtain ⟨_,e⟩:=x;exact Heap.lt_size e
 | xd fs=>obtain ⟨_,⟨_,_,_,e,_⟩,_⟩:=x;exact Heap.lt_size e
 | rng lo hi=>obtain ⟨_,_,_,e⟩:=x;exact Heap.lt_size e
 | frz ob u=>obtain ⟨e,_⟩:=x;exact Heap.lt_size e
 | tbl ps=>exact Heap.lt_size (show h.get? a=some _ from x)
 | met f y=>exact Heap.lt_size (show h.get? a=some _ from x)
 | ext φ=>obtain ⟨_,⟨_,e⟩,_⟩:=x;exact Heap.lt_size e
theorem Paired.mapP {α β:Type}{F G:α->β->Prop}:∀ {l₁:List α} {l₂:List β},Paired F l₁ l₂->(∀ a b,F a b->G a b)->Paired G l₁ l₂
 | _,_,.nil,_=>.nil
 | _,_,.cons r t,f=>.cons (f _ _ r) (Paired.mapP t f)
theorem ObjOk.stay (x:ObjOk P w H h a o)(k:∀ b u,(b=a\/H b=some (.own a))->h.get? b=some u->h'.get? b=some u)
  (ho:∀ b,H b=some (.own a)->H' b=some (.own a)) (ht:∀ b xs,H b=some (.tup xs)->H' b=some (.tup xs)):ObjOk P w H' h' a o:=by
 induction o with
 | lst xs=>obtain ⟨z,its,n,r,e⟩:=x;exact ⟨z,its,n,r,k _ _ (.inl rfl) e⟩
 | tup xs=>obtain ⟨z,its,r,ob,e,c⟩:=x;exact ⟨z,its,r,ob,k _ _ (.inl rfl) e,c⟩
 | dK kvs=>obtain ⟨z,y,vs,r,ob,es,ep,e,c⟩:=x;exact ⟨z,y,vs,r,ob,es,ep,k _ _ (.inl rfl) e,c⟩
 | dT kvs =>
  obtain ⟨z,y,xs,r,ob,es,ep,e,c⟩:=x
  exact ⟨z,y,xs,Paired.mapP r fun p q z=>⟨z.1,ht _ _ z.2.1,z.2.2⟩,ob,es,ep,k _ _ (.inl rfl) e,c⟩
 | set S n=>obtain ⟨ob,es,ep,t,e,c⟩:=x;exact ⟨ob,es,ep,t,k _ _ (.inl rfl) e,c⟩
 | ins C dx fs =>
  obtain ⟨d,z,ne,e,mA,⟨od,es,ep,e2,c⟩,r⟩:=x
  exact ⟨ho _ d,z,ne,k _ _ (.inl rfl) e,mA,⟨od,es,ep,k _ _ (.inr d) e2,c⟩,r⟩
 | own y=>obtain ⟨ob,e⟩:=x;exact ⟨ob,k _ _ (.inl rfl) e⟩
 | xd fs=>obtain ⟨mA,⟨od,es,ep,e,c⟩,r⟩:=x;exact ⟨mA,⟨od,es,ep,k _ _ (.inl rfl) e,c⟩,r⟩
 | rng lo hi=>obtain ⟨t,u,v,e⟩:=x;exact ⟨t,u,v,k _ _ (.inl rfl) e⟩
 | frz ob u ih=>obtain ⟨e,q⟩:=x;exact ⟨k _ _ (.inl rfl) e,ih q⟩
 | tbl ps =>
  have e:h.get? a=some { cls:=.none,data:=.fields ps }:=x
  show h'.get? a=some { cls:=.none,data:=.fields ps }
  exact k a _ (.inl rfl) e
 | met f y =>
  have e:h.get? a=some (PySem.W.methodObj (.ref f) (.ref y)):=x
  show h'.get? a=some (PySem.W.methodObj (.ref f) (.ref y))
  exact k a _ (.inl rfl) e
 | ext φ=>obtain ⟨p,⟨o,e⟩,st⟩:=x;exact ⟨st _ _ p fun o q=>k _ _ (.inl rfl) q,⟨o,k _ _ (.inl rfl) e⟩,st⟩
theorem HOk.lt (x:HOk P w H h)(e:H a=some o):a < h.objs.size:=(x a o e).lt
theorem HOk.fresh (x:HOk P w H h)(e:h.objs.size<=a):H a=none:=by
 cases q:H a with
 | none=>rfl
 | some u=>exact absurd (Nat.lt_of_lt_of_le (x.lt q) e) (Nat.lt_irrefl _)
theorem HOk.kept (x:HOk P w H h)(k:∀ b u,h.get? b=some u->h'.get? b=some u):HOk P w H h':=fun a o e =>
 (x a o e).stay (fun b u _ q=>k b u q) (fun _ q=>q) fun _ _ q=>q
theorem HOk.laid (x:HOk P w H h)(k:∀ b u,h.get? b=some u->h'.get? b=some u)(hp:h.objs.size<=a)(new:ObjOk P w (upd H a o) h' a o):HOk P w (upd H a o) h':=fun b u e=>by
 have hn:=x.fresh hp
 by_cases hb:b=a
 ·subst hb;rw [ao] at e;cases e;exact new
 ·rw [aD hb] at e
  exact (x b u e).stay (fun c v _ q=>k c v q) (fun c q=>by rw [aD (aF q hn)];exact q) fun c xs q=>by rw [aD (aF q hn)];exact q
end

def Rd (H:Hp)(a:Addr)(u:HO):Prop:=H a=some u\/∃ o,H a=some (.frz o u)
theorem Rd.ok {P:Program}{w:World}{H:Hp}{h:Heap}{a:Addr}{u:HO}(r:Rd H a u)(x:HOk P w H h):ObjOk P w H h a u:=by
 rcases r with r | ⟨o,r⟩
 ·exact x a u r
 ·obtain ⟨_,q⟩:=x a _ r
  exact q
def Mut:Option HO->Prop
 | some (.lst _)=>True
 | some (.dK _)=>True
 | some (.dT _)=>True
 | some (.set _ _)=>True
 | some (.ins _ _ _)=>True
 | some (.ext _)=>True
 | _=>False
section
variable {P:Program}{w:World}{H:Hp}{h h':Heap}{x e:Addr}{o':HO}
theorem HOk.write (ok:HOk P w H h)(mu:Mut (H x))(he:e=x\/H e=some (.own x))(k:∀ b u,b≠e->h.get? b=some u->h'.get? b=some u)(heo:∃ u,h'.get? e=some u)
  (new:ObjOk P w (upd H x o') h' x o'):HOk P w (upd H x o') h':=fun b u q=>by
 have nown:∀ c y,H c=some (.own y)->c≠x:=fun c y r z=>by subst z;rw [r] at mu;exact mu
 have ntup:∀ c xs,H c=some (.tup xs)->c≠x:=fun c xs r z=>by subst z;rw [r] at mu;exact mu
 by_cases hb:b=x
 ·subst hb;rw [ao] at q;cases q;exact new
 ·rw [aD hb] at q
  by_cases hbe:b=e
  ·have q':H b=some (.own x):=by
    rcases he with z | z
    ·exact absurd (hbe.trans z) hb
    ·rw [hbe];exact z
   rw [q] at q';cases q'
   obtain ⟨v,hv⟩:=heo
   exact ⟨v,by rw [hbe];exact hv⟩
  ·refine (ok b u q).stay (fun c v hc r=>k c v ?_ r) (fun c r=>by rw [aD (nown c b r)];exact r) fun c xs r=>by rw [aD (ntup c xs r)];exact r
   rcases hc with rfl | hc
   ·exact hbe
   ·rintro rfl
    rcases he with z | z
    ·exact nown c b hc z
    ·rw [hc] at z;cases z;exact hb rfl
end

structure Un (fs ex:List Addr)(H H':Hp)(h h':Heap):Prop where
 keep:∀ b o,h.get? b=some o->H b=none->b ∉ fs->b ∉ ex->h'.get? b=some o
 slot:∀ b o,h.get? b=some o->H b=none->b∈fs->b ∉ ex->∃ sl,h'.get? b=some { o with slots:=sl }
 free:∀ b o,h.get? b=some o->H b=none->b ∉ ex->H' b=none
 there:∀ b o,h.get? b=some o->b ∉ ex->∃ o',h'.get? b=some o'
 tups:∀ b xs,H b=some (.tup xs)->H' b=some (.tup xs)
 frzs:∀ b o u,H b=some (.frz o u)->H' b=some (.frz o u)
 tbls:∀ b ps,H b=some (.tbl ps)->∃ more,H' b=some (.tbl (ps++more))
section
variable {fs fs' ex ex':List Addr}{H H1 H2:Hp}{h h1 h2 h':Heap}{a x e:Addr}{o:HO}
theorem Un.any (u:Un fs ex H H1 h h1){b:Addr}{ob:Obj}(q:h.get? b=some ob)(n:H b=none)(hx:b ∉ ex):∃ sl,h1.get? b=some { ob with slots:=sl }:=by
 by_cases hb:b∈fs
 ·exact u.slot b ob q n hb hx
 ·exact ⟨ob.slots,u.keep b ob q n hb hx⟩
theorem Un.kept (k:∀ b u,h.get? b=some u->h'.get? b=some u):Un fs ex H H h h' :=
 ⟨fun b ob q _ _ _=>k b ob q,fun b ob q _ _ _=>⟨ob.slots,k b ob q⟩,fun _ _ _ n _=>n,fun b ob q _=>⟨ob,k b ob q⟩,fun _ _ q=>q,fun _ _ _ q=>q,fun _ ps q=>⟨#[],by rw [q];simp⟩⟩
theorem Un.refl:Un fs ex H H h h:=Un.kept fun _ _ q=>q
theorem Un.laid (k:∀ b u,h.get? b=some u->h'.get? b=some u)(hp:h.objs.size<=a)(hn:H a=none):Un fs ex H (upd H a o) h h' where
 keep:=fun b u q _ _ _=>k b u q
 slot:=fun b u q _ _ _=>⟨u.slots,k b u q⟩
 free:=fun b u q n _=>by rw [aD (Nat.ne_of_lt (Nat.lt_of_lt_of_le (Heap.lt_size q) hp))];exact n
 there:=fun b u q _=>⟨u,k b u q⟩
 tups:=fun b xs q=>by rw [aD (aF q hn)];exact q
 frzs:=fun b u xs q=>by rw [aD (aF q hn)];exact q
 tbls:=fun b ps q=>⟨#[],by rw [aD (aF q hn),q];simp⟩
theorem Un.write (mu:Mut (H x))(he:e=x\/H e=some (.own x))(k:∀ b u,b≠e->h.get? b=some u->h'.get? b=some u)(heo:∃ u,h'.get? e=some u):Un fs ex H (upd H x o) h h':=by
 have hx:∀ b,H b=none->b≠x:=fun b n z=>by subst z;rw [n] at mu;exact mu
 have hb:∀ b,H b=none->b≠e:=fun b n z=>by
  subst z
  rcases he with r | r
  ·exact hx b n r
  ·rw [n] at r;cases r
 have hm:∀ b u,H b=some u->¬ Mut (some u)->b≠x:=fun b u q nm z=>by subst z;rw [q] at mu;exact nm mu
 refine ⟨fun b u q n _ _=>k b u (hb b n) q,fun b u q n _ _=>⟨u.slots,k b u (hb b n) q⟩,fun b u q n _=>by rw [aD (hx b n)];exact n,fun b u q _=>?_,
  fun b xs q=>by rw [aD (hm b _ q fun z=>z)];exact q,fun b u xs q=>by rw [aD (hm b _ q fun z=>z)];exact q,fun b ps q=>⟨#[],by rw [aD (hm b _ q fun z=>z),q];simp⟩⟩
 by_cases hbe:b=e
 ·subst hbe;exact heo
 ·exact ⟨u,k b u hbe q⟩
end

def trk (h:Heap)(H:Hp):List Addr:=(List.range h.objs.size).filter fun a=>(H a).isSome
def qe (h:Heap)(H:Hp):Heap:=PySem.W.hideAll h (trk h H)
theorem wU (h:Heap)(H:Hp):(qe h H).objs.size=h.objs.size:=PySem.W.hideAll_size _ _
theorem yp {h:Heap}{H:Hp}{b:Addr}{o:Obj}(e:h.get? b=some o)(n:H b=none):(qe h H).get? b=some o :=
 PySem.W.hideAll_get _ e fun hm=>by
  have q:(H b).isSome=true:=(zAq.mp hm).2
  rw [n] at q;simp at q
theorem Az {h:Heap}{H:Hp}{b:Addr}{o:Obj}(e:(qe h H).get? b=some o):h.get? b=some o/\H b=none:=by
 have e':h.get? b=some o:=PySem.W.of_hideAll (trk h H) e
 refine ⟨e',?_⟩
 cases q:H b with
 | none=>rfl
 | some x =>
  have hm:b∈trk h H:=List.mem_filter.mpr ⟨List.mem_range.mpr (Heap.lt_size e'),by simp [q]⟩
  have z:(qe h H).get? b=none:=PySem.W.hideAll_none (trk h H) hm
  rw [z] at e;cases e

end L2

namespace L2
open PySem PySem.Spec PyProof.Rows

structure Mod (K:PySem.W.Frag)(mg:Str->Option Value)(base:Heap):Prop where
 kin:K.In base
 glob:base.Ns mainGlobals mg
 blt:∃ mb,base.Ns builtinsNs mb/\∀ x:Str,x≠"__name__" -> mb x=bootBuiltins x
 nolimit:base.NoLimit

structure Cx where
 prog:Program
 w:World
 K:PySem.W.Frag
 mg:Str->Option Value
 base:Heap
 A:Around
 N:List Str
 s₀:Shared
 H₀:Hp
 env:Env
 outer:List Env
 stack:List Env
 ex:List Addr
 fn:Str->Bool
 calm:Bool
 pn:List (Addr×Obj)
 xe:Value->Shared->Prop
def frs (l:List Env):List Addr:=l.filterMap (·.frame)
abbrev Cx.fs (X:Cx):List Addr:=frs X.outer

def Vis (sc:Scope)(x:Str):Prop:=sc.names.lookup x=some .local\/sc.names.lookup x=some .cell\/sc.names.lookup x=some .free
def Loc (sc:Scope)(x:Str):Prop:=sc.names.lookup x=some .local\/sc.names.lookup x=some .cell
def Look (env:Env)(h:Heap)(m:Str->Option Value)(x:Str)(u:Value):Prop :=
 (env.kindOf x=some .local/\m x=some u)\/((env.kindOf x=some .cell\/env.kindOf x=some .free)/\∃ c,env.cells.lookup x=some c/\h.IsCell c (some u))

structure Cx.Ok (X:Cx):Prop where
 mod:Mod X.K X.mg X.base
 kind:X.env.scope.kind=.function
 glob:X.env.globals=mainGlobals
 blt:X.env.builtins=builtinsNs
 above:X.s₀.heap.objs.size<=X.env.locals
 inj:∀ x y c,X.env.cells.lookup x=some c->X.env.cells.lookup y=some c->x=y
 has:∀ x,(X.env.kindOf x=some .cell\/X.env.kindOf x=some .free)->∃ c,X.env.cells.lookup x=some c
 cab:∀ x c,X.fn x=true->X.env.cells.lookup x=some c->X.s₀.heap.objs.size<=c
 hd:X.calm=true->X.A.handled=none
 frames:X.A.frames=some X.stack
 stk:X.stack=X.outer\/(X.stack=X.env::X.outer/\X.env.frame=some X.env.locals)
 exf:∀ b∈X.ex,b≠X.env.locals/\∀ x c,X.env.cells.lookup x=some c->c≠b
 bs:∀ b o,X.base.get? b=some o->X.s₀.heap.get? b=some o/\X.H₀ b=none
 bsz:X.base.objs.size<=X.s₀.heap.objs.size
 noex:∀ b o,X.base.get? b=some o->b ∉ X.ex
 exfs:∀ b∈X.ex,b ∉ X.fs
 funs:X.s₀.heap.FunFrames X.base X.outer
 frf:∀ b∈X.fs,X.H₀ b=none

structure Inv (X:Cx)(pins:List (Addr×Obj))(σ:List (Option V))(H:Hp)(s:Shared):Prop where
 ok:X.Ok
 os:s.os=X.s₀.os
 bare:AllBare s.gens
 base:Un X.fs X.ex X.H₀ H X.s₀.heap s.heap
 loc:∃ m,s.heap.Ns X.env.locals m/\∀ (i:Nat) (x:Str) (v:V),X.N[i]?=some x->σ[i]?=some (some v)->Vis X.env.scope x->∃ u,RelV v u/\Look X.env s.heap m x u
 cell:∀ x c,X.env.cells.lookup x=some c->∃ v,s.heap.IsCell c v
 free:H X.env.locals=none
 freeC:∀ x c,X.env.cells.lookup x=some c->H c=none
 pin:∀ p∈X.pn++pins,s.heap.get? p.1=some p.2/\H p.1=none/\p.1≠X.env.locals/\p.1 ∉ X.fs/\∀ v,p.2.data≠.cell v
 hok:HOk X.prog X.w H s.heap
 len:σ.length=X.N.length

section
variable {X:Cx}{pins:List (Addr×Obj)}{σ:List (Option V)}{H H':Hp}{s:Shared}{h':Heap}

theorem Cx.Ok.nofr (ok:X.Ok){b:Addr}{o:Obj}(e:X.base.get? b=some o):b ∉ X.fs:=fun hb=>by
 have:=(ok.funs.mem hb).1
 rw [e] at this;cases this
theorem Inv.bs (I:Inv X pins σ H s):∀ b o,X.base.get? b=some o->s.heap.get? b=some o/\H b=none:=fun b o e =>
 ⟨I.base.keep b o (I.ok.bs b o e).1 (I.ok.bs b o e).2 (I.ok.nofr e) (I.ok.noex b o e),I.base.free b o (I.ok.bs b o e).1 (I.ok.bs b o e).2 (I.ok.noex b o e)⟩
theorem Inv.bk (I:Inv X pins σ H s):∀ b o,X.base.get? b=some o->s.heap.get? b=some o:=fun b o e=>(I.bs b o e).1
theorem Inv.mod (I:Inv X pins σ H s):Mod X.K X.mg X.base:=I.ok.mod
theorem Inv.kIn (I:Inv X pins σ H s):X.K.In s.heap:=I.ok.mod.kin.keeps I.bk
theorem Inv.lt (I:Inv X pins σ H s):X.env.locals < s.heap.objs.size:=let ⟨_,hn,_⟩:=I.loc;hn.lt
theorem Inv.sz (I:Inv X pins σ H s):X.s₀.heap.objs.size<=s.heap.objs.size:=Nat.le_trans I.ok.above (Nat.le_of_lt I.lt)
theorem Inv.nofs (I:Inv X pins σ H s){a:Addr}(h:s.heap.objs.size<=a):a ∉ X.fs:=fun hb=>by
 obtain ⟨_,o,ho,_⟩:=I.ok.funs.mem hb
 exact absurd (Nat.lt_of_lt_of_le (Heap.lt_size ho) (Nat.le_trans I.sz h)) (Nat.lt_irrefl _)
theorem Inv.cne (I:Inv X pins σ H s):∀ x c,X.env.cells.lookup x=some c->c≠X.env.locals:=fun x c e z=>by
 obtain ⟨v,o,ho,hd⟩:=I.cell x c e
 obtain ⟨m,⟨o',es,ep,ho',hd',_⟩,_⟩:=I.loc
 rw [z,ho'] at ho;cases ho;rw [hd'] at hd;cases hd
theorem Inv.funs (I:Inv X pins σ H s):s.heap.FunFrames X.base X.outer:=by
 have all:∀ (l:List Env),(∀ b∈frs l,b∈X.fs)->X.s₀.heap.FunFrames X.base l->s.heap.FunFrames X.base l:=by
  intro l
  induction l with
  | nil=>intro _ _;trivial
  | cons env r ih =>
   intro hs hl
   obtain ⟨hk,⟨L,o,hf,hn,ho,hd⟩,hr⟩:=hl
   have hL:L∈X.fs:=hs L (by unfold frs;rw [List.filterMap_cons,hf];exact List.mem_cons_self)
   obtain ⟨sl,e⟩:=I.base.slot L o ho (I.ok.frf L hL) hL fun z=>I.ok.exfs L z hL
   exact ⟨hk,⟨L,_,hf,hn,e,hd⟩,ih (fun b hb=>hs b (by unfold frs;rw [List.filterMap_cons,hf];exact List.mem_cons_of_mem _ hb)) hr⟩
 exact all X.outer (fun _ hb=>hb) I.ok.funs

theorem Inv.stack (I:Inv X pins σ H s):s.heap.FunFrames X.base X.stack:=by
 rcases I.ok.stk with e | ⟨e,hf⟩
 ·rw [e];exact I.funs
 ·rw [e]
  obtain ⟨m,hn,_⟩:=I.loc
  refine .cons (by rw [I.ok.kind];decide) hf hn ?_ I.funs
  exact Heap.get?_none_of_le (Nat.le_trans I.ok.bsz I.ok.above)
theorem Inv.stkSub (I:Inv X pins σ H s):∀ b∈frs X.stack,b∈X.env.locals::X.fs:=fun b hb=>by
 rcases I.ok.stk with e | ⟨e,hf⟩
 ·rw [e] at hb;exact List.mem_cons_of_mem _ hb
 ·rw [e] at hb
  unfold frs at hb
  rw [List.filterMap_cons,hf] at hb
  exact hb
theorem Inv.stkFree (I:Inv X pins σ H s):∀ b∈frs X.stack,H b=none:=fun b hb=>by
 rcases zAo.mp (I.stkSub b hb) with e | hb
 ·rw [e];exact I.free
 ·obtain ⟨_,o,ho,_⟩:=I.ok.funs.mem hb
  exact I.base.free b o ho (I.ok.frf b hb) fun z=>I.ok.exfs b z hb

theorem Inv.step {g':Array GenState}{t':Nat}{d':Drawn}{ch:List Addr}(I:Inv X pins σ H s)
  (hch:∀ b∈ch,(b∈X.ex\/X.s₀.heap.objs.size<=b)/\b≠X.env.locals/\(∀ x c,X.env.cells.lookup x=some c->c≠b)/\∀ p∈X.pn++pins,p.1≠b)
  (keep:∀ b o,b≠X.env.locals->b ∉ X.fs->b ∉ ch->s.heap.get? b=some o->H b=none->h'.get? b=some o)
  (slot:∀ b o,b≠X.env.locals->b∈X.fs->b ∉ ch->s.heap.get? b=some o->H b=none->∃ sl,h'.get? b=some { o with slots:=sl }) (free:∀ b o,b ∉ ch->s.heap.get? b=some o->H b=none->H' b=none)
  (there:∀ b o,b ∉ ch->s.heap.get? b=some o->∃ o',h'.get? b=some o')
  (tups:∀ b xs,H b=some (.tup xs)->H' b=some (.tup xs)) (frzs:∀ b o u,H b=some (.frz o u)->H' b=some (.frz o u)) (tbls:∀ b ps,H b=some (.tbl ps)->∃ more,H' b=some (.tbl (ps++more)))
  (ns:∀ m,s.heap.Ns X.env.locals m->h'.Ns X.env.locals m) (hok:HOk X.prog X.w H' h') (hg:AllBare g') :
  Inv X pins σ H' { s with heap:=h',gens:=g',drawn:=d',toks:=t' }:=by
 have neL:∀ b o,X.s₀.heap.get? b=some o->b≠X.env.locals:=fun b o e=>Nat.ne_of_lt (Nat.lt_of_lt_of_le (Heap.lt_size e) I.ok.above)
 have neC:∀ b o,X.s₀.heap.get? b=some o->b ∉ X.ex->b ∉ ch:=fun b o e hx hb=>by
  rcases (hch b hb).1 with z | z
  ·exact hx z
  ·exact absurd (Nat.lt_of_lt_of_le (Heap.lt_size e) z) (Nat.lt_irrefl _)
 have cellK:∀ x c,X.env.cells.lookup x=some c->∀ v,s.heap.IsCell c v->h'.IsCell c v:=fun x c e v ⟨o,ho,hd⟩=>by
  have nch:c ∉ ch:=fun z=>(hch c z).2.2.1 x c e rfl
  by_cases hc:c∈X.fs
  ·obtain ⟨sl,q⟩:=slot c o (I.cne x c e) hc nch ho (I.freeC x c e)
   exact ⟨_,q,hd⟩
  ·exact ⟨o,keep c o (I.cne x c e) hc nch ho (I.freeC x c e),hd⟩
 refine ⟨I.ok,I.os,hg,⟨fun b o e n hb hx=>?_,fun b o e n hb hx=>?_,fun b o e n hx=>?_,fun b o e hx=>?_,fun b xs e=>tups b xs (I.base.tups b xs e),fun b o xs e=>frzs b o xs (I.base.frzs b o xs e),fun b ps e=>?_⟩,?_,fun x c e=>?_,?_,fun x c e=>?_,fun p hp=>?_,hok,I.len⟩
 ·exact keep b o (neL b o e) hb (neC b o e hx) (I.base.keep b o e n hb hx) (I.base.free b o e n hx)
 ·obtain ⟨sl,e1⟩:=I.base.slot b o e n hb hx
  obtain ⟨sl',e2⟩:=slot b _ (neL b o e) hb (neC b o e hx) e1 (I.base.free b o e n hx)
  exact ⟨sl',e2⟩
 ·obtain ⟨o',e1⟩:=I.base.there b o e hx
  exact free b o' (neC b o e hx) e1 (I.base.free b o e n hx)
 ·obtain ⟨o',e1⟩:=I.base.there b o e hx
  exact there b o' (neC b o e hx) e1
 ·obtain ⟨m1,e1⟩:=I.base.tbls b ps e
  obtain ⟨m2,e2⟩:=tbls b _ e1
  exact ⟨m1++m2,by rw [e2,Array.append_assoc]⟩
 ·obtain ⟨m,hn,hl⟩:=I.loc
  refine ⟨m,ns m hn,fun i x v e1 e2 e3=>?_⟩
  obtain ⟨u,r,l⟩:=hl i x v e1 e2 e3
  refine ⟨u,r,?_⟩
  rcases l with l | ⟨k,c,e,z⟩
  ·exact .inl l
  ·exact .inr ⟨k,c,e,cellK x c e _ z⟩
 ·obtain ⟨v,z⟩:=I.cell x c e
  exact ⟨v,cellK x c e v z⟩
 ·obtain ⟨m,⟨o,_,_,ho,_⟩,_⟩:=I.loc
  exact free _ o (fun z=>(hch _ z).2.1 rfl) ho I.free
 ·obtain ⟨v,o,ho,hd⟩:=I.cell x c e
  exact free c o (fun z=>(hch c z).2.2.1 x c e rfl) ho (I.freeC x c e)
 ·obtain ⟨e,n,ne,nf,d⟩:=I.pin p hp
  have nch:p.1 ∉ ch:=fun z=>(hch p.1 z).2.2.2 p hp rfl
  exact ⟨keep p.1 p.2 ne nf nch e n,free p.1 p.2 nch e n,ne,nf,d⟩
theorem Inv.un {t':Nat}(I:Inv X pins σ H s)(u:Un X.fs [] H H' s.heap h')(hok:HOk X.prog X.w H' h'):Inv X pins σ H' { s with heap:=h',toks:=t' }:=by
 obtain ⟨m,⟨o,es,ep,ho,r⟩,_⟩:=id I.loc
 obtain ⟨sl,hL⟩:=u.any ho I.free (by simp)
 exact I.step (g':=s.gens) (d':=s.drawn) (ch:=[]) (fun _ z=>nomatch z) (fun b o _ hb _ e n=>u.keep b o e n hb (by simp)) (fun b o _ hb _ e n=>u.slot b o e n hb (by simp)) (fun b o _ e n=>u.free b o e n (by simp)) (fun b o _ e=>u.there b o e (by simp)) u.tups u.frzs u.tbls (fun m' hm=>by
  obtain ⟨o',es',ep',ho',r'⟩:=hm
  rw [ho] at ho';cases ho'
  exact ⟨_,es',ep',hL,r'⟩) hok I.bare
theorem Inv.call {g':Array GenState}{t':Nat}{d':Drawn}{ch:List Addr}(I:Inv X pins σ H s)(u:Un (frs X.stack) ch H H' s.heap h')(hok:HOk X.prog X.w H' h')(hg:AllBare g')
  (hch:∀ b∈ch,(b∈X.ex\/X.s₀.heap.objs.size<=b)/\b≠X.env.locals/\(∀ x c,X.env.cells.lookup x=some c->c≠b)/\∀ p∈X.pn++pins,p.1≠b) :
  Inv X pins σ H' { s with heap:=h',gens:=g',drawn:=d',toks:=t' }:=by
 obtain ⟨m,⟨o,es,ep,ho,r⟩,_⟩:=id I.loc
 obtain ⟨sl,hL⟩:=u.any ho I.free fun z=>(hch _ z).2.1 rfl
 exact I.step (ch:=ch) hch (fun b o hL hb hc e n=>u.keep b o e n (fun z=>(zAo.mp (I.stkSub b z)).elim hL hb) hc) (fun b o _ _ hc e n=>u.any e n hc) (fun b o hc e n=>u.free b o e n hc) (fun b o hc e=>u.there b o e hc) u.tups u.frzs u.tbls (fun m' hm=>by
  obtain ⟨o',es',ep',ho',r'⟩:=hm
  rw [ho] at ho';cases ho'
  exact ⟨_,es',ep',hL,r'⟩) hok hg
theorem Inv.turned {t':Nat}{it:Addr}(I:Inv X pins σ H s)(k:∀ b o,b≠it->s.heap.get? b=some o->h'.get? b=some o)(hn:H it=none)(hL:it≠X.env.locals)
  (h1:it∈X.ex\/X.s₀.heap.objs.size<=it) (h2:∀ x c,X.env.cells.lookup x=some c->c≠it) (h3:∀ p∈X.pn++pins,p.1≠it):Inv X pins σ H { s with heap:=h',toks:=t' }:=by
 have nit:∀ b u,H b=some u->b≠it:=fun b u e z=>by rw [z,hn] at e;cases e
 refine I.step (g':=s.gens) (d':=s.drawn) (ch:=[it]) (fun b hb=>?_) (fun b o _ _ hc e _=>k b o (fun z=>hc (by simp [z])) e) (fun b o _ _ hc e _=>⟨o.slots,k b o (fun z=>hc (by simp [z])) e⟩) (fun _ _ _ _ n=>n)
  (fun b o hc e=>⟨o,k b o (fun z=>hc (by simp [z])) e⟩) (fun _ _ e=>e) (fun _ _ _ e=>e) (fun b ps e=>⟨#[],by rw [e];simp⟩) (fun m hm=>?_) (fun b u e=>?_) I.bare
 ·have e:b=it:=by simpa using hb
  subst e
  exact ⟨h1,hL,h2,h3⟩
 ·obtain ⟨o,es,ep,ho,r⟩:=hm
  exact ⟨o,es,ep,k _ o (Ne.symm hL) ho,r⟩
 ·refine (I.hok b u e).stay (fun c v hc q=>k c v ?_ q) (fun _ q=>q) fun _ _ q=>q
  rcases hc with z | z
  ·rw [z];exact nit b u e
  ·exact nit c _ z
theorem Inv.tok (I:Inv X pins σ H s)(t:Nat):Inv X pins σ H { s with toks:=t }:=I.un (h':=s.heap) (t':=t) Un.refl I.hok
theorem Inv.kept {t':Nat}(I:Inv X pins σ H s)(k:∀ b u,s.heap.get? b=some u->h'.get? b=some u):Inv X pins σ H { s with heap:=h',toks:=t' }:=I.un (Un.kept k) (I.hok.kept k)
theorem Inv.laid {a:Addr}{o:HO}{t':Nat}(I:Inv X pins σ H s)(k:∀ b u,s.heap.get? b=some u->h'.get? b=some u)(hp:s.heap.objs.size<=a)(new:ObjOk X.prog X.w (upd H a o) h' a o) :
  Inv X pins σ (upd H a o) { s with heap:=h',toks:=t' }:=I.un (Un.laid k hp (I.hok.fresh hp)) (I.hok.laid k hp new)
theorem Inv.write {x e:Addr}{o:HO}{t':Nat}(I:Inv X pins σ H s)(mu:Mut (H x))(he:e=x\/H e=some (.own x))(k:∀ b u,b≠e->s.heap.get? b=some u->h'.get? b=some u)(heo:∃ u,h'.get? e=some u)
  (new:ObjOk X.prog X.w (upd H x o) h' x o):Inv X pins σ (upd H x o) { s with heap:=h',toks:=t' }:=I.un (Un.write mu he k heo) (I.hok.write mu he k heo new)
theorem Inv.pins_of {pins':List (Addr×Obj)}(I:Inv X pins σ H s)(h:∀ p∈pins',s.heap.get? p.1=some p.2/\H p.1=none/\p.1≠X.env.locals/\p.1 ∉ X.fs/\∀ v,p.2.data≠.cell v):Inv X pins' σ H s :=
 ⟨I.ok,I.os,I.bare,I.base,I.loc,I.cell,I.free,I.freeC,fun p hp=>(zA6.mp hp).elim (fun z=>I.pin p (List.mem_append_left _ z)) (h p),I.hok,I.len⟩

theorem rJ {N:List Str}(hN:N.Nodup){i j:Nat}{x:Str}(a:N[i]?=some x)(b:N[j]?=some x):i=j:=by
 obtain ⟨h1,e1⟩:=zAa.mp a
 obtain ⟨h2,e2⟩:=zAa.mp b
 exact (List.getElem_inj hN).mp (e1.trans e2.symm)

theorem oU {M:Model}{A:Around}{E:Value->Shared->Prop}{i:Nat}{x:Str}{v:V}{u:Value}{Q:Unit->Shared->Prop}(I:Inv X pins σ H s)(hN:X.N.Nodup)(hi:X.N[i]?=some x)(hx:Loc X.env.scope x)(r:RelV v u)
  (h:∀ s',Inv X pins (σ.set i (some v)) H s'->(∃ a,Heap.SameBut a s.heap s'.heap/\(a=X.env.locals\/X.env.cells.lookup x=some a))->Q () s') (hf:X.fn x=true\/X.env.scope.names.lookup x=some .local:=by first | exact .inl rfl | exact .inr rfl | assumption):wpAny M A (storeName X.env x u) Q E s:=by
 obtain ⟨m,hn,hl⟩:=id I.loc
 have hcls:(X.env.scope.kind == .class || (X.env.scope.kind == .module && X.env.locals != X.env.globals))=false:=by rw [I.ok.kind];rfl
 have hiσ:i < σ.length:=by rw [I.len];exact (zAa.mp hi).1
 have cne:=I.cne
 have tracked:∀ {a:Addr} {h':Heap},(∃ o,s.heap.get? a=some o/\H a=none)->Heap.SameBut a s.heap h'->HOk X.prog X.w H h':=fun {a h'} ha hs b ob e=>by
  obtain ⟨_,_,hfree⟩:=ha
  refine (I.hok b ob e).stay (fun c w' hc q=>(hs.2 c ?_).trans q) (fun _ q=>q) fun _ _ q=>q
  rintro rfl
  rcases hc with rfl | hc
  ·rw [hfree] at e;cases e
  ·rw [hfree] at hc;cases hc
 rcases hx with hk | hk
 ·refine wpAny_storeName_local hk hn (fun h' hn' hs=>?_) hcls
  obtain ⟨oL,_,_,hoL,_⟩:=id hn
  refine h _ ⟨I.ok,I.os,I.bare,⟨fun b o e n hb hx=>?_,fun b o e n hb hx=>?_,I.base.free,fun b o e hx=>?_,I.base.tups,I.base.frzs,I.base.tbls⟩,⟨_,hn',fun j y v' e1 e2 e3=>?_⟩,fun y c e=>?_,I.free,I.freeC,fun p hp=>?_,tracked ⟨oL,hoL,I.free⟩ hs,by simpa using I.len⟩ ⟨_,hs,.inl rfl⟩
  ·exact (hs.2 b (Nat.ne_of_lt (Nat.lt_of_lt_of_le (Heap.lt_size e) I.ok.above))).trans (I.base.keep b o e n hb hx)
  ·obtain ⟨sl,e1⟩:=I.base.slot b o e n hb hx
   exact ⟨sl,(hs.2 b (Nat.ne_of_lt (Nat.lt_of_lt_of_le (Heap.lt_size e) I.ok.above))).trans e1⟩
  ·obtain ⟨o',e1⟩:=I.base.there b o e hx
   exact ⟨o',(hs.2 b (Nat.ne_of_lt (Nat.lt_of_lt_of_le (Heap.lt_size e) I.ok.above))).trans e1⟩
  ·by_cases hj:j=i
   ·subst hj
    rw [hi] at e1;cases e1
    rw [List.getElem?_set_self hiσ] at e2
    cases e2
    exact ⟨u,r,.inl ⟨hk,by simp⟩⟩
   ·rw [List.getElem?_set_ne (Ne.symm hj)] at e2
    obtain ⟨u',r',q⟩:=hl j y v' e1 e2 e3
    refine ⟨u',r',?_⟩
    rcases q with ⟨k,e⟩ | ⟨k,c,e,z⟩
    ·refine .inl ⟨k,?_⟩
     have:y≠x:=fun e=>hj (rJ hN e1 (e ▸ hi))
     simp [this,e]
    ·exact .inr ⟨k,c,e,z.sameBut hs (cne y c e)⟩
  ·obtain ⟨w',z⟩:=I.cell y c e
   exact ⟨w',z.sameBut hs (cne y c e)⟩
  ·obtain ⟨e,n,ne,nf,d⟩:=I.pin p hp
   exact ⟨(hs.2 p.1 ne).trans e,n,ne,nf,d⟩
 ·have hfn:X.fn x=true:=by
   rcases hf with z | z
   ·exact z
   ·rw [z] at hk;cases hk
  obtain ⟨c,hc⟩:=I.ok.has x (.inl hk)
  obtain ⟨w',z⟩:=I.cell x c hc
  refine wpAny_storeName_cell I.ok.kind hk hc z (fun h' hc' hs=>?_)
  obtain ⟨oc,hoc,hocd⟩:=id z
  refine h { s with heap:=h' } ⟨I.ok,I.os,I.bare,⟨fun b o e n hb hx=>?_,fun b o e n hb hx=>?_,I.base.free,fun b o e hx=>?_,I.base.tups,I.base.frzs,I.base.tbls⟩,⟨m,hn.sameBut hs (Ne.symm (cne x c hc)),fun j y v' e1 e2 e3=>?_⟩,fun y c' e=>?_,I.free,I.freeC,fun p hp=>?_,tracked ⟨oc,hoc,I.freeC x c hc⟩ hs,by simpa using I.len⟩ ⟨c,hs,.inr hc⟩
  ·exact (hs.2 b (Nat.ne_of_lt (Nat.lt_of_lt_of_le (Heap.lt_size e) (I.ok.cab x c hfn hc)))).trans (I.base.keep b o e n hb hx)
  ·obtain ⟨sl,e1⟩:=I.base.slot b o e n hb hx
   exact ⟨sl,(hs.2 b (Nat.ne_of_lt (Nat.lt_of_lt_of_le (Heap.lt_size e) (I.ok.cab x c hfn hc)))).trans e1⟩
  ·obtain ⟨o',e1⟩:=I.base.there b o e hx
   exact ⟨o',(hs.2 b (Nat.ne_of_lt (Nat.lt_of_lt_of_le (Heap.lt_size e) (I.ok.cab x c hfn hc)))).trans e1⟩
  ·by_cases hj:j=i
   ·subst hj
    rw [hi] at e1;cases e1
    rw [List.getElem?_set_self hiσ] at e2
    cases e2
    exact ⟨u,r,.inr ⟨.inl hk,c,hc,hc'⟩⟩
   ·rw [List.getElem?_set_ne (Ne.symm hj)] at e2
    obtain ⟨u',r',q⟩:=hl j y v' e1 e2 e3
    refine ⟨u',r',?_⟩
    rcases q with q | ⟨k,c',e,z'⟩
    ·exact .inl q
    ·refine .inr ⟨k,c',e,z'.sameBut hs ?_⟩
     rintro rfl
     exact hj (rJ hN e1 (I.ok.inj _ _ _ e hc ▸ hi))
  ·by_cases hcc:c'=c
   ·subst hcc;exact ⟨_,hc'⟩
   ·obtain ⟨w2,z2⟩:=I.cell y c' e
    exact ⟨w2,z2.sameBut hs hcc⟩
  ·obtain ⟨e,n,ne,nf,d⟩:=I.pin p hp
   refine ⟨(hs.2 p.1 ?_).trans e,n,ne,nf,d⟩
   intro q
   rw [q,hoc] at e
   have q':oc=p.2:=zAl e
   exact d w' (by rw [<- q'];exact hocd)
theorem gC {M:Model}{A:Around}{E:Value->Shared->Prop}{i:Nat}{x:Str}{v:V}{u:Value}{Q:Unit->Shared->Prop}(I:Inv X pins σ H s)(hN:X.N.Nodup)(hi:X.N[i]?=some x)(hx:Loc X.env.scope x)(r:RelV v u)
  (h:∀ s',Inv X pins (σ.set i (some v)) H s'->Q () s') (hf:X.fn x=true\/X.env.scope.names.lookup x=some .local:=by first | exact .inl rfl | exact .inr rfl | assumption):wpAny M A (storeName X.env x u) Q E s :=
 oU I hN hi hx r (fun s' I' _=>h s' I') hf
theorem Inv.call' {s':Shared}{ch:List Addr}(I:Inv X pins σ H s)(ho:s'.os=s.os)(u:Un (frs X.stack) ch H H' s.heap s'.heap)(hok:HOk X.prog X.w H' s'.heap)(hg:AllBare s'.gens)
  (hch:∀ b∈ch,(b∈X.ex\/X.s₀.heap.objs.size<=b)/\b≠X.env.locals/\(∀ x c,X.env.cells.lookup x=some c->c≠b)/\∀ p∈X.pn++pins,p.1≠b):Inv X pins σ H' s':=by
 obtain ⟨h',g',d',t',o'⟩:=s'
 have e:o'=s.os:=ho
 subst e
 exact I.call (g':=g') (t':=t') (d':=d') u hok hg hch
end

abbrev XK:=Value->Option Addr->Hp->Prop
abbrev St:=List (Option V)
abbrev VK:=V->Hp->Prop
abbrev TE:=St->Hp->VK->Prop
abbrev TT:=St->Hp->(Bool->Hp->Prop)->Prop
abbrev TA:=St->Hp->(List V->Hp->Prop)->Prop
structure Ends where
 nx:St->Hp->Prop
 rt:VK
 bk:St->Hp->Prop:=fun _ _=>False
 ct:St->Hp->Prop:=fun _ _=>False
abbrev TS:=Ends->St->Hp->Prop

def EP (X:Cx)(pins:List (Addr×Obj))(σ:St)(Q:VK)(u:Value)(s':Shared):Prop:=∃ v H',Inv X pins σ H' s'/\RelV v u/\Q v H'
def TP (X:Cx)(pins:List (Addr×Obj))(σ:St)(Q:Bool->Hp->Prop)(b:Bool)(s':Shared):Prop:=∃ H',Inv X pins σ H' s'/\Q b H'
def AP (X:Cx)(pins:List (Addr×Obj))(σ:St)(Q:List V->Hp->Prop)(us:List Value)(s':Shared):Prop:=∃ vs H',Inv X pins σ H' s'/\Vals vs us/\Q vs H'
def SP (X:Cx)(pins:List (Addr×Obj))(D:Ends)(f:Flow)(s':Shared):Prop :=
 match f with
 | .next=>∃ σ' H',Inv X pins σ' H' s'/\D.nx σ' H'
 | .brk=>∃ σ' H',Inv X pins σ' H' s'/\D.bk σ' H'
 | .cont=>∃ σ' H',Inv X pins σ' H' s'/\D.ct σ' H'
 | .ret u=>∃ v σ' H',Inv X pins σ' H' s'/\RelV v u/\D.rt v H'

def PE (X:Cx)(e:Expr)(t:TE):Prop :=
 ∀ (pins:List (Addr×Obj)) (s:Shared) (σ:St) (H:Hp) (Q:VK),Inv X pins σ H s->t σ H Q->wpAny (model X.prog X.w) X.A (eval e X.env) (EP X pins σ Q) X.xe s
def PT (X:Cx)(e:Expr)(t:TT):Prop :=
 ∀ (pins:List (Addr×Obj)) (s:Shared) (σ:St) (H:Hp) (Q:Bool->Hp->Prop),Inv X pins σ H s->t σ H Q->wpAny (model X.prog X.w) X.A (isTrue e X.env (eval e X.env)) (TP X pins σ Q) X.xe s
def PW (X:Cx)(e:Expr)(t:TT):Prop :=
 ∀ (whole:Sem Value) (pins:List (Addr×Obj)) (s:Shared) (σ:St) (H:Hp) (Q:Bool->Hp->Prop),Inv X pins σ H s->t σ H Q->wpAny (model X.prog X.w) X.A (isTrue e X.env whole) (TP X pins σ Q) X.xe s
theorem PW.pt {X:Cx}{e:Expr}{t:TT}(h:PW X e t):PT X e t:=h _
def PA (X:Cx)(es:List Expr)(t:TA):Prop :=
 ∀ (pos:Pos) (pins:List (Addr×Obj)) (s:Shared) (σ:St) (H:Hp) (Q:List V->Hp->Prop),Inv X pins σ H s->t σ H Q->wpAny (model X.prog X.w) X.A (spliced (backTo pos (starEach es X.env))) (AP X pins σ Q) X.xe s
def PS (X:Cx)(st:Stmt)(t:TS):Prop :=
 ∀ (pins:List (Addr×Obj)) (s:Shared) (σ:St) (H:Hp) (D:Ends),Inv X pins σ H s->t D σ H->wpAny (model X.prog X.w) X.A (exec st X.env) (SP X pins D) X.xe s
def PSs (X:Cx)(st:List Stmt)(t:TS):Prop :=
 ∀ (pins:List (Addr×Obj)) (s:Shared) (σ:St) (H:Hp) (D:Ends),Inv X pins σ H s->t D σ H->wpAny (model X.prog X.w) X.A (execs st X.env) (SP X pins D) X.xe s
theorem thn {α:Type}{t:Sem α}{Q Q':α->Shared->Prop}{M:Model}{A:Around}{E:Value->Shared->Prop}{s:Shared}(h:wpAny M A t Q E s)(hQ:∀ a s,Q a s->Q' a s):wpAny M A t Q' E s:=wpAny_mono h hQ fun _ _ x=>x
end L2

namespace L2
open PySem PySem.Spec PyProof.Rows
section
variable {X:Cx}

theorem bin {a b:Expr}{ta tb:TE}(ha:PE X a ta)(hb:PE X b tb){pins:List (Addr×Obj)}{s:Shared}{σ:St}{H:Hp}{R:V->V->Hp->Prop}(I:Inv X pins σ H s)(h:ta σ H fun x H1=>tb σ H1 fun y H2=>R x y H2)
  {α:Type} {Q:α->Shared->Prop} {f:Value->Value->Sem α}
  (hf:∀ v u s2 x y H2,Inv X pins σ H2 s2->RelV x v->RelV y u->R x y H2->wpAny (model X.prog X.w) X.A (f v u) Q X.xe s2) :
  wpAny (model X.prog X.w) X.A (eval a X.env) (fun v s₁=>wpAny (model X.prog X.w) X.A (eval b X.env) (fun u s₂=>wpAny (model X.prog X.w) X.A (f v u) Q X.xe s₂) X.xe s₁) X.xe s:=by
 refine thn (ha pins s σ H _ I h) fun v s1 ⟨x,H1,I1,r1,q1⟩=>?_
 refine thn (hb pins s1 σ H1 _ I1 q1) fun u s2 ⟨y,H2,I2,r2,q2⟩=>?_
 exact hf v u s2 x y H2 I2 r1 r2 q2

inductive TVarI (i:Nat)(σ:St)(H:Hp)(Q:VK):Prop
 | mk:∀ v,(σ[i]?=some (some v))->(Q v H)->TVarI i σ H Q
def wV (i:Nat):TE:=fun σ H Q=>TVarI i σ H Q
def tC (v:V):TE:=fun _ H Q=>Q v H
theorem DP {i:Nat}{x:Str}{pos:Pos}(hN:X.N[i]?=some x)(hv:Vis X.env.scope x)(hd:(x == ("__debug__" : Str))=false:=by decide)(hcd:(x == ("__classdict__" : Str))=false:=by decide):PE X (.Name x pos) (wV i):=by
 intro pins s σ H Q I h
 obtain ⟨v,e,h⟩:=h
 obtain ⟨m,hn,hl⟩:=I.loc
 obtain ⟨u,r,l⟩:=hl i x v hN e hv
 have fin:EP X pins σ Q u s:=⟨v,H,I,r,h⟩
 rcases l with ⟨hk,hm⟩ | ⟨hk,c,hc,hcell⟩
 ·exact wpAny_Name (wpAny_loadName_local I.ok.kind hk hn hm fin) hd
 ·rcases hk with hk | hk
  ·exact wpAny_Name (wpAny_loadName_cell I.ok.kind hk hc hcell fin) hd
  ·exact wpAny_Name (wpAny_loadName_free I.ok.kind hk hc hcell fin hcd) hd
theorem aA {i j pos}:PE X (.Constant (.int i) j pos) (tC (.int i)):=fun _ _ _ H _ I h=>wpAny_Constant_int ⟨.int i,H,I.tok _,⟨_,rfl⟩,h⟩
theorem gD {b j pos}:PE X (.Constant (.bool b) j pos) (tC (.bl b)):=fun _ _ _ H _ I h=>Constant_bool ⟨.bl b,H,I,rfl,h⟩
theorem qg {j pos}:PE X (.Constant .none j pos) (tC .non):=fun _ _ _ H _ I h=>Constant_none ⟨.non,H,I,rfl,h⟩
theorem lU {x j pos}:PE X (.Constant (.str x) j pos) (tC (.str x)):=fun _ _ _ H _ I h=>Calls.Constant_str ⟨.str x,H,I.tok _,⟨_,rfl⟩,h⟩

def Gl (X:Cx)(x:Str):Prop:=X.env.kindOf x=some .globalImplicit
theorem qi {E:Value->Shared->Prop}{pins:List (Addr×Obj)}{s:Shared}{σ:St}{H:Hp}{x:Str}{u:Value}{pos:Pos}{Q:Value->Shared->Prop}(I:Inv X pins σ H s)(hg:Gl X x)(hm:X.mg x=some u)(h:Q u s)
  (hd:(x == ("__debug__" : Str))=false:=by decide):wpAny (model X.prog X.w) X.A (eval (.Name x pos) X.env) Q E s :=
 Calls.Name_function_global I.ok.kind hg (Calls.loadGlobal_global (by rw [I.ok.glob];exact I.mod.glob.keeps I.bk) hm h) hd
theorem gF {E:Value->Shared->Prop}{pins:List (Addr×Obj)}{s:Shared}{σ:St}{H:Hp}{x:Str}{u:Value}{pos:Pos}{Q:Value->Shared->Prop}(I:Inv X pins σ H s)(hg:Gl X x)(hm:X.mg x=none)(hv:bootBuiltins x=some u)(h:Q u s)
  (hn:x≠"__name__" := by decide) (hd:(x == ("__debug__" : Str))=false:=by decide):wpAny (model X.prog X.w) X.A (eval (.Name x pos) X.env) Q E s:=by
 obtain ⟨mb,h1,h2⟩:=I.mod.blt
 exact Calls.Name_function_global I.ok.kind hg (Calls.loadGlobal_builtin (by rw [I.ok.glob];exact I.mod.glob.keeps I.bk) hm (by rw [I.ok.blt];exact h1.keeps I.bk) ((h2 x hn).trans hv) h) hd
theorem bR {x:Str}{v:V}{u:Value}{pos:Pos}(hg:Gl X x)(hm:X.mg x=some u)(r:RelV v u)(hd:(x == ("__debug__" : Str))=false:=by decide):PE X (.Name x pos) (tC v) :=
 fun _ _ _ H _ I h=>qi I hg hm ⟨v,H,I,r,h⟩ hd
theorem qj {x:Str}{v:V}{u:Value}{pos:Pos}(hg:Gl X x)(hm:X.mg x=none)(hv:bootBuiltins x=some u)(r:RelV v u)(hn:x≠"__name__" := by decide)(hd:(x == ("__debug__" : Str))=false:=by decide):PE X (.Name x pos) (tC v) :=
 fun _ _ _ H _ I h=>gF I hg hm hv ⟨v,H,I,r,h⟩ hn hd

variable {a b:Expr}{ta tb:TE}{pos:Pos}
def PC (X:Cx)(op:CmpOp)(a b:Expr)(t:TE):Prop :=
 ∀ (pins:List (Addr×Obj)) (s:Shared) (σ:St) (H:Hp) (Q:VK),Inv X pins σ H s->t σ H Q ->
  wpAny (model X.prog X.w) X.A (eval a X.env) (fun v s₁=>wpAny (model X.prog X.w) X.A (eval b X.env) (fun u s₂=>wpAny (model X.prog X.w) X.A (compareOp op v u) (EP X pins σ Q) X.xe s₂) X.xe s₁) X.xe s
def tB (t:TE):TT:=fun σ H Q=>t σ H fun x H1=>∃ c,x=.bl c/\Q c H1
theorem HF {op:CmpOp}{t:TE}(h:PC X op a b t)(h1:behindInMarks op b=false:=by first | exact nobehind _ (by decide) (by decide) | rfl):PT X (.Compare a [op] [b] pos) (tB t):=by
 intro pins s σ H Q I hw
 refine wpAny_isTrue_Compare1 (thn (h pins s σ H _ I hw) fun v s1 h1=>thn h1 fun u s2 h2=>thn h2 fun c s3 ⟨x,H1,I1,r1,q1⟩=>?_) h1
 obtain ⟨d,rfl,q⟩:=q1
 cases r1
 exact wpAny_truthy_bool ⟨H1,I1,q⟩
theorem cN {e:Expr}{t:TE}(h:PE X e t)(he:∀ whole,isTrue e X.env whole=(do let v <- whole;standAt e.pos;holding [v] (truthy v)):=by intro _;rfl):PT X e (tB t):=by
 intro pins s σ H Q I hw
 refine isTrue_plain (thn (h pins s σ H _ I hw) fun v s1 ⟨x,H1,I1,r1,q1⟩=>?_) (he _)
 obtain ⟨d,rfl,q⟩:=q1
 cases r1
 exact wpAny_truthy_bool ⟨H1,I1,q⟩

variable {tA tB':TT}{rest:List Expr}
def HJ (t u:TT):TT:=fun σ H Q=>t σ H fun c H1=>if c=true then u σ H1 Q else Q false H1
def tOr (t u:TT):TT:=fun σ H Q=>t σ H fun c H1=>if c=true then Q true H1 else u σ H1 Q
def HQ (t:TT):TT:=fun σ H Q=>t σ H fun c H1=>Q (!c) H1
theorem Ba (ha:PT X a tA):PW X (.BoolOp .And [a] pos) tA:=by
 intro wh pins s σ H Q I h
 refine isTrue_and (thn (ha pins s σ H Q I h) fun c s1 e=>?_)
 cases c with
 | true=>exact isTrue_and_nil e
 | false=>exact e
theorem ql (ha:PT X a tA):PW X (.BoolOp .Or [a] pos) tA:=by
 intro wh pins s σ H Q I h
 refine isTrue_or (thn (ha pins s σ H Q I h) fun c s1 e=>?_)
 cases c with
 | false=>exact isTrue_or_nil e
 | true=>exact e
theorem DQ (ha:PT X a tA)(hb:PW X (.BoolOp .And (b::rest) pos) tB'):PW X (.BoolOp .And (a::b::rest) pos) (HJ tA tB'):=by
 intro wh pins s σ H Q I h
 refine isTrue_and (thn (ha pins s σ H _ I h) fun c s1 ⟨H1,I1,q1⟩=>?_)
 cases c with
 | true=>exact hb wh pins s1 σ H1 Q I1 q1
 | false=>exact ⟨H1,I1,q1⟩
theorem oV (ha:PT X a tA)(hb:PW X (.BoolOp .Or (b::rest) pos) tB'):PW X (.BoolOp .Or (a::b::rest) pos) (tOr tA tB'):=by
 intro wh pins s σ H Q I h
 refine isTrue_or (thn (ha pins s σ H _ I h) fun c s1 ⟨H1,I1,q1⟩=>?_)
 cases c with
 | true=>exact ⟨H1,I1,q1⟩
 | false=>exact hb wh pins s1 σ H1 Q I1 q1
theorem bY (ha:PT X a tA):PT X (.UnaryOp .Not a pos) (HQ tA):=by
 intro pins s σ H Q I h
 exact isTrue_not (ha pins s σ H (fun c H1=>Q (!c) H1) I h)
def Dc (ta tb:TE):TE:=fun σ H Q=>ta σ H fun x H1=>∃ c,x=.bl c/\if c=true then tb σ H1 Q else Q (.bl false) H1
def Fz (ta:TE):TE:=fun σ H Q=>ta σ H fun x H1=>∃ c,x=.bl c/\Q (.bl (!c)) H1
theorem dR {op}{t:TE}(h:PE X a t):PE X (.BoolOp op [a] pos) t:=fun pins s σ H Q I hw=>BoolOp_one (h pins s σ H Q I hw)
theorem cD (ha:PE X a ta)(hb:PE X (.BoolOp .And (b::rest) pos) tb):PE X (.BoolOp .And (a::b::rest) pos) (Dc ta tb):=by
 intro pins s σ H Q I h
 refine BoolOp_and (thn (ha pins s σ H _ I h) fun v s1 ⟨x,H1,I1,r1,q1⟩=>?_)
 obtain ⟨c,rfl,q1⟩:=q1
 cases r1
 refine wpAny_truthy_bool ?_
 cases c with
 | true=>exact hb pins s1 σ H1 Q I1 q1
 | false=>exact ⟨.bl false,H1,I1,rfl,q1⟩
theorem DR (ha:PE X a ta):PE X (.UnaryOp .Not a pos) (Fz ta):=by
 intro pins s σ H Q I h
 refine UnaryOp_ (thn (ha pins s σ H _ I h) fun v s1 ⟨x,H1,I1,r1,q1⟩=>?_)
 obtain ⟨c,rfl,q1⟩:=q1
 cases r1
 exact not_of (wpAny_truthy_bool ⟨.bl (!c),H1,I1,rfl,q1⟩)
def tIf (t:TT)(ta tb:TE):TE:=fun σ H Q=>t σ H fun c H1=>if c=true then ta σ H1 Q else tb σ H1 Q
theorem j5 {c:Expr}(hc:PT X c tA)(ha:PE X a ta)(hb:PE X b tb):PE X (.IfExp c a b pos) (tIf tA ta tb):=by
 intro pins s σ H Q I h
 refine wpAny_IfExp (thn (hc pins s σ H _ I h) fun d s1 ⟨H1,I1,q1⟩=>?_)
 cases d with
 | true=>exact ha pins s1 σ H1 Q I1 q1
 | false=>exact hb pins s1 σ H1 Q I1 q1
end
end L2

namespace L2
open PySem PySem.Spec PyProof.Rows

def SqL (K:PySem.W.Frag)(H:Hp)(a:Addr)(xs:List V):Prop :=
 Rd H a (.lst xs) \/
  ∃ (o:Obj) (its:Array Value) (n:Nat),K.lookup a=some o/\o.cls=.type "list" /\ o.dict=none/\o.data=.seq its n/\its.size<=sizeLine/\Vals xs its.toList
def SqT (K:PySem.W.Frag)(H:Hp)(a:Addr)(xs:List V):Prop :=
 Rd H a (.tup xs) \/
  ∃ (o:Obj) (its:Array Value) (n:Nat),K.lookup a=some o/\o.cls=.type "tuple" /\ o.data=.seq its n/\its.size<=sizeLine/\Vals xs its.toList
def HR:Value->Option V
 | .none=>some .non
 | .bool b=>some (.bl b)
 | .int i _=>some (.int i)
 | .str x _=>some (.str x)
 | .bytes b _=>some (.byt b)
 | .float b _=>some (.flt b)
 | .ref a=>some (.ref a)
 | .type n=>some (.ty n)
 | _=>none
theorem RelV.abs {x:V}{u:Value}(r:RelV x u):HR u=some x:=by
 cases x with
 | non=>cases r;rfl
 | bl _=>cases r;rfl
 | int _=>obtain ⟨t,rfl⟩:=r;rfl
 | str _=>obtain ⟨t,rfl⟩:=r;rfl
 | byt _=>obtain ⟨t,rfl⟩:=r;rfl
 | flt _=>obtain ⟨t,rfl⟩:=r;rfl
 | ref _=>cases r;rfl
 | ty _=>cases r;rfl
theorem RelV.inj {x y:V}{u:Value}(r:RelV x u)(q:RelV y u):x=y:=zAl (r.abs.symm.trans q.abs)
theorem Vals.inj:∀ {xs ys:List V} {us:List Value},Vals xs us->Vals ys us->xs=ys
 | _,_,_,.nil,.nil=>rfl
 | _,_,_,.cons r t,.cons r' t'=>by rw [r.inj r',Vals.inj t t']
section
variable {X:Cx}{pins:List (Addr×Obj)}{σ:St}{H:Hp}{s:Shared}{a:Addr}{xs ys:List V}
theorem SqL.of {K:PySem.W.Frag}(h:H a=some (.lst xs)):SqL K H a xs:=.inl (.inl h)
theorem SqT.of {K:PySem.W.Frag}(h:H a=some (.tup xs)):SqT K H a xs:=.inl (.inl h)
theorem Inv.list (I:Inv X pins σ H s)(h:SqL X.K H a xs):∃ its:List Value,Vals xs its/\PlainL s.heap a its.toArray/\xs.length<=sizeLine:=by
 rcases h with h | ⟨o,its,n,hk,hc,hd,hs,hz,r⟩
 ·obtain ⟨z,its,n,r,e⟩:=h.ok I.hok
  exact ⟨its,r,⟨_,n,e,rfl,rfl,rfl⟩,z⟩
 ·refine ⟨its.toList,r,⟨o,n,I.kIn a o hk,hc,hd,by simpa using hs⟩,?_⟩
  have e:=r.length
  simp only [Array.length_toList] at e
  lia
theorem Inv.tuple (I:Inv X pins σ H s)(h:SqT X.K H a xs):∃ its:List Value,Vals xs its/\IsTup s.heap a its.toArray/\xs.length<=sizeLine:=by
 rcases h with h | ⟨o,its,n,hk,hc,hs,hz,r⟩
 ·obtain ⟨z,its,r,p⟩:=h.ok I.hok
  exact ⟨its,r,p,z⟩
 ·refine ⟨its.toList,r,⟨o,I.kIn a o hk,hc,n,by simpa using hs⟩,?_⟩
  have e:=r.length
  simp only [Array.length_toList] at e
  lia
theorem Inv.list_inj (I:Inv X pins σ H s)(h:SqL X.K H a xs)(h':SqL X.K H a ys):xs=ys:=by
 obtain ⟨its,r,⟨o,n,e,_,_,d⟩,_⟩:=I.list h
 obtain ⟨its',r',⟨o',n',e',_,_,d'⟩,_⟩:=I.list h'
 rw [e] at e';cases e'
 rw [d] at d'
 injection d' with d1 _
 have:its=its':=by simpa using congrArg Array.toList d1
 subst this
 exact r.inj r'
theorem Inv.tuple_inj (I:Inv X pins σ H s)(h:SqT X.K H a xs)(h':SqT X.K H a ys):xs=ys:=by
 obtain ⟨its,r,⟨o,e,_,n,d⟩,_⟩:=I.tuple h
 obtain ⟨its',r',⟨o',e',_,n',d'⟩,_⟩:=I.tuple h'
 rw [e] at e';cases e'
 rw [d] at d'
 injection d' with d1 _
 have:its=its':=by simpa using congrArg Array.toList d1
 subst this
 exact r.inj r'
end

abbrev Cx.wish (X:Cx)(E:Value->Shared->Prop):Cx:={ X with xe:=E }
abbrev Cx.nox (X:Cx):Cx:=X.wish fun _ _=>False
theorem Cx.Ok.wish {X:Cx}(ok:X.Ok)(E:Value->Shared->Prop):(X.wish E).Ok :=
 ⟨ok.mod,ok.kind,ok.glob,ok.blt,ok.above,ok.inj,ok.has,ok.cab,ok.hd,ok.frames,ok.stk,ok.exf,ok.bs,ok.bsz,ok.noex,ok.exfs,ok.funs,ok.frf⟩
theorem Cx.Ok.unwish {X:Cx}{E:Value->Shared->Prop}(ok:(X.wish E).Ok):X.Ok :=
 ⟨ok.mod,ok.kind,ok.glob,ok.blt,ok.above,ok.inj,ok.has,ok.cab,ok.hd,ok.frames,ok.stk,ok.exf,ok.bs,ok.bsz,ok.noex,ok.exfs,ok.funs,ok.frf⟩
section
variable {X:Cx}{pins:List (Addr×Obj)}{σ:St}{H:Hp}{s:Shared}{E:Value->Shared->Prop}
theorem Inv.wish (I:Inv X pins σ H s)(E:Value->Shared->Prop):Inv (X.wish E) pins σ H s:=⟨I.ok.wish E,I.os,I.bare,I.base,I.loc,I.cell,I.free,I.freeC,I.pin,I.hok,I.len⟩
theorem Inv.unwish (I:Inv (X.wish E) pins σ H s):Inv X pins σ H s:=⟨I.ok.unwish,I.os,I.bare,I.base,I.loc,I.cell,I.free,I.freeC,I.pin,I.hok,I.len⟩
theorem SP.unwish {D:Ends}{f:Flow}{s':Shared}(h:SP (X.wish E) pins D f s'):SP X pins D f s':=by
 cases f with
 | next=>obtain ⟨σ',H',I,q⟩:=h;exact ⟨σ',H',I.unwish,q⟩
 | brk=>obtain ⟨σ',H',I,q⟩:=h;exact ⟨σ',H',I.unwish,q⟩
 | cont=>obtain ⟨σ',H',I,q⟩:=h;exact ⟨σ',H',I.unwish,q⟩
 | ret u=>obtain ⟨v,σ',H',I,r,q⟩:=h;exact ⟨v,σ',H',I.unwish,r,q⟩
theorem PSs.nox {st:List Stmt}{t:TS}(h:PSs X.nox st t):PSs X st t:=fun pins s σ H D I hw =>
 wpAny_mono (h pins s σ H D (I.wish _) hw) (fun _ _ q=>q.unwish) fun _ _ z=>False.elim z
end

section
variable {X:Cx}{st:Stmt}{rest:List Stmt}{t u:TS}{e:Expr}{te:TE}{pos:Pos}
def Dd:TS:=fun D σ H=>D.nx σ H
def Bb (t u:TS):TS:=fun D σ H=>t { D with nx:=u D } σ H
theorem bh:PSs X [] Dd:=fun _ _ σ H _ I h=>wpAny_execs_nil ⟨σ,H,I,h⟩
theorem aB (h1:PS X st t)(h2:PSs X rest u):PSs X (st::rest) (Bb t u):=by
 intro pins s σ H D I h
 refine wpAny_execs_cons (thn (h1 pins s σ H { D with nx:=u D } I h) fun f s1 q=>?_)
 cases f with
 | next =>
  obtain ⟨σ',H',I',q⟩:=q
  exact h2 pins s1 σ' H' D I' q
 | ret v=>exact q
 | brk=>exact q
 | cont=>exact q
theorem aH (h1:PS X st t):PSs X [st] t:=by
 intro pins s σ H D I h
 refine wpAny_execs_cons (thn (h1 pins s σ H D I h) fun f s1 q=>?_)
 cases f with
 | next=>exact wpAny_execs_nil q
 | ret v=>exact q
 | brk=>exact q
 | cont=>exact q
theorem Inv.quiet {pins:List (Addr×Obj)}{σ:St}{H:Hp}{s:Shared}(I:Inv X pins σ H s):interactive X.env=false:=by simp [interactive,I.ok.kind]
def FJ (te:TE):TS:=fun D σ H=>te σ H fun _ H1=>D.nx σ H1
theorem bA (he:PE X e te)(hs:swapsWith e none pos.line X.env=pure false:=by rfl):PS X (.Expr e pos) (FJ te):=by
 intro pins s σ H D I h
 exact wpAny_Expr_any (thn (he pins s σ H _ I h) fun v s1 ⟨x,H1,I1,r1,q1⟩=>⟨σ,H1,I1,q1⟩) I.quiet hs
def DW (te:TE):TS:=fun D σ H=>te σ H D.rt
theorem aU (he:PE X e te):PS X (.Return (some e) pos) (DW te):=by
 intro pins s σ H D I h
 exact wpAny_Return_some (thn (he pins s σ H _ I h) fun v s1 ⟨x,H1,I1,r1,q1⟩=>⟨x,σ,H1,I1,r1,q1⟩)
def HS (c:TT)(t u:TS):TS:=fun D σ H=>c σ H fun b H1=>if b=true then t D σ H1 else u D σ H1
theorem cu {c:Expr}{a b:List Stmt}{tc:TT}(hc:PT X c tc)(ha:PSs X a t)(hb:PSs X b u):PS X (.If c a b pos) (HS tc t u):=by
 intro pins s σ H D I h
 refine wpAny_If (thn (hc pins s σ H _ I h) fun d s1 ⟨H1,I1,q1⟩=>?_)
 cases d with
 | true=>exact ha pins s1 σ H1 D I1 q1
 | false=>exact hb pins s1 σ H1 D I1 q1
def yq:TS:=fun _ _ _=>False
theorem dz:PS X st yq:=fun _ _ _ _ _ _ h=>h.elim
theorem oW {sts:List Stmt}:PSs X sts yq:=fun _ _ _ _ _ _ h=>h.elim
end

abbrev TG:=V->St->Hp->(St->Hp->Prop)->Prop
abbrev TGs:=List V->St->Hp->(St->Hp->Prop)->Prop
def PG (X:Cx)(target:Expr)(t:TG):Prop :=
 ∀ (pins:List (Addr×Obj)) (s:Shared) (σ:St) (H:Hp) (v:V) (u:Value) (Q:St->Hp->Prop),Inv X pins σ H s->RelV v u->t v σ H Q ->
  wpAny (model X.prog X.w) X.A (assign target X.env u) (fun _ s'=>∃ σ' H',Inv X pins σ' H' s'/\Q σ' H') X.xe s
def PGs (X:Cx)(ts:List Expr)(t:TGs):Prop :=
 ∀ (pins:List (Addr×Obj)) (s:Shared) (σ:St) (H:Hp) (vs:List V) (us:List Value) (Q:St->Hp->Prop),Inv X pins σ H s->Vals vs us->t vs σ H Q ->
  wpAny (model X.prog X.w) X.A (assignInOrder ((assignEach ts X.env).map (·.2)) us) (fun _ s'=>∃ σ' H',Inv X pins σ' H' s'/\Q σ' H') X.xe s
abbrev yr:=V->V->V->Hp->(Hp->Prop)->Prop
def DX (X:Cx)(t:yr):Prop :=
 ∀ (pins:List (Addr×Obj)) (s:Shared) (σ:St) (H:Hp) (o i v:V) (ov iv u:Value) (Q:Hp->Prop),Inv X pins σ H s->RelV o ov->RelV i iv->RelV v u->t o i v H Q ->
  wpAny (model X.prog X.w) X.A (setItem ov iv u) (fun _ s'=>∃ H',Inv X pins σ H' s'/\Q H') X.xe s
abbrev TIp:=V->V->Hp->VK->Prop
def PIp (X:Cx)(op:Operator)(t:TIp):Prop :=
 ∀ (pins:List (Addr×Obj)) (s:Shared) (σ:St) (H:Hp) (x y:V) (v u:Value) (Q:VK),Inv X pins σ H s->RelV x v->RelV y u->t x y H Q ->
  wpAny (model X.prog X.w) X.A (inplaceOp op v u) (EP X pins σ Q) X.xe s
section
variable {X:Cx}{pos:Pos}
def bK (i:Nat):TG:=fun v σ H Q=>Q (σ.set i (some v)) H
theorem au {i:Nat}{x:Str}(hN:X.N.Nodup)(hi:X.N[i]?=some x)(hx:Loc X.env.scope x)(hf:X.fn x=true\/X.env.scope.names.lookup x=some .local:=by first | exact .inl rfl | exact .inr rfl | assumption):PG X (.Name x pos) (bK i):=by
 intro pins s σ H v u Q I r h
 exact wpAny_assign_Name (gC I hN hi hx r (fun s' I'=>⟨_,H,I',h⟩) hf)
def lV:TGs:=fun vs σ H Q=>vs=[]/\Q σ H
def cA (t:TG)(u:TGs):TGs:=fun vs σ H Q=>∃ v r,vs=v::r/\t v σ H fun σ' H'=>u r σ' H' Q
theorem aY:PGs X [] lV:=by
 intro pins s σ H vs us Q I r h
 obtain ⟨e,h⟩:=h
 subst e
 cases r
 exact assignInOrder_nil ⟨σ,H,I,h⟩
theorem aq {e:Expr}{es:List Expr}{t:TG}{u:TGs}(h1:PG X e t)(h2:PGs X es u)
  (hs:(assignEach (e::es) X.env).map (·.2)=assign e X.env::(assignEach es X.env).map (·.2):=by rfl):PGs X (e::es) (cA t u):=by
 intro pins s σ H vs us Q I r h
 obtain ⟨v,vr,e1,h⟩:=h
 subst e1
 cases r with
 | cons r rr =>
  rw [hs]
  refine assignInOrder_cons (thn (h1 pins s σ H _ _ _ I r h) fun _ s1 ⟨σ1,H1,I1,q1⟩=>?_)
  exact h2 pins s1 σ1 H1 _ _ Q I1 rr q1
inductive GTupI (K:PySem.W.Frag)(n:Nat)(t:TGs)(v:V)(σ:St)(H:Hp)(Q:St->Hp->Prop):Prop
 | mk:∀ a xs,(v=.ref a)->(SqT K H a xs)->(xs.length=n)->(t xs σ H Q)->GTupI K n t v σ H Q
def lq (K:PySem.W.Frag)(n:Nat)(t:TGs):TG:=fun v σ H Q=>GTupI K n t v σ H Q
theorem bU {es:List Expr}{k:Nat}{t:TGs}{n:Nat}(hc:X.calm=true)(h:PGs X es t)
  (hn:(assignEach es X.env).length=n:=by rfl) (hst:(assignEach es X.env).findIdx? (·.1)=none:=by rfl):PG X (.Tuple es k pos) (lq X.K n t):=by
 intro pins s σ H v u Q I r hw
 obtain ⟨a,xs,e1,hq,hl,hw⟩:=hw
 subst e1
 cases r
 obtain ⟨its,rv,ht,hz⟩:=I.tuple hq
 refine assign_Tuple_tuple (I.ok.hd hc) ht (by simp [hn,<- hl,rv.length]) hst fun h' hx=>?_
 have I1:Inv X pins σ H { s with heap:=h' }:=I.kept (t':=s.toks) fun b o e=>hx b o (Nat.ne_of_lt (Heap.lt_size e)) e
 exact h pins _ σ H xs _ Q I1 (by simpa using rv) hw
def HW (to ti:TE)(t:yr):TG:=fun v σ H Q=>to σ H fun o H1=>ti σ H1 fun i H2=>t o i v H2 fun H3=>Q σ H3
theorem qm {o i:Expr}{to ti:TE}{t:yr}(ho:PE X o to)(hi:PE X i ti)(hs:DX X t)
  (ha:∀ v,assign (.Subscript o i pos) X.env v=(do
   let ov <- holding [v] (eval o X.env)
   let iv <- holding [v,ov] (eval i X.env)
   standAt pos
   holding [v,ov,iv] (setItem ov iv v)
   release [v,ov,iv] []):=by intro _;rfl):PG X (.Subscript o i pos) (HW to ti t):=by
 intro pins s σ H v u Q I r h
 rw [ha]
 refine wpAny_bind (wpAny_holding (thn (ho pins s σ H _ I h) fun ov s1 ⟨x,H1,I1,r1,q1⟩=>?_))
 refine wpAny_bind (wpAny_holding (thn (hi pins s1 σ H1 _ I1 q1) fun iv s2 ⟨y,H2,I2,r2,q2⟩=>?_))
 refine wpAny_bind (wpAny_standAt (wpAny_bind (wpAny_holding (thn (hs pins s2 σ H2 x y v ov iv u _ I2 r1 r2 r q2) fun _ s3 ⟨H3,I3,q3⟩=>?_))))
 exact wpAny_release ⟨σ,H3,I3,q3⟩
def Bc (te:TE)(g:TG):TS:=fun D σ H=>te σ H fun x H1=>g x σ H1 D.nx
theorem cB {tg e:Expr}{te:TE}{g:TG}(he:PE X e te)(hg:PG X tg g)(hs:swapsWithSole [tg] e pos.line X.env=pure false:=by rfl)(hw:swappedStores [tg] e X.env=pure none:=by rfl)
  (h1:(assignEach [tg] X.env).map (·.2)=[assign tg X.env]:=by rfl):PS X (.Assign [tg] e pos) (Bc te g):=by
 intro pins s σ H D I h
 refine wpAny_Assign_stores (thn (he pins s σ H _ I h) fun v s1 ⟨x,H1,I1,r1,q1⟩=>?_) hs hw
 rw [h1]
 exact thn (hg pins s1 σ H1 x v _ I1 r1 q1) fun _ s2 q=>q
theorem bf {i:Nat}{x:Str}{e:Expr}{te:TE}{pos':Pos}(hN:X.N.Nodup)(hi:X.N[i]?=some x)(hx:Loc X.env.scope x)(he:PE X e te)(hs:swapsWith e (some (.Name x pos')) pos.line X.env=pure false:=by rfl)(hf:X.fn x=true\/X.env.scope.names.lookup x=some .local:=by first | exact .inl rfl | exact .inr rfl | assumption) :
  PS X (.Assign [.Name x pos'] e pos) (Bc te (bK i)):=by
 intro pins s σ H D I h
 refine wpAny_Assign_Name (thn (he pins s σ H _ I h) fun v s1 ⟨y,H1,I1,r1,q1⟩=>?_) hs
 exact gC I1 hN hi hx r1 (fun s2 I2=>⟨_,H1,I2,q1⟩) hf
def HX (i j:Nat)(ta:TA):TS:=fun D σ H=>ta σ H fun vs H1=>∃ v w,vs=[v,w]/\D.nx ((σ.set i (some v)).set j (some w)) H1
theorem yt {i j:Nat}{x y:Str}{a b:Expr}{ta:TA}{px py pt:Pos}{kt k2 pt2}(hc:X.calm=true)(hN:X.N.Nodup)(hi:X.N[i]?=some x)(hj:X.N[j]?=some y)(hij:i≠j)
  (hx:X.env.scope.names.lookup x=some .local) (hy:X.env.scope.names.lookup y=some .local) (ha:PA X [a,b] ta)
  (hw:swappedStores [.Tuple [.Name x px,.Name y py] kt pt] (.Tuple [a,b] k2 pt2) X.env=pure (some [x,y]))
  (hs:swapsWithSole [.Tuple [.Name x px,.Name y py] kt pt] (.Tuple [a,b] k2 pt2) pos.line X.env=pure false:=by rfl) :
  PS X (.Assign [.Tuple [.Name x px,.Name y py] kt pt] (.Tuple [a,b] k2 pt2) pos) (HX i j ta):=by
 intro pins s σ H D I h
 rw [exec_Assign_arm]
 refine wpAny_bind (wpAny_standAt ?_)
 rw [hs]
 refine wpAny_bind (wpAny_pure ?_)
 rw [if_neg (by decide)]
 refine wpAny_bind (Tuple_ (thn (ha _ pins s σ H _ I h) fun us s1 ⟨vs,H1,I1,r1,q1⟩=>?_))
 obtain ⟨v,w,e1,q1⟩:=q1
 subst e1
 obtain ⟨u1,u2,rfl,rv,rw'⟩:∃ u1 u2,us=[u1,u2]/\RelV v u1/\RelV w u2:=by
  cases r1 with
  | cons p q =>
   cases q with
   | cons p' q' =>
    cases q'
    exact ⟨_,_,rfl,p,p'⟩
 refine wpAny_newObj_type ?_ (by show 2<=sizeLine;decide)
 have I2:Inv X pins σ H1 { s1 with heap:=s1.heap.push { cls:=.type "tuple",data:=.seq [u1,u2].toArray } }:=I1.kept (t':=s1.toks) fun b o e=>Heap.get?_push_of_some _ e
 rw [hw]
 refine wpAny_bind (wpAny_pure ?_)
 show wpAny (model X.prog X.w) X.A (do rule "assign.swapped-stores";let items <- unpackItems (.ref s1.heap.objs.size) 2 none;assignInOrder [fun v=>bindName X.env y v,fun v=>bindName X.env x v] items.reverse;pure Flow.next) _ _ _
 refine wpAny_bind (wpAny_rule (wpAny_bind (unpackItems_tuple (items:=#[u1,u2]) (I.ok.hd hc) (IsTup.new s1.heap _) fun h' hx'=>?_)))
 have I3:=I2.kept (h':=h') (t':=s1.toks) fun b o e=>hx' b o (Nat.ne_of_lt (Heap.lt_size e)) e
 show wpAny _ _ (assignInOrder [fun v=>bindName X.env y v,fun v=>bindName X.env x v] [u2,u1] >>= fun _=>pure Flow.next) _ _ _
 refine wpAny_bind (assignInOrder_cons (wpAny_bindName (gC I3 hN hj (.inl hy) rw' (fun s2 I4=>?_) (.inr hy))))
 refine assignInOrder_cons (wpAny_bindName (gC I4 hN hi (.inl hx) rv (fun s3 I5=>assignInOrder_nil (wpAny_pure ?_)) (.inr hx)))
 rw [List.set_comm _ _ (Ne.symm hij)] at I5
 exact ⟨_,H1,I5,q1⟩
inductive TAugI (i:Nat)(te:TE)(ti:TIp)(D:Ends)(σ:St)(H:Hp):Prop
 | mk:∀ x,(σ[i]?=some (some x))->(te σ H fun y H1=>ti x y H1 fun z H2=>D.nx (σ.set i (some z)) H2)->TAugI i te ti D σ H
def HY (i:Nat)(te:TE)(ti:TIp):TS:=fun D σ H=>TAugI i te ti D σ H
theorem lW {i:Nat}{x:Str}{e:Expr}{te:TE}{op:Operator}{ti:TIp}{pos':Pos}(hN:X.N.Nodup)(hi:X.N[i]?=some x)(hx:Loc X.env.scope x)(he:PE X e te)(ho:PIp X op ti)(hf:X.fn x=true\/X.env.scope.names.lookup x=some .local:=by first | exact .inl rfl | exact .inr rfl | assumption) :
  PS X (.AugAssign (.Name x pos') op e pos) (HY i te ti):=by
 intro pins s σ H D I h
 obtain ⟨v,e1,h⟩:=h
 obtain ⟨m,hn,hl⟩:=I.loc
 have vis:Vis X.env.scope x:=by rcases hx with k | k;exact .inl k;exact .inr (.inl k)
 obtain ⟨u,r,l⟩:=hl i x v hi e1 vis
 refine wpAny_AugAssign_Name ?_
 have go:wpAny (model X.prog X.w) X.A (eval e X.env) (fun w s₂=>wpAny (model X.prog X.w) X.A (inplaceOp op u w) (fun r s₃=>wpAny (model X.prog X.w) X.A (storeName X.env x r) (fun _=>SP X pins D .next) X.xe s₃) X.xe s₂) X.xe s:=by
  refine thn (he pins s σ H _ I h) fun w s1 ⟨y,H1,I1,r1,q1⟩=>?_
  refine thn (ho pins s1 σ H1 v y u w _ I1 r r1 q1) fun z s2 ⟨zv,H2,I2,r2,q2⟩=>?_
  exact gC I2 hN hi hx r2 (fun s3 I3=>⟨_,H2,I3,q2⟩) hf
 rcases l with ⟨hk,hm⟩ | ⟨hk,c,hc,hcell⟩
 ·exact wpAny_loadName_local I.ok.kind hk hn hm go
 ·rcases hk with hk | hk
  ·exact wpAny_loadName_cell I.ok.kind hk hc hcell go
  ·rcases hx with k | k
   ·have:X.env.scope.names.lookup x=some .free:=hk
    rw [k] at this;cases this
   ·have:X.env.scope.names.lookup x=some .free:=hk
    rw [k] at this;cases this
def FN (to ti te:TE)(tget:V->V->Hp->VK->Prop)(tip:TIp)(tset:yr):TS:=fun D σ H=>to σ H fun o H1=>ti σ H1 fun i H2=>tget o i H2 fun x H3=>te σ H3 fun y H4=>tip x y H4 fun z H5=>tset o i z H5 fun H6=>D.nx σ H6
def DY (X:Cx)(t:V->V->Hp->VK->Prop):Prop :=
 ∀ (pins:List (Addr×Obj)) (s:Shared) (σ:St) (H:Hp) (o i:V) (ov iv:Value) (Q:VK),Inv X pins σ H s->RelV o ov->RelV i iv->t o i H Q ->
  wpAny (model X.prog X.w) X.A (getItem ov iv) (EP X pins σ Q) X.xe s
theorem qp {o i e:Expr}{to ti te:TE}{tget:V->V->Hp->VK->Prop}{tip:TIp}{tset:yr}{op:Operator}{tpos:Pos}(ho:PE X o to)(hi:PE X i ti)(hg:DY X tget)(he:PE X e te)(hp:PIp X op tip)(hs:DX X tset)
  (ha:∀ ov iv new,augStore i ov iv new=(do holding [new,ov,iv] (setItem ov iv new);release [new,ov,iv] [];pure .next):=by intros;rfl):PS X (.AugAssign (.Subscript o i tpos) op e pos) (FN to ti te tget tip tset):=by
 intro pins s σ H D I h
 refine wpAny_AugAssign_SubscriptAny (thn (ho pins s σ H _ I h) fun ov s1 ⟨x1,H1,I1,r1,q1⟩=>?_) ha
 refine thn (hi pins s1 σ H1 _ I1 q1) fun iv s2 ⟨x2,H2,I2,r2,q2⟩=>?_
 refine thn (hg pins s2 σ H2 x1 x2 ov iv _ I2 r1 r2 q2) fun old s3 ⟨x3,H3,I3,r3,q3⟩=>?_
 refine thn (he pins s3 σ H3 _ I3 q3) fun v s4 ⟨x4,H4,I4,r4,q4⟩=>?_
 refine thn (hp pins s4 σ H4 x3 x4 old v _ I4 r3 r4 q4) fun new s5 ⟨x5,H5,I5,r5,q5⟩=>?_
 exact thn (hs pins s5 σ H5 x1 x2 x5 ov iv new _ I5 r1 r2 r5 q5) fun _ s6 ⟨H6,I6,q6⟩=>⟨σ,H6,I6,q6⟩
def ipI (f:Int->Int->Int):TIp:=fun x y H Q=>∃ i j,x=.int i/\y=.int j/\Q (.int (f i j)) H
theorem yu:PIp X .Add (ipI fun i j=>i+j):=by
 intro pins s σ H x y v u Q I r1 r2 h
 obtain ⟨i,j,e1,e2,q⟩:=h
 subst e1;subst e2
 obtain ⟨t,rfl⟩:=r1
 obtain ⟨t',rfl⟩:=r2
 exact iadd_int ⟨.int _,H,I.tok _,⟨_,rfl⟩,q⟩
theorem yw:PIp X .Sub (ipI fun i j=>i - j):=by
 intro pins s σ H x y v u Q I r1 r2 h
 obtain ⟨i,j,e1,e2,q⟩:=h
 subst e1;subst e2
 obtain ⟨t,rfl⟩:=r1
 obtain ⟨t',rfl⟩:=r2
 exact isub_int ⟨.int _,H,I.tok _,⟨_,rfl⟩,q⟩
end

section
variable {X:Cx}{pos:Pos}
def Ea (c:TT)(tb:TS):TS:=fun D σ H=>∃ W:Nat->St->Hp->Prop,(∃ m,W m σ H)/\∀ m σ H,W m σ H ->
 c σ H fun b H1=>if b=true then ∃ N:St->Hp->Prop,(∀ σ' H',N σ' H'->∃ m',m' < m/\W m' σ' H')/\tb { D with nx:=N,ct:=N,bk:=D.nx } σ H1 else D.nx σ H1
theorem yx {c:Expr}{body:List Stmt}{tc:TT}{tb:TS}(hp:PassesOwn (model X.prog X.w) X.A X.env X.xe)(hc:PT X c tc)(hb:PSs X body tb):PS X (.While c body [] pos) (Ea tc tb):=by
 intro pins s σ H D I h
 obtain ⟨W,⟨m0,w0⟩,turn⟩:=h
 refine wpAny_While (codeAny_whileLoop (fun n s'=>∃ σ' H',Inv X pins σ' H' s'/\W n σ' H') ?_ m0 ⟨σ,H,I,w0⟩)
 rintro n s1 ⟨σ1,H1,I1,w1⟩
 refine wpAny_passesOwn hp (thn (hc pins s1 σ1 H1 _ I1 (turn n σ1 H1 w1)) fun b s2 ⟨H2,I2,q2⟩=>?_)
 cases b with
 | true =>
  obtain ⟨N,hN,q2⟩:=q2
  rw [if_pos rfl]
  refine wpAny_passesOwn hp (thn (hb pins s2 σ1 H2 _ I2 q2) fun f s3 q3=>?_)
  cases f with
  | next =>
   obtain ⟨σ3,H3,I3,n3⟩:=q3
   obtain ⟨m',hm,w3⟩:=hN σ3 H3 n3
   exact ⟨m',hm,σ3,H3,I3,w3⟩
  | cont =>
   obtain ⟨σ3,H3,I3,n3⟩:=q3
   obtain ⟨m',hm,w3⟩:=hN σ3 H3 n3
   exact ⟨m',hm,σ3,H3,I3,w3⟩
  | brk=>exact q3
  | ret v=>exact q3
 | false =>
  rw [if_neg zAg]
  exact wpAny_execs_nil ⟨σ1,H2,I2,q2⟩
end

structure It where
 go:Nat->Hp->Prop
 yld:Nat->Hp->V->Hp->Prop
 stop:Nat->Hp->Prop
def qt (X:Cx)(pins:List (Addr×Obj))(H:Hp)(b:Addr):Prop :=
 H b=none/\b≠X.env.locals/\b ∉ X.fs/\(b∈X.ex\/X.s₀.heap.objs.size<=b)/\(∀ x c,X.env.cells.lookup x=some c->c≠b)/\∀ p∈X.pn++pins,p.1≠b
theorem Inv.fpOk {X:Cx}{pins:List (Addr×Obj)}{σ:St}{H H':Hp}{s:Shared}{b:Addr}(I:Inv X pins σ H s)(hb:s.heap.objs.size<=b)(hn:H' b=none):qt X pins H' b:=by
 refine ⟨hn,Nat.ne_of_gt (Nat.lt_of_lt_of_le I.lt hb),I.nofs hb,.inr (Nat.le_trans I.sz hb),fun x c e z=>?_,fun p hp z=>?_⟩
 ·obtain ⟨v,q⟩:=I.cell x c e
  exact absurd (Nat.lt_of_lt_of_le q.lt (by rw [z];exact hb)) (Nat.lt_irrefl _)
 ·exact absurd (Nat.lt_of_lt_of_le (Heap.lt_size (I.pin p hp).1) (by rw [z];exact hb)) (Nat.lt_irrefl _)
structure Turn (P:Program)(w:World)(K:PySem.W.Frag)(tg:Expr)(J:It)(fp:List Addr)(it:Addr)(tn:Nat->Heap->Prop):Prop where
 mem:it∈fp
 obj:∀ i h,tn i h->∀ b∈fp,∃ o,h.get? b=some o/\∀ v,o.data≠.cell v
 keep:∀ i h h',tn i h->(∀ b∈fp,∀ o,h.get? b=some o->h'.get? b=some o)->tn i h'
 item:∀ (X:Cx),X.prog=P->X.w=w->X.K=K->X.calm=true->∀ (i:Nat) (pins:List (Addr×Obj)) (s:Shared) (σ:St) (H:Hp) (E:Value->Shared->Prop),Inv X pins σ H s->(∀ b∈fp,qt X pins H b)->tn i s.heap->J.go i H ->
  wpAny (model P w) X.A (pyNext (.ref it)) (fun r s1=>∃ u,r=some u /\
   wpAny (model P w) X.A (letOwnedTupleGo tg (.ref it) u) (fun _ s2=>∃ x H',Inv X pins σ H' s2/\RelV x u/\J.yld i H x H'/\tn (i+1) s2.heap/\∀ b∈fp,H' b=none) E s1) E s
 done:∀ (X:Cx),X.prog=P->X.w=w->X.K=K->X.calm=true->∀ (i:Nat) (pins:List (Addr×Obj)) (s:Shared) (σ:St) (H:Hp) (E:Value->Shared->Prop),Inv X pins σ H s->(∀ b∈fp,qt X pins H b)->tn i s.heap->J.stop i H ->
  wpAny (model P w) X.A (pyNext (.ref it)) (fun r s1=>r=none/\Inv X pins σ H s1) E s
 self:∀ (A:Around) (i:Nat) (s:Shared) (Q:Value->Shared->Prop) (E:Value->Shared->Prop),tn i s.heap->Q (.ref it) s->wpAny (model P w) A (pyIter (.ref it)) Q E s
abbrev TI:=St->Hp->(It->Hp->Prop)->Prop
def PIE (X:Cx)(pins:List (Addr×Obj))(σ:St)(tg:Expr)(R:It->Hp->Prop)(itv:Value)(s2:Shared):Prop :=
 ∃ (it:Addr) (fp:List Addr) (tn:Nat->Heap->Prop) (J:It) (H':Hp),itv=.ref it/\Inv X pins σ H' s2/\Turn X.prog X.w X.K tg J fp it tn/\tn 0 s2.heap/\(∀ b∈fp,qt X pins H' b)/\R J H'
def PI (X:Cx)(tg iter:Expr)(wi:TI):Prop :=
 ∀ (pins:List (Addr×Obj)) (s:Shared) (σ:St) (H:Hp) (R:It->Hp->Prop),Inv X pins σ H s->wi σ H R ->
  wpAny (model X.prog X.w) X.A (eval iter X.env) (fun v s1=>wpAny (model X.prog X.w) X.A (pyIter v) (PIE X pins σ tg R) X.xe s1) X.xe s

theorem yz {M:Model}{A:Around}{E:Value->Shared->Prop}{s:Shared}{tg:Expr}{it:Addr}{u:Value}{o:Obj}{n:String}{vs:Array Value}{Q:Unit->Shared->Prop}(ho:s.heap.get? it=some o)(hc:o.cls=.type n)(hd:o.data=.fields vs)
  (hn:["enumerate","zip","dict_itemiterator","dict_reverseitemiterator","odict_iterator","itertools.zip_longest","itertools.pairwise"].contains n=false) (hQ:Q () s):wpAny M A (letOwnedTupleGo tg (.ref it) u) Q E s:=by
 unfold letOwnedTupleGo
 cases tg <;> first
  | exact wpAny_pure hQ
  | (cases u <;> first
    | exact wpAny_pure hQ
    | (refine wpAny_bind (wpAny_load ho ?_)
       rw [hc,hd]
       show wpAny M A (if (["enumerate","zip","dict_itemiterator","dict_reverseitemiterator","odict_iterator","itertools.zip_longest","itertools.pairwise"].contains n && vs[0]? == some (rawInt _))=true then _ else _) Q E s
       rw [if_neg (by intro h;rw [hn,Bool.false_and] at h;cases h)]
       exact wpAny_pure hQ))

def Itl (K:PySem.W.Frag)(a:Addr):It :=
 ⟨fun i H=>∃ xs x,SqL K H a xs/\xs[i]?=some x,fun i H x H'=>H'=H/\∀ xs,SqL K H a xs->xs[i]?=some x,fun i H=>∃ xs,SqL K H a xs/\xs.length<=i⟩
def Itt (K:PySem.W.Frag)(a:Addr):It :=
 ⟨fun i H=>∃ xs x,SqT K H a xs/\xs[i]?=some x,fun i H x H'=>H'=H/\∀ xs,SqT K H a xs->xs[i]?=some x,fun i H=>∃ xs,SqT K H a xs/\xs.length<=i⟩
def Itr (lo:Int)(n:Nat):It:=⟨fun i _=>i < n,fun i H x H'=>H'=H/\x=.int (lo+i),fun i _=>n<=i⟩
theorem wW {P:Program}{w:World}{K:PySem.W.Frag}{tg:Expr}(a it:Addr):Turn P w K tg (Itl K a) [it] it (fun i h=>h.IsListIter it a i) where
 mem:=by simp
 obj:=fun i h st b hb=>by
  have e:b=it:=by simpa using hb
  subst e
  obtain ⟨o,e,c,d⟩:=st
  exact ⟨o,e,fun v z=>by rw [d] at z;cases z⟩
 keep:=fun i h h' st k=>st.at fun o e=>k it (by simp) o e
 item:=by
  intro X hP hw hK hc i pins s σ H E I hf st hg
  subst hP hw hK
  obtain ⟨xs,x,hq,hx⟩:=hg
  obtain ⟨its,rv,p,hz⟩:=I.list hq
  obtain ⟨u,hu,ru⟩:=rv.get hx
  obtain ⟨f0,f1,f2,f3,f4,f5⟩:=hf it (by simp)
  refine wpAny_pyNext_list_item st p.isList (x:=u) (by simpa using hu) fun h' st' sb=>?_
  have I1:Inv X pins σ H { s with heap:=h' }:=I.turned (t':=s.toks) (fun b o hb e=>(sb.2 b hb).trans e) f0 f1 f3 f4 f5
  obtain ⟨o,e,c,d⟩:=id st'
  exact ⟨u,rfl,yz (s:={ s with heap:=h' }) e c d (by decide) ⟨x,H,I1,ru,⟨rfl,fun ys hy=>by rw [I.list_inj hy hq];exact hx⟩,st',fun b hb=>(hf b hb).1⟩⟩
 done:=by
  intro X hP hw hK hc i pins s σ H E I hf st hg
  subst hP hw hK
  obtain ⟨xs,hq,hx⟩:=hg
  obtain ⟨its,rv,p,hz⟩:=I.list hq
  obtain ⟨f0,f1,f2,f3,f4,f5⟩:=hf it (by simp)
  have hl:=rv.length
  exact wpAny_pyNext_list_end (I.ok.hd hc) st p.isList (by simp;lia) fun h' eb=>⟨rfl,I.turned (t':=s.toks) (fun b o hb e=>eb b o hb e) f0 f1 f3 f4 f5⟩
 self:=fun _ _ _ _ _ st h=>wpAny_pyIter_listiter st h
theorem ul {P:Program}{w:World}{K:PySem.W.Frag}{tg:Expr}(a it:Addr):Turn P w K tg (Itt K a) [it] it (fun i h=>h.IsTupleIter it a i) where
 mem:=by simp
 obj:=fun i h st b hb=>by
  have e:b=it:=by simpa using hb
  subst e
  obtain ⟨o,e,c,d⟩:=st
  exact ⟨o,e,fun v z=>by rw [d] at z;cases z⟩
 keep:=fun i h h' st k=>st.at fun o e=>k it (by simp) o e
 item:=by
  intro X hP hw hK hc i pins s σ H E I hf st hg
  subst hP hw hK
  obtain ⟨xs,x,hq,hx⟩:=hg
  obtain ⟨its,rv,p,hz⟩:=I.tuple hq
  obtain ⟨u,hu,ru⟩:=rv.get hx
  obtain ⟨f0,f1,f2,f3,f4,f5⟩:=hf it (by simp)
  refine wpAny_pyNext_tuple_item st (show s.heap.IsTuple a its.toArray from p) (x:=u) (by simpa using hu) fun h' st' sb=>?_
  have I1:Inv X pins σ H { s with heap:=h' }:=I.turned (t':=s.toks) (fun b o hb e=>(sb.2 b hb).trans e) f0 f1 f3 f4 f5
  obtain ⟨o,e,c,d⟩:=id st'
  exact ⟨u,rfl,yz (s:={ s with heap:=h' }) e c d (by decide) ⟨x,H,I1,ru,⟨rfl,fun ys hy=>by rw [I.tuple_inj hy hq];exact hx⟩,st',fun b hb=>(hf b hb).1⟩⟩
 done:=by
  intro X hP hw hK hc i pins s σ H E I hf st hg
  subst hP hw hK
  obtain ⟨xs,hq,hx⟩:=hg
  obtain ⟨its,rv,p,hz⟩:=I.tuple hq
  obtain ⟨f0,f1,f2,f3,f4,f5⟩:=hf it (by simp)
  have hl:=rv.length
  exact wpAny_pyNext_tuple_end (I.ok.hd hc) st (show s.heap.IsTuple a its.toArray from p) (by simp;lia) fun h' eb=>⟨rfl,I.turned (t':=s.toks) (fun b o hb e=>eb b o hb e) f0 f1 f3 f4 f5⟩
 self:=fun _ _ _ _ _ st h=>wpAny_pyIter_tupleiter st h
theorem um {P:Program}{w:World}{K:PySem.W.Frag}{tg:Expr}(it:Addr)(lo:Int)(n:Nat):Turn P w K tg (Itr lo n) [it] it (fun i h=>IsRangeIter h it (lo+(i:Nat) * 1) ((n:Int) - (i:Nat)) 1) where
 mem:=by simp
 obj:=fun i h st b hb=>by
  have e:b=it:=by simpa using hb
  subst e
  exact ⟨_,st,fun v z=>by
   have z':Data.fields _=Data.cell v:=z
   cases z'⟩
 keep:=fun i h h' st k=>k it (by simp) _ st
 item:=by
  intro X hP hw hK hc i pins s σ H E I hf st hg
  subst hP hw hK
  obtain ⟨f0,f1,f2,f3,f4,f5⟩:=hf it (by simp)
  have W:=Walks.range (prog:=X.prog) (w:=X.w) (I.ok.hd hc) it lo 1 n
  refine W.item i s _ _ hg st fun v h' tk hv st' kk=>?_
  obtain ⟨t,rfl⟩:=hv
  have I1:Inv X pins σ H { s with heap:=h',toks:=tk }:=I.turned (fun b o hb e=>kk b o (by simpa using hb) e) f0 f1 f3 f4 f5
  refine ⟨_,rfl,yz (s:={ s with heap:=h',toks:=tk }) (n:="range_iterator") st' rfl rfl (by decide) ⟨.int (lo+i),H,I1,⟨t,?_⟩,⟨rfl,rfl⟩,st',fun b hb=>(hf b hb).1⟩⟩
  rw [Int.mul_one]
 done:=by
  intro X hP hw hK hc i pins s σ H E I hf st hg
  subst hP hw hK
  obtain ⟨f0,f1,f2,f3,f4,f5⟩:=hf it (by simp)
  exact wpAny_pyNext_range_end (I.ok.hd hc) st (by have:n<=i:=hg;lia) fun h' eb=>⟨rfl,I.turned (t':=s.toks) (fun b o hb e=>eb b o hb e) f0 f1 f3 f4 f5⟩
 self:=fun _ _ _ _ _ st h=>wpAny_pyIter_rangeiter st h
end L2

namespace L2
open PySem PySem.Spec PyProof.Rows
section
variable {X:Cx}{tg:Expr}
def FP (K:PySem.W.Frag)(tl:TE):TI:=fun σ H R=>tl σ H fun x H1=>∃ a,x=.ref a/\(∃ xs,SqL K H1 a xs)/\R (Itl K a) H1
def Eb (K:PySem.W.Frag)(tl:TE):TI:=fun σ H R=>tl σ H fun x H1=>∃ a,x=.ref a/\(∃ xs,SqT K H1 a xs)/\R (Itt K a) H1
theorem fX {l:Expr}{tl:TE}(hl:PE X l tl):PI X tg l (FP X.K tl):=by
 intro pins s σ H R I h
 refine thn (hl pins s σ H _ I h) fun v s1 ⟨x,H1,I1,r1,q1⟩=>?_
 obtain ⟨a,e,⟨xs,hq⟩,q⟩:=q1
 subst e
 cases r1
 obtain ⟨its,rv,p,hz⟩:=I1.list hq
 refine wpAny_pyIter_list p.isList ?_
 refine ⟨s1.heap.objs.size,[s1.heap.objs.size],_,_,H1,rfl,I1.kept (t':=s1.toks) fun b o e=>Heap.get?_push_of_some _ e,wW a _,⟨_,Heap.get?_push_size _ rfl,rfl,rfl⟩,fun b hb=>?_,q⟩
 have e:b=s1.heap.objs.size:=by simpa using hb
 subst e
 exact I1.fpOk (zA3 _) (I1.hok.fresh (zA3 _))
theorem dU {l:Expr}{tl:TE}(hl:PE X l tl):PI X tg l (Eb X.K tl):=by
 intro pins s σ H R I h
 refine thn (hl pins s σ H _ I h) fun v s1 ⟨x,H1,I1,r1,q1⟩=>?_
 obtain ⟨a,e,⟨xs,hq⟩,q⟩:=q1
 subst e
 cases r1
 obtain ⟨its,rv,p,hz⟩:=I1.tuple hq
 refine wpAny_pyIter_tuple (show s1.heap.IsTuple a its.toArray from p) ?_
 refine ⟨s1.heap.objs.size,[s1.heap.objs.size],_,_,H1,rfl,I1.kept (t':=s1.toks) fun b o e=>Heap.get?_push_of_some _ e,ul a _,⟨_,Heap.get?_push_size _ rfl,rfl,rfl⟩,fun b hb=>?_,q⟩
 have e:b=s1.heap.objs.size:=by simpa using hb
 subst e
 exact I1.fpOk (zA3 _) (I1.hok.fresh (zA3 _))
theorem rK {pins:List (Addr×Obj)}{σ:St}{H:Hp}{s:Shared}{R:It->Hp->Prop}{E:Value->Shared->Prop}{lo hi:Int}{t u v:Tok}{tk:Nat}(I:Inv X pins σ H s)(h1:-(2 ^ 62)<=lo)(h2:lo < 2 ^ 62)(h3:-(2 ^ 62)<=hi)(h4:hi < 2 ^ 62)
  (q:R (Itr lo (hi - lo).toNat) H):wpAny (model X.prog X.w) X.A (pyIter (.ref s.heap.objs.size)) (PIE X pins σ tg R) E { s with heap:=s.heap.push { cls:=.type "range",data:=.fields #[.int lo t,.int hi u,.int 1 v] },toks:=tk }:=by
 refine wpAny_pyIter_range (IsRange.new ..) (small_one h1 h2 h3 h4) ?_
 have I1:Inv X pins σ H { s with heap:=s.heap.push { cls:=.type "range",data:=.fields #[.int lo t,.int hi u,.int 1 v] },toks:=tk }:=I.kept fun b o e=>Heap.get?_push_of_some _ e
 refine ⟨(s.heap.push { cls:=.type "range",data:=.fields #[.int lo t,.int hi u,.int 1 v] }).objs.size,[(s.heap.push { cls:=.type "range",data:=.fields #[.int lo t,.int hi u,.int 1 v] }).objs.size],_,_,H,rfl,
  I1.kept (t':=tk) fun b o e=>Heap.get?_push_of_some _ e,um _ lo (hi - lo).toNat,?_,fun b hb=>?_,q⟩
 ·have e1:lo+((0:Nat):Int) * 1=lo:=by simp
  have e2:(((hi - lo).toNat:Nat):Int) - ((0:Nat):Int)=Builtin.Range.rangeSize lo hi 1:=by rw [rangeSize_one];split <;> lia
  show IsRangeIter _ _ (lo+((0:Nat):Int) * 1) ((((hi - lo).toNat:Nat):Int) - ((0:Nat):Int)) 1
  rw [e1,e2]
  exact Heap.get?_push_size _ rfl
 ·have e:b=(s.heap.push { cls:=.type "range",data:=.fields #[.int lo t,.int hi u,.int 1 v] }).objs.size:=by simpa using hb
  subst e
  exact I1.fpOk (zA3 _) (I1.hok.fresh (zA3 _))
def FQ (ta:TA):TI:=fun σ H R=>ta σ H fun vs H1=>∃ j:Int,vs=[.int j]/\-(2 ^ 62)<=j/\j < 2 ^ 62/\R (Itr 0 j.toNat) H1
def FT (ta:TA):TI:=fun σ H R=>ta σ H fun vs H1=>∃ i j:Int,vs=[.int i,.int j]/\(-(2 ^ 62)<=i/\i < 2 ^ 62/\-(2 ^ 62)<=j/\j < 2 ^ 62)/\R (Itr i (j - i).toNat) H1
theorem cT {a:Expr}{ta:TA}{p pos:Pos}(hg:Gl X "range")(hm:X.mg "range" = none)(ha:PA X [a] ta)(hs:starEach [a] X.env=[(false,eval a X.env)]:=by rfl):PI X tg (.Call (.Name "range" p) [a] [] pos) (FQ ta):=by
 intro pins s σ H R I h
 refine Call_ (gF I hg hm boot_range (PyProof.Rows.callWith_type1 (thn (ha pos pins s σ H _ I h) fun us s1 ⟨vs,H1,I1,r1,q1⟩=>?_) hs rfl))
 obtain ⟨j,e,q1,q2,q⟩:=q1
 subst e
 cases r1 with
 | cons r rr =>
  cases rr
  obtain ⟨t,rfl⟩:=r
  exact call_range_1 (rK I1 (by lia) (by lia) q1 q2 (by simpa using q))
theorem ig {a b:Expr}{ta:TA}{p pos:Pos}(hg:Gl X "range")(hm:X.mg "range" = none)(ha:PA X [a,b] ta)(hs:starEach [a,b] X.env=[(false,eval a X.env),(false,eval b X.env)]:=by rfl)(hs2:starEach [b] X.env=[(false,eval b X.env)]:=by rfl) :
  PI X tg (.Call (.Name "range" p) [a,b] [] pos) (FT ta):=by
 intro pins s σ H R I h
 refine Call_ (gF I hg hm boot_range (PyProof.Rows.callWith_type1 (thn (ha pos pins s σ H _ I h) fun us s1 ⟨vs,H1,I1,r1,q1⟩=>?_) (by rw [hs,hs2]) (by rw [hs2];rfl)))
 obtain ⟨i,j,e,⟨q1,q2,q3,q4⟩,q⟩:=q1
 subst e
 cases r1 with
 | cons r rr =>
  cases rr with
  | cons r' rr =>
   cases rr
   obtain ⟨t,rfl⟩:=r
   obtain ⟨t',rfl⟩:=r'
   exact call_range_2 (rK I1 q1 q2 q3 q4 q)

def Ia (wi:TI)(g:TG)(tb:TS):TS:=fun D σ H=>wi σ H fun J H1=>∃ W:Nat->Nat->St->Hp->Prop,(∃ m,W 0 m σ H1)/\∀ i m σ H,W i m σ H ->
 (J.stop i H/\D.nx σ H)\/(J.go i H/\∃ N:St->Hp->Prop,(∀ σ' H',N σ' H'->∃ m',m' < m/\W (i+1) m' σ' H')/\∀ x H',J.yld i H x H'->g x σ H' fun σ2 H2=>tb { D with nx:=N,ct:=N,bk:=D.nx } σ2 H2)
def lZ (fp:List Addr)(h:Heap):List (Addr×Obj):=fp.filterMap fun b=>(h.get? b).map fun o=>(b,o)
theorem fY {fp:List Addr}{h:Heap}{b:Addr}{o:Obj}(hb:b∈fp)(e:h.get? b=some o):(b,o)∈lZ fp h:=List.mem_filterMap.mpr ⟨b,hb,by rw [e];rfl⟩
theorem wX {fp:List Addr}{h:Heap}{p:Addr×Obj}(hp:p∈lZ fp h):p.1∈fp/\h.get? p.1=some p.2:=by
 obtain ⟨b,hb,e⟩:=List.mem_filterMap.mp hp
 cases q:h.get? b with
 | none=>rw [q] at e;cases e
 | some o =>
  rw [q] at e
  have e':(b,o)=p:=zAl e
  subst e'
  exact ⟨hb,q⟩
theorem Inv.pinned {pins:List (Addr×Obj)}{σ:St}{H:Hp}{s:Shared}{fp:List Addr}(I:Inv X pins σ H s)(hf:∀ b∈fp,qt X pins H b)(ho:∀ b∈fp,∃ o,s.heap.get? b=some o/\∀ v,o.data≠.cell v):Inv X (pins++lZ fp s.heap) σ H s :=
 I.pins_of fun p hp=>(zA6.mp hp).elim (fun z=>I.pin p (List.mem_append_right _ z)) fun z=>by
  obtain ⟨hb,e⟩:=wX z
  obtain ⟨f0,f1,f2,_⟩:=hf p.1 hb
  obtain ⟨o,e',d⟩:=ho p.1 hb
  rw [e] at e';cases e'
  exact ⟨e,f0,f1,f2,d⟩
theorem Inv.unpinned {pins pl:List (Addr×Obj)}{σ:St}{H:Hp}{s:Shared}(I:Inv X (pins++pl) σ H s):Inv X pins σ H s:=I.pins_of fun p hp=>I.pin p (List.mem_append_right _ (List.mem_append_left _ hp))
theorem cW {iter:Expr}{body:List Stmt}{wi:TI}{g:TG}{tb:TS}{pos:Pos}(hp:PassesOwn (model X.prog X.w) X.A X.env X.xe)(hc:X.calm=true)(hi:PI X tg iter wi)(hg:PG X tg g)(hb:PSs X body tb)
  (hs:∀ x,foldedSetIterable iter X.env x=pure x:=by intro _;rfl):PS X (.For tg iter body [] pos) (Ia wi g tb):=by
 intro pins s σ H D I h
 refine wpAny_For (thn (hi pins s σ H _ I h) fun v s1 h1=>thn h1 fun itv s2 h2=>?_) hs
 obtain ⟨it,fp,tn,J,H2,e,I2,T,st2,f2,W,⟨m0,w0⟩,turn⟩:=h2
 subst e
 have stat:∀ {H':Hp},(∀ b∈fp,H' b=none)->∀ b∈fp,qt X pins H' b:=fun hn b hb=>⟨hn b hb,(f2 b hb).2⟩
 refine codeAny_forLoop_any (fun n s'=>∃ i σ' H',Inv X pins σ' H' s'/\tn i s'.heap/\(∀ b∈fp,H' b=none)/\W i n σ' H') ?_ m0 ⟨0,σ,H2,I2,st2,fun b hb=>(f2 b hb).1,w0⟩
 rintro n s3 ⟨i,σ3,H3,I3,st3,fr3,w3⟩
 rcases turn i n σ3 H3 w3 with ⟨stop,qn⟩ | ⟨go,N,hN,step⟩
 ·refine wpAny_passesOwn hp (thn (T.done X rfl rfl rfl hc i pins s3 σ3 H3 X.xe I3 (stat fr3) st3 stop) fun r s4 ⟨hr,I4⟩=>?_)
  subst hr
  exact wpAny_execs_nil ⟨σ3,H3,I4,qn⟩
 ·refine wpAny_passesOwn hp (thn (T.item X rfl rfl rfl hc i pins s3 σ3 H3 X.xe I3 (stat fr3) st3 go) fun r s4 ⟨u,hr,h4⟩=>?_)
  subst hr
  refine wpAny_passesOwn hp (thn h4 fun _ s5 ⟨x,H5,I5,r5,y5,st5,fr5⟩=>?_)
  have I5':=I5.pinned (stat fr5) (T.obj _ _ st5)
  refine wpAny_passesOwn hp (thn (hg _ s5 σ3 H5 x u _ I5' r5 (step x H5 y5)) fun _ s6 ⟨σ6,H6,I6,q6⟩=>?_)
  refine wpAny_passesOwn hp (thn (hb _ s6 σ6 H6 _ I6 q6) fun f s7 q7=>?_)
  have again:∀ {σ7:St} {H7:Hp},Inv X (pins++lZ fp s5.heap) σ7 H7 s7->N σ7 H7->∃ m,m < n/\∃ i σ' H',Inv X pins σ' H' s7/\tn i s7.heap/\(∀ b∈fp,H' b=none)/\W i m σ' H':=fun {σ7 H7} I7 n7=>by
   obtain ⟨m',hm,w7⟩:=hN σ7 H7 n7
   refine ⟨m',hm,i+1,σ7,H7,I7.unpinned,T.keep _ _ _ st5 fun b hb o e=>(I7.pin (b,o) (List.mem_append_right _ (List.mem_append_right _ (fY hb e)))).1,fun b hb=>?_,w7⟩
   obtain ⟨o,e,d⟩:=T.obj _ _ st5 b hb
   exact (I7.pin (b,o) (List.mem_append_right _ (List.mem_append_right _ (fY hb e)))).2.1
  cases f with
  | next=>obtain ⟨σ7,H7,I7,n7⟩:=q7;exact again I7 n7
  | cont=>obtain ⟨σ7,H7,I7,n7⟩:=q7;exact again I7 n7
  | brk=>obtain ⟨σ7,H7,I7,q7⟩:=q7;exact ⟨σ7,H7,I7.unpinned,q7⟩
  | ret v=>obtain ⟨x7,σ7,H7,I7,r7,q7⟩:=q7;exact ⟨x7,σ7,H7,I7.unpinned,r7,q7⟩
end

theorem rM {K:PySem.W.Frag}{a:Addr}{xs:List V}{g:TG}{tb:TS}{D:Ends}{σ:St}{H:Hp}(Pv:Nat->St->Hp->Prop)(h0:Pv 0 σ H)(hl:∀ i σ H,i<=xs.length->Pv i σ H->SqL K H a xs)
  (hs:∀ i x σ H,xs[i]?=some x->Pv i σ H->g x σ H fun σ2 H2=>tb { D with nx:=Pv (i+1),ct:=Pv (i+1),bk:=D.nx } σ2 H2) (hd:∀ σ H,Pv xs.length σ H->D.nx σ H) :
  ∃ W:Nat->Nat->St->Hp->Prop,(∃ m,W 0 m σ H)/\∀ i m σ H,W i m σ H ->
   ((Itl K a).stop i H/\D.nx σ H)\/((Itl K a).go i H/\∃ N:St->Hp->Prop,(∀ σ' H',N σ' H'->∃ m',m' < m/\W (i+1) m' σ' H')/\∀ x H',(Itl K a).yld i H x H'->g x σ H' fun σ2 H2=>tb { D with nx:=N,ct:=N,bk:=D.nx } σ2 H2):=by
 refine ⟨fun i m σ H=>m=xs.length - i/\i<=xs.length/\Pv i σ H,⟨xs.length,by simp,Nat.zero_le _,h0⟩,?_⟩
 rintro i m σ H ⟨rfl,hi,p⟩
 have q:=hl i σ H hi p
 by_cases hlt:i < xs.length
 ·refine .inr ⟨⟨xs,xs[i],q,by simp [hlt]⟩,Pv (i+1),fun σ' H' p'=>⟨xs.length - (i+1),by lia,rfl,hlt,p'⟩,fun x H' y=>?_⟩
  obtain ⟨e,y⟩:=y
  subst e
  exact hs i x σ _ (y xs q) p
 ·have e:i=xs.length:=by lia
  subst e
  exact .inl ⟨⟨xs,q,zA3 _⟩,hd σ H p⟩
theorem Bd {K:PySem.W.Frag}{a:Addr}{xs:List V}{g:TG}{tb:TS}{D:Ends}{σ:St}{H:Hp}(Pv:Nat->St->Hp->Prop)(h0:Pv 0 σ H)(hl:∀ i σ H,i<=xs.length->Pv i σ H->SqT K H a xs)
  (hs:∀ i x σ H,xs[i]?=some x->Pv i σ H->g x σ H fun σ2 H2=>tb { D with nx:=Pv (i+1),ct:=Pv (i+1),bk:=D.nx } σ2 H2) (hd:∀ σ H,Pv xs.length σ H->D.nx σ H) :
  ∃ W:Nat->Nat->St->Hp->Prop,(∃ m,W 0 m σ H)/\∀ i m σ H,W i m σ H ->
   ((Itt K a).stop i H/\D.nx σ H)\/((Itt K a).go i H/\∃ N:St->Hp->Prop,(∀ σ' H',N σ' H'->∃ m',m' < m/\W (i+1) m' σ' H')/\∀ x H',(Itt K a).yld i H x H'->g x σ H' fun σ2 H2=>tb { D with nx:=N,ct:=N,bk:=D.nx } σ2 H2):=by
 refine ⟨fun i m σ H=>m=xs.length - i/\i<=xs.length/\Pv i σ H,⟨xs.length,by simp,Nat.zero_le _,h0⟩,?_⟩
 rintro i m σ H ⟨rfl,hi,p⟩
 have q:=hl i σ H hi p
 by_cases hlt:i < xs.length
 ·refine .inr ⟨⟨xs,xs[i],q,by simp [hlt]⟩,Pv (i+1),fun σ' H' p'=>⟨xs.length - (i+1),by lia,rfl,hlt,p'⟩,fun x H' y=>?_⟩
  obtain ⟨e,y⟩:=y
  subst e
  exact hs i x σ _ (y xs q) p
 ·have e:i=xs.length:=by lia
  subst e
  exact .inl ⟨⟨xs,q,zA3 _⟩,hd σ H p⟩
theorem cV {lo:Int}{n:Nat}{g:TG}{tb:TS}{D:Ends}{σ:St}{H:Hp}(Pv:Nat->St->Hp->Prop)(h0:Pv 0 σ H)
  (hs:∀ i σ H,i < n->Pv i σ H->g (.int (lo+i)) σ H fun σ2 H2=>tb { D with nx:=Pv (i+1),ct:=Pv (i+1),bk:=D.nx } σ2 H2) (hd:∀ σ H,Pv n σ H->D.nx σ H) :
  ∃ W:Nat->Nat->St->Hp->Prop,(∃ m,W 0 m σ H)/\∀ i m σ H,W i m σ H ->
   ((Itr lo n).stop i H/\D.nx σ H)\/((Itr lo n).go i H/\∃ N:St->Hp->Prop,(∀ σ' H',N σ' H'->∃ m',m' < m/\W (i+1) m' σ' H')/\∀ x H',(Itr lo n).yld i H x H'->g x σ H' fun σ2 H2=>tb { D with nx:=N,ct:=N,bk:=D.nx } σ2 H2):=by
 refine ⟨fun i m σ H=>m=n - i/\i<=n/\Pv i σ H,⟨n,by simp,Nat.zero_le _,h0⟩,?_⟩
 rintro i m σ H ⟨rfl,hi,p⟩
 by_cases hlt:i < n
 ·refine .inr ⟨hlt,Pv (i+1),fun σ' H' p'=>⟨n - (i+1),by lia,rfl,hlt,p'⟩,fun x H' y=>?_⟩
  obtain ⟨e,y⟩:=y
  subst e y
  exact hs i σ _ hlt p
 ·have e:i=n:=by lia
  subst e
  exact .inl ⟨zA3 _,hd σ H p⟩
end L2

namespace L2
open PySem PySem.Spec PyProof.Rows

abbrev R2:=V->V->Hp->VK->Prop
def OpR (X:Cx)(f:Value->Value->Sem Value)(r:R2):Prop :=
 ∀ (pins:List (Addr×Obj)) (s:Shared) (σ:St) (H:Hp) (x y:V) (v u:Value) (Q:VK),Inv X pins σ H s->RelV x v->RelV y u->r x y H Q ->
  wpAny (model X.prog X.w) X.A (f v u) (EP X pins σ Q) X.xe s
def UnR (X:Cx)(f:Value->Sem Value)(r:V->Hp->VK->Prop):Prop :=
 ∀ (pins:List (Addr×Obj)) (s:Shared) (σ:St) (H:Hp) (x:V) (v:Value) (Q:VK),Inv X pins σ H s->RelV x v->r x H Q ->
  wpAny (model X.prog X.w) X.A (f v) (EP X pins σ Q) X.xe s
def fj (X:Cx)(f:Value)(r:List V->Hp->VK->Prop):Prop :=
 ∀ (pins:List (Addr×Obj)) (s:Shared) (σ:St) (H:Hp) (xs:List V) (us:List Value) (Q:VK),Inv X pins σ H s->Vals xs us->r xs H Q ->
  wpAny (model X.prog X.w) X.A (call f us) (EP X pins σ Q) X.xe s
def Ib (X:Cx)(r:V->Hp->(Bool->Hp->Prop)->Prop):Prop :=
 ∀ (pins:List (Addr×Obj)) (s:Shared) (σ:St) (H:Hp) (x:V) (v:Value) (Q:Bool->Hp->Prop),Inv X pins σ H s->RelV x v->r x H Q ->
  wpAny (model X.prog X.w) X.A (truthy v) (TP X pins σ Q) X.xe s

def tOp (r:R2)(ta tb:TE):TE:=fun σ H Q=>ta σ H fun x H1=>tb σ H1 fun y H2=>r x y H2 Q
def tUn (r:V->Hp->VK->Prop)(ta:TE):TE:=fun σ H Q=>ta σ H fun x H1=>r x H1 Q
inductive RII (C:Int->Int->Prop)(g:Int->Int->V)(x:V)(y:V)(H:Hp)(Q:VK):Prop
 | mk:∀ i j,(x=.int i)->(y=.int j)->(C i j)->(Q (g i j) H)->RII C g x y H Q
def rI (C:Int->Int->Prop)(g:Int->Int->V):R2:=fun x y H Q=>RII C g x y H Q
inductive RI0I (g:Int->Int->V)(x:V)(y:V)(H:Hp)(Q:VK):Prop
 | mk:∀ i j,(x=.int i)->(y=.int j)->(Q (g i j) H)->RI0I g x y H Q
def rI0 (g:Int->Int->V):R2:=fun x y H Q=>RI0I g x y H Q
inductive RUI (g:Int->V)(x:V)(H:Hp)(Q:VK):Prop
 | mk:∀ i,(x=.int i)->(Q (g i) H)->RUI g x H Q
def rU (g:Int->V):V->Hp->VK->Prop:=fun x H Q=>RUI g x H Q
section
variable {X:Cx}{a b c:Expr}{ta tb tc:TE}{pos:Pos}

theorem Ec (ha:PE X a ta)(hb:PE X b tb){pins:List (Addr×Obj)}{s:Shared}{σ:St}{H:Hp}{R:V->V->Hp->Prop}(I:Inv X pins σ H s)
  (h:ta σ H fun x H1=>tb σ H1 fun y H2=>R x y H2) {Q:Value->Shared->Prop} {f:Value->Value->Sem Value}
  (hf:∀ v u s2 x y H2,Inv X pins σ H2 s2->RelV x v->RelV y u->R x y H2->wpAny (model X.prog X.w) X.A (f v u) Q X.xe s2) :
  wpAny (model X.prog X.w) X.A (eval a X.env) (fun v s₁=>wpAny (model X.prog X.w) X.A (eval b X.env) (fun u s₂=>wpAny (model X.prog X.w) X.A (f v u) Q X.xe s₂) X.xe s₁) X.xe s:=by
 refine thn (ha pins s σ H _ I h) fun v s1 ⟨x,H1,I1,r1,q1⟩=>?_
 refine thn (hb pins s1 σ H1 _ I1 q1) fun u s2 ⟨y,H2,I2,r2,q2⟩=>?_
 exact hf v u s2 x y H2 I2 r1 r2 q2

theorem aV {op:Operator}{r:R2}(ho:OpR X (binaryOp op) r)(ha:PE X a ta)(hb:PE X b tb):PE X (.BinOp a op b pos) (tOp r ta tb):=by
 intro pins s σ H Q I h
 exact wpAny_BinOp (Ec ha hb I h fun v u s2 x y H2 I2 rx ry q=>ho pins s2 σ H2 x y v u Q I2 rx ry q)
theorem Df {op:UnaryOp}{r:V->Hp->VK->Prop}(ho:UnR X (unaryOp op) r)(ha:PE X a ta):PE X (.UnaryOp op a pos) (tUn r ta):=by
 intro pins s σ H Q I h
 exact UnaryOp_ (thn (ha pins s σ H _ I h) fun v s1 ⟨x,H1,I1,r1,q1⟩=>ho pins s1 σ H1 x v Q I1 r1 q1)
theorem opI {f:Value->Value->Sem Value}{C:Int->Int->Prop}{g:Int->Int->Int}
  (rule:∀ (i j:Int) (t u:Tok) (s:Shared) (Q:Value->Shared->Prop) (E:Value->Shared->Prop),C i j->Q (.int (g i j) s.toks) { s with toks:=s.toks+1 }->wpAny (model X.prog X.w) X.A (f (.int i t) (.int j u)) Q E s) :
  OpR X f (rI C fun i j=>.int (g i j)):=by
 intro pins s σ H x y v u Q I rx ry h
 obtain ⟨i,j,rfl,rfl,hc,q⟩:=h
 obtain ⟨t,rfl⟩:=rx
 obtain ⟨t',rfl⟩:=ry
 exact rule i j t t' s _ _ hc ⟨.int (g i j),H,I.tok _,⟨_,rfl⟩,q⟩
theorem FW {f:Value->Value->Sem Value}{g:Int->Int->Int}
  (rule:∀ (i j:Int) (t u:Tok) (s:Shared) (Q:Value->Shared->Prop) (E:Value->Shared->Prop),Q (.int (g i j) s.toks) { s with toks:=s.toks+1 }->wpAny (model X.prog X.w) X.A (f (.int i t) (.int j u)) Q E s) :
  OpR X f (rI0 fun i j=>.int (g i j)):=by
 intro pins s σ H x y v u Q I rx ry h
 obtain ⟨i,j,rfl,rfl,q⟩:=h
 obtain ⟨t,rfl⟩:=rx
 obtain ⟨t',rfl⟩:=ry
 exact rule i j t t' s _ _ ⟨.int (g i j),H,I.tok _,⟨_,rfl⟩,q⟩
theorem Be {f:Value->Value->Sem Value}{g:Int->Int->Bool}
  (rule:∀ (i j:Int) (t u:Tok) (s:Shared) (Q:Value->Shared->Prop) (E:Value->Shared->Prop),Q (.bool (g i j)) s->wpAny (model X.prog X.w) X.A (f (.int i t) (.int j u)) Q E s) :
  OpR X f (rI0 fun i j=>.bl (g i j)):=by
 intro pins s σ H x y v u Q I rx ry h
 obtain ⟨i,j,rfl,rfl,q⟩:=h
 obtain ⟨t,rfl⟩:=rx
 obtain ⟨t',rfl⟩:=ry
 exact rule i j t t' s _ _ ⟨.bl (g i j),H,I,rfl,q⟩

def Ie (i j:Int):Prop:=0 < j/\j < 1073741824
def Ig (i j:Int):Prop:=0<=j/\j<=1000000/\i.natAbs < 2 ^ 64
def CMul (i j:Int):Prop:=(-(2 ^ 64) < i/\i < 2 ^ 64)\/(-(2 ^ 64) < j/\j < 2 ^ 64)
theorem CMul.ok {i j:Int}(h:CMul i j):IntMulOk i j:=by
 rcases h with ⟨h1,h2⟩ | ⟨h1,h2⟩
 ·exact .of_left (intBits_le_64 h1 h2)
 ·exact .of_right (intBits_le_64 h1 h2)
theorem bM:OpR X (binaryOp .Add) (rI0 fun i j=>.int (i+j)):=FW fun _ _ _ _ _ _ _ q=>add_int q
theorem dW:OpR X (binaryOp .Sub) (rI0 fun i j=>.int (i - j)):=FW fun _ _ _ _ _ _ _ q=>sub_int q
theorem gG:OpR X (binaryOp .Mult) (rI CMul fun i j=>.int (i * j)):=opI fun _ _ _ _ _ _ _ hc q=>mul_int q hc.ok
theorem qu:OpR X (binaryOp .FloorDiv) (rI Ie fun i j=>.int (i / j)):=opI fun i j _ _ _ _ _ hc q=>by
 have h1:(0:Int) < j:=hc.1
 have h2:j < 1073741824:=hc.2
 exact floordiv_int (by lia) (by rw [Int.fdiv_eq_ediv_of_nonneg i (by lia)];exact q) (.inl (PyProof.noPylong_small (by lia)))
theorem fZ:OpR X (binaryOp .Mod) (rI (fun _ j=>0 < j) fun i j=>.int (i % j)):=opI fun i j _ _ _ _ _ hc q=>by
 have h1:(0:Int) < j:=hc
 exact mod_int' (by lia) (by rw [Int.fmod_eq_emod_of_nonneg i (by lia)];exact q)
theorem uo:OpR X (binaryOp .Pow) (rI Ig fun i j=>.int (i ^ j.toNat)):=opI fun _ _ _ _ _ _ _ hc q=>pow_int_small hc.1 hc.2.1 hc.2.2 q
theorem unI {f:Value->Sem Value}{g:Int->Int}
  (rule:∀ (i:Int) (t:Tok) (s:Shared) (Q:Value->Shared->Prop) (E:Value->Shared->Prop),Q (.int (g i) s.toks) { s with toks:=s.toks+1 }->wpAny (model X.prog X.w) X.A (f (.int i t)) Q E s) :
  UnR X f (rU fun i=>.int (g i)):=by
 intro pins s σ H x v Q I rx h
 obtain ⟨i,rfl,q⟩:=h
 obtain ⟨t,rfl⟩:=rx
 exact rule i t s _ _ ⟨.int (g i),H,I.tok _,⟨_,rfl⟩,q⟩
theorem yC:UnR X (unaryOp .USub) (rU fun i=>.int (-i)):=unI fun _ _ _ _ _ q=>neg_int q
end

def FZ:V->V->Bool
 | .non,.non=>true | .non,.int _=>true | .int _,.non=>true | .non,.bl _=>true | .bl _,.non=>true | .non,.str _=>true | .str _,.non=>true
 | .int _,.int _=>true | .bl _,.bl _=>true | .str _,.str _=>true | .byt _,.byt _=>true
 | .int _,.str _=>true | .str _,.int _=>true | .bl _,.str _=>true | .str _,.bl _=>true
 | _,_=>false
def rEq:R2:=fun x y H Q=>FZ x y=true/\Q (.bl (decide (x=y))) H
def rNe:R2:=fun x y H Q=>FZ x y=true/\Q (.bl (!decide (x=y))) H

theorem vo {i j:Int}:decide (V.int i=V.int j)=(i == j):=by
 rw [Bool.eq_iff_iff]
 simp
theorem yD {i j:Bool}:decide (V.bl i=V.bl j)=(i == j):=by
 rw [Bool.eq_iff_iff]
 simp
theorem vq {i j:Str}:decide (V.str i=V.str j)=(i == j):=by
 rw [Bool.eq_iff_iff]
 simp
theorem vy {i j:Array UInt8}:decide (V.byt i=V.byt j)=(i.toList == j.toList):=by
 rw [Bool.eq_iff_iff]
 cases i
 cases j
 simp

section
variable {X:Cx}{a b c:Expr}{ta tb tc:TE}{pos:Pos}
theorem bC {pins:List (Addr×Obj)}{σ:St}{H:Hp}{s:Shared}{Q:VK}{k k':Bool}(I:Inv X pins σ H s)(q:Q (.bl k) H)(e:k=k'):EP X pins σ Q (.bool k') s:=by
 subst e
 exact ⟨.bl k,H,I,rfl,q⟩
theorem mj:OpR X (compareOp .Eq) rEq:=by
 intro pins s σ H x y v u Q I rx ry h
 obtain ⟨hs,q⟩:=h
 cases x with
 | non =>
  cases rx
  cases y with
  | non=>cases ry;exact PySem.EqNone.eq_none_none (bC I q (by simp))
  | bl j=>cases ry;exact PySem.EqNone.eq_none_bool (bC I q (by simp))
  | int j=>obtain ⟨t',rfl⟩:=ry;exact PySem.EqNone.eq_none_int (bC I q (by simp))
  | str j=>obtain ⟨t',rfl⟩:=ry;exact PySem.EqNone.eq_none_str (bC I q (by simp))
  | _=>exact absurd (show false=true from hs) zAg
 | bl i =>
  cases rx
  cases y with
  | non=>cases ry;exact PySem.EqNone.eq_bool_none (bC I q (by simp))
  | bl j=>cases ry;exact eq_bool (bC I q yD)
  | str j=>obtain ⟨t',rfl⟩:=ry;exact PySem.EqMixed.eq_bool_str (bC I q (by simp))
  | _=>exact absurd (show false=true from hs) zAg
 | int i =>
  obtain ⟨t,rfl⟩:=rx
  cases y with
  | non=>cases ry;exact PySem.EqNone.eq_int_none (bC I q (by simp))
  | int j=>obtain ⟨t',rfl⟩:=ry;exact eq_int (bC I q vo)
  | str j=>obtain ⟨t',rfl⟩:=ry;exact PySem.EqMixed.eq_int_str (bC I q (by simp))
  | _=>exact absurd (show false=true from hs) zAg
 | str i =>
  obtain ⟨t,rfl⟩:=rx
  cases y with
  | non=>cases ry;exact PySem.EqNone.eq_str_none (bC I q (by simp))
  | bl j=>cases ry;exact PySem.EqMixed.eq_str_bool (bC I q (by simp))
  | int j=>obtain ⟨t',rfl⟩:=ry;exact PySem.EqMixed.eq_str_int (bC I q (by simp))
  | str j=>obtain ⟨t',rfl⟩:=ry;exact eq_str (bC I q vq)
  | _=>exact absurd (show false=true from hs) zAg
 | byt i =>
  obtain ⟨t,rfl⟩:=rx
  cases y with
  | byt j=>obtain ⟨t',rfl⟩:=ry;exact PySem.W.eq_bytes (bC I q vy)
  | _=>exact absurd (show false=true from hs) zAg
 | _=>cases y <;> exact absurd (show false=true from hs) zAg
theorem Dg:OpR X (compareOp .NotEq) rNe:=by
 intro pins s σ H x y v u Q I rx ry h
 obtain ⟨hs,q⟩:=h
 cases x with
 | non =>
  cases rx
  cases y with
  | non=>cases ry;exact PySem.EqNone.ne_none_none (bC I q (by simp))
  | bl j=>cases ry;exact PySem.EqNone.ne_none_bool (bC I q (by simp))
  | int j=>obtain ⟨t',rfl⟩:=ry;exact PySem.EqNone.ne_none_int (bC I q (by simp))
  | str j=>obtain ⟨t',rfl⟩:=ry;exact PySem.EqNone.ne_none_str (bC I q (by simp))
  | _=>exact absurd (show false=true from hs) zAg
 | bl i =>
  cases rx
  cases y with
  | non=>cases ry;exact PySem.EqNone.ne_bool_none (bC I q (by simp))
  | bl j=>cases ry;exact ne_bool (bC I q (congrArg not yD))
  | str j=>obtain ⟨t',rfl⟩:=ry;exact PySem.EqMixed.ne_bool_str (bC I q (by simp))
  | _=>exact absurd (show false=true from hs) zAg
 | int i =>
  obtain ⟨t,rfl⟩:=rx
  cases y with
  | non=>cases ry;exact PySem.EqNone.ne_int_none (bC I q (by simp))
  | int j=>obtain ⟨t',rfl⟩:=ry;exact ne_int (bC I q (congrArg not vo))
  | str j=>obtain ⟨t',rfl⟩:=ry;exact PySem.EqMixed.ne_int_str (bC I q (by simp))
  | _=>exact absurd (show false=true from hs) zAg
 | str i =>
  obtain ⟨t,rfl⟩:=rx
  cases y with
  | non=>cases ry;exact PySem.EqNone.ne_str_none (bC I q (by simp))
  | bl j=>cases ry;exact PySem.EqMixed.ne_str_bool (bC I q (by simp))
  | int j=>obtain ⟨t',rfl⟩:=ry;exact PySem.EqMixed.ne_str_int (bC I q (by simp))
  | str j=>obtain ⟨t',rfl⟩:=ry;exact ne_str (bC I q (congrArg not vq))
  | _=>exact absurd (show false=true from hs) zAg
 | byt i =>
  obtain ⟨t,rfl⟩:=rx
  cases y with
  | byt j=>obtain ⟨t',rfl⟩:=ry;exact PySem.W.ne_bytes (bC I q (congrArg not vy))
  | _=>exact absurd (show false=true from hs) zAg
 | _=>cases y <;> exact absurd (show false=true from hs) zAg

theorem mq:OpR X (compareOp .Lt) (rI0 fun i j=>.bl (decide (i < j))):=Be fun _ _ _ _ _ _ _ q=>lt_int q
theorem bO:OpR X (compareOp .LtE) (rI0 fun i j=>.bl (decide (i<=j))):=Be fun _ _ _ _ _ _ _ q=>le_int q
theorem rN:OpR X (compareOp .Gt) (rI0 fun i j=>.bl (decide (j < i))):=Be fun _ _ _ _ _ _ _ q=>gt_int q
theorem vz:OpR X (compareOp .GtE) (rI0 fun i j=>.bl (decide (j<=i))):=Be fun _ _ _ _ _ _ _ q=>ge_int q
theorem yE:OpR X (compareOp .Is) (fun x y H Q=>y=.non/\Q (.bl (decide (x=.non))) H):=by
 intro pins s σ H x y v u Q I rx ry h
 obtain ⟨rfl,q⟩:=h
 cases ry
 refine is_none_gen (bC I q ?_)
 cases x <;> first
  | (cases rx;rfl)
  | (obtain ⟨t,rfl⟩:=rx;rfl)
theorem bI (b:Expr){op:CmpOp}(h:op≠.In:=by decide)(h2:op≠.NotIn:=by decide):behindInMarks op b=false:=by
 have e1:(op == CmpOp.In)=false:=by cases op <;> first | rfl | exact absurd rfl h
 have e2:(op == CmpOp.NotIn)=false:=by cases op <;> first | rfl | exact absurd rfl h2
 cases b <;> simp [behindInMarks,e1,e2]
theorem ik {op:CmpOp}{r:R2}(ho:OpR X (compareOp op) r)(ha:PE X a ta)(hb:PE X b tb)(hm:behindInMarks op b=false):PE X (.Compare a [op] [b] pos) (tOp r ta tb):=by
 intro pins s σ H Q I h
 exact wpAny_Compare1 (Ec ha hb I h fun v u s2 x y H2 I2 rx ry q=>ho pins s2 σ H2 x y v u Q I2 rx ry q) hm
def Dh (t:TE):TT:=fun σ H Q=>t σ H fun x H'=>∃ k,x=.bl k/\Q k H'
theorem bJ {op:CmpOp}{r:R2}(ho:OpR X (compareOp op) r)(ha:PE X a ta)(hb:PE X b tb)(hm:behindInMarks op b=false):PT X (.Compare a [op] [b] pos) (Dh (tOp r ta tb)):=by
 intro pins s σ H Q I h
 refine wpAny_isTrue_Compare1 (thn (ha pins s σ H _ I h) fun v s1 ⟨x,H1,I1,r1,q1⟩=>thn (hb pins s1 σ H1 _ I1 q1) fun u s2 ⟨y,H2,I2,r2,q2⟩ =>
  thn (ho pins s2 σ H2 x y v u _ I2 r1 r2 q2) fun c s3 ⟨z,H3,I3,r3,k,e,q3⟩=>?_) hm
 subst e
 cases r3
 exact wpAny_truthy_bool ⟨H3,I3,q3⟩
def uq (r r':R2)(ta tb tc:TE):TE:=fun σ H Q=>ta σ H fun x H1=>tb σ H1 fun y H2=>r x y H2 fun z H3=>∃ k,z=.bl k /\
 (if k=true then tc σ H3 fun w' H4=>r' y w' H4 Q else Q (.bl false) H3)
theorem cO {op op':CmpOp}{r r':R2}(ho:OpR X (compareOp op) r)(ho':OpR X (compareOp op') r')(ha:PE X a ta)(hb:PE X b tb)(hc:PE X c tc)
  (hm:lastMarks [op,op'] [b,c]=false:=by with_unfolding_all rfl):PE X (.Compare a [op,op'] [b,c] pos) (uq r r' ta tb tc):=by
 intro pins s σ H Q I h
 refine Compare_chain (thn (ha pins s σ H _ I h) fun v s1 ⟨x,H1,I1,r1,q1⟩=>chain_link (thn (hb pins s1 σ H1 _ I1 q1) fun u s2 ⟨y,H2,I2,r2,q2⟩ =>
  thn (ho pins s2 σ H2 x y v u _ I2 r1 r2 q2) fun d s3 ⟨z,H3,I3,r3,k,e,q3⟩=>?_)) hm
 subst e
 cases r3
 refine wpAny_truthy_bool ?_
 cases k with
 | false=>exact ite_ff ⟨.bl false,H3,I3,rfl,q3⟩
 | true=>exact ite_tt (chain_last (thn (hc pins s3 σ H3 _ I3 q3) fun w' s4 ⟨z',H4,I4,r4,q4⟩=>ho' pins s4 σ H4 y z' u w' Q I4 r2 r4 q4))
theorem eZ {op op':CmpOp}{r r':R2}(ho:OpR X (compareOp op) r)(ho':OpR X (compareOp op') r')(ha:PE X a ta)(hb:PE X b tb)(hc:PE X c tc)
  (hm:lastMarks [op,op'] [b,c]=false:=by with_unfolding_all rfl):PT X (.Compare a [op,op'] [b,c] pos) (Dh (uq r r' ta tb tc)):=by
 intro pins s σ H Q I h
 refine isTrue_chain (thn (ha pins s σ H _ I h) fun v s1 ⟨x,H1,I1,r1,q1⟩=>test_link (thn (hb pins s1 σ H1 _ I1 q1) fun u s2 ⟨y,H2,I2,r2,q2⟩ =>
  thn (ho pins s2 σ H2 x y v u _ I2 r1 r2 q2) fun d s3 ⟨z,H3,I3,r3,k,e,q3⟩=>?_)) hm
 subst e
 cases r3
 refine wpAny_truthy_bool ?_
 cases k with
 | false =>
  obtain ⟨k',e',q'⟩:=q3
  cases e'
  exact ite_ff ⟨H3,I3,q'⟩
 | true =>
  refine ite_tt (test_last (thn (hc pins s3 σ H3 _ I3 q3) fun w' s4 ⟨z',H4,I4,r4,q4⟩=>thn (ho' pins s4 σ H4 y z' u w' _ I4 r2 r4 q4) fun d' s5 ⟨z2,H5,I5,r5,k2,e2,q5⟩=>?_))
  subst e2
  cases r5
  exact wpAny_truthy_bool ⟨H5,I5,q5⟩

def G9 (K:PySem.W.Frag)(x:V)(H:Hp)(k:Bool):Prop :=
 match x with
 | .non=>k=false
 | .bl b=>k=b
 | .int i=>k=(i != 0)
 | .str y=>y.length<=sizeLine/\k=((y.length:Int) != 0)
 | .byt y=>y.size<=sizeLine/\k=((y.size:Int) != 0)
 | .ref p=>(∃ xs,SqL K H p xs/\k=!xs.isEmpty)\/(∃ xs,SqT K H p xs/\k=!xs.isEmpty)\/∃ kvs,H p=some (.dK kvs)/\k=!kvs.isEmpty
 | _=>False
theorem ur {κ:Type}{kvs:List (κ×V)}{vs:List (κ×Value)}(r:KV kvs vs):(!vs.isEmpty)=!kvs.isEmpty:=by
 cases r <;> rfl
theorem my {xs:List V}{its:List Value}(r:Vals xs its):(!its.toArray.isEmpty)=!xs.isEmpty:=by
 cases r <;> simp
theorem iH:(sizeLine:Nat) < 2 ^ 63:=by rw [sizeLine_eq];decide
theorem Ed:Ib X (fun x H Q=>∃ k,G9 X.K x H k/\Q k H):=by
 intro pins s σ H x v Q I rx h
 obtain ⟨k,e,q⟩:=h
 have hl:=iH
 have hs:sizeLine=16777216:=sizeLine_eq
 cases x with
 | non =>
  cases rx
  have e':k=false:=e
  subst e'
  exact truthy_none ⟨H,I,q⟩
 | bl b =>
  cases rx
  have e':k=b:=e
  subst e'
  exact wpAny_truthy_bool ⟨H,I,q⟩
 | int i =>
  obtain ⟨t,rfl⟩:=rx
  have e':k=(i != 0):=e
  subst e'
  exact PySem.P.truthy_int ⟨H,I,q⟩
 | str y =>
  obtain ⟨t,rfl⟩:=rx
  obtain ⟨hy,e'⟩:y.length<=sizeLine/\k=((y.length:Int) != 0):=e
  subst e'
  exact PySem.P.truthy_str (by lia) ⟨H,I.tok _,q⟩
 | byt y =>
  obtain ⟨t,rfl⟩:=rx
  obtain ⟨hy,e'⟩:y.size<=sizeLine/\k=((y.size:Int) != 0):=e
  subst e'
  exact PySem.W.truthy_bytes (by lia) ⟨H,I.tok _,q⟩
 | ref p =>
  cases rx
  have e':(∃ xs,SqL X.K H p xs/\k=!xs.isEmpty)\/(∃ xs,SqT X.K H p xs/\k=!xs.isEmpty)\/∃ kvs,H p=some (.dK kvs)/\k=!kvs.isEmpty:=e
  rcases e' with ⟨xs,hx,e'⟩ | ⟨xs,hx,e'⟩ | ⟨kvs,hx,e'⟩
  ·subst e'
   obtain ⟨its,r,pl,hz⟩:=I.list hx
   have hlen:=r.length
   exact wpAny_truthy_list pl.isList (by simp only [List.size_toArray];lia) ⟨H,I.tok _,by rw [my r];exact q⟩
  ·subst e'
   obtain ⟨its,r,pl,hz⟩:=I.tuple hx
   have hlen:=r.length
   exact truthy_tuple pl (by simp only [List.size_toArray];lia) ⟨H,I.tok _,by rw [my r];exact q⟩
  ·subst e'
   obtain ⟨hz,hS,vs,r,m⟩:kvs.length<=sizeLine/\(p == sysModules)=false/\∃ vs,KV kvs vs/\s.heap.DictOf (bW X.prog X.w) p vs:=I.hok p _ hx
   have hlen:kvs.length=vs.length:=Paired.length r
   exact wpAny_truthy_dict hS m (by lia) ⟨H,I.tok _,by rw [ur r];exact q⟩
 | _=>exact (show False from e).elim
theorem yF (ha:PE X a ta)(he:∀ whole,isTrue a X.env whole=(do let v <- whole;standAt a.pos;holding [v] (truthy v))) :
  PT X a (fun σ H Q=>ta σ H fun x H'=>∃ k,G9 X.K x H' k/\Q k H'):=by
 intro pins s σ H Q I h
 exact isTrue_plain (thn (ha pins s σ H _ I h) fun v s1 ⟨x,H1,I1,r1,q1⟩=>Ed pins s1 σ H1 x v Q I1 r1 q1) (he _)

theorem vals1 {x:V}{us:List Value}(r:Vals [x] us):∃ u,us=[u]/\RelV x u:=by
 cases r with
 | cons r1 r2=>cases r2;exact ⟨_,rfl,r1⟩
theorem vals2 {x y:V}{us:List Value}(r:Vals [x,y] us):∃ u w',us=[u,w']/\RelV x u/\RelV y w':=by
 cases r with
 | cons r1 r2 =>
  cases r2 with
  | cons r3 r4=>cases r4;exact ⟨_,_,rfl,r1,r3⟩
theorem oX (hc:X.calm=true):fj X (.builtin "max") (fun xs H Q=>∃ i j,xs=[.int i,.int j]/\Q (.int (if j > i then j else i)) H):=by
 intro pins s σ H xs us Q I r h
 obtain ⟨i,j,rfl,q⟩:=h
 obtain ⟨u,w',rfl,⟨t,rfl⟩,⟨t',rfl⟩⟩:=vals2 r
 refine max_two_ints (I.ok.hd hc) fun h' tk k=>⟨_,H,I.kept k,?_,q⟩
 by_cases hj:j > i
 ·rw [if_pos hj,if_pos hj];exact ⟨_,rfl⟩
 ·rw [if_neg hj,if_neg hj];exact ⟨_,rfl⟩
theorem il (hc:X.calm=true):fj X (.builtin "min") (fun xs H Q=>∃ i j,xs=[.int i,.int j]/\Q (.int (if j < i then j else i)) H):=by
 intro pins s σ H xs us Q I r h
 obtain ⟨i,j,rfl,q⟩:=h
 obtain ⟨u,w',rfl,⟨t,rfl⟩,⟨t',rfl⟩⟩:=vals2 r
 refine min_two_ints (I.ok.hd hc) fun h' tk k=>⟨_,H,I.kept k,?_,q⟩
 by_cases hj:j < i
 ·rw [if_pos hj,if_pos hj];exact ⟨_,rfl⟩
 ·rw [if_neg hj,if_neg hj];exact ⟨_,rfl⟩
theorem wY:fj X (.type "int") (fun xs H Q=>(∃ i,xs=[.int i]/\Q (.int i) H)\/∃ k,xs=[.bl k]/\Q (.int (if k then 1 else 0)) H):=by
 intro pins s σ H xs us Q I r h
 rcases h with ⟨i,rfl,q⟩ | ⟨k,rfl,q⟩
 ·obtain ⟨u,rfl,t,rfl⟩:=vals1 r
  exact call_int_int ⟨.int i,H,I,⟨_,rfl⟩,q⟩
 ·obtain ⟨u,rfl,r1⟩:=vals1 r
  cases r1
  exact call_int_bool ⟨.int (if k then 1 else 0),H,I.tok _,⟨_,rfl⟩,q⟩
end
end L2

namespace L2
open PySem PySem.Spec PyProof.Rows

structure ObjM (h:Heap)(x dx C:Addr)(mA:Str->Option Value):Prop where
 obj:h.get? x=some (PySem.W.instObj C dx)
 ns:h.Ns1 dx mA
 ne:dx≠x

theorem wZ {h:Heap}{dx:Addr}{mA:Str->Option Value}(n:h.Ns1 dx mA):∃ od,h.get? dx=some od/\∀ name,PySem.W.lookIn name od=some (mA name):=by
 obtain ⟨o,es,ep,ho,hd,hk,_,hm⟩:=n
 refine ⟨o,ho,fun name=>?_⟩
 have e:=hm name
 unfold nsFind findBy at e
 rw [<- Array.find?_toList] at e
 unfold PySem.W.lookIn
 rw [hd]
 dsimp only
 split
 ·rename_i y q
  rw [q] at e
  exact congrArg some e
 ·rename_i q
  rw [q] at e
  have a:es.toList.any (·.refKey)=false:=by
   rw [List.any_eq_false]
   intro y hy
   obtain ⟨z,t,hkey⟩:=hk y (Array.mem_toList_iff.mp hy)
   simp [DictEntry.refKey,hkey]
  have a':¬ es.toList.any (·.refKey)=true:=by rw [a];exact zAg
  rw [if_neg a']
  exact congrArg some e

theorem ObjM.look {h:Heap}{x dx C:Addr}{mA:Str->Option Value}(I:ObjM h x dx C mA):∃ od,PySem.W.InstAt h x (PySem.W.instObj C dx) C (some od)/\∀ name,PySem.W.lookIn name od=some (mA name) :=
 let ⟨od,ho,hl⟩:=wZ I.ns
 ⟨od,⟨I.obj,rfl,rfl,ho⟩,hl⟩

section
variable {prog:Program}{w:World}{A:Around}{E:Value->Shared->Prop}{s:Shared}{K:PySem.W.Frag}{x dx C f:Addr}{mA:Str->Option Value}{name:Str}{v:Value}

theorem j6 {expr:Bool}{Q:Value->Shared->Prop}(X:K.In s.heap)(I:ObjM s.heap x dx C mA)(hg:PySem.W.plainGet K C name=true)(hh:PySem.W.hasDictIn K C=true)
  (ha:PySem.W.findIn K (.ref C) name=some none) (hv:mA name=some v) (hv':PySem.W.handedIn v=true) (h:Q v { s with toks:=s.toks+1 }) :
  wpAny (model prog w) A (getAttr (.ref x) name expr) Q E s:=by
 obtain ⟨od,J,hl⟩:=I.look
 exact PySem.W.get_value X J (PySem.W.plainGet_of hg).1 (PySem.W.findObj_own hh ha rfl (by rw [hl,hv])) hv' h

theorem yG {pl:Sem Bool}{Q:Value×List Value->Shared->Prop}(X:K.In s.heap)(I:ObjM s.heap x dx C mA)(hg:PySem.W.plainGet K C name=true)
  (hf:PySem.W.findIn K (.ref C) name=some (some (.ref f))) (ht:PySem.W.isFn K (.ref f)=true) (hv:mA name=none) (h:Q (.ref f,[.ref x]) s) :
  wpAny (model prog w) A (getMethod (.ref x) name pl) Q E s:=by
 obtain ⟨od,J,hl⟩:=I.look
 exact PySem.W.method_fn X J (PySem.W.plainGet_of hg).1 (PySem.W.plainGet_of hg).2 hf (beq_iff_eq.mp ht) (by show (PySem.W.lookIn name od).map (·.isSome)=some false;rw [hl,hv];rfl) h

theorem j7 {ns:List Str}{Q:Unit->Shared->Prop}(X:K.In s.heap)(I:ObjM s.heap x dx C mA)
  (hs:PySem.W.findIn K (.ref C) "__setattr__" = some (some (.builtin "object.__setattr__"))) (hp:PySem.W.plainOver K C=true) (ht:PySem.W.takerIn K C name=some none) (hh:PySem.W.hasDictIn K C=true)
  (hw:PySem.Within mA ns) (hsz:ns.length<=sizeLine)
  (h:∀ h',ObjM h' x dx C (fun y=>if y=name then some v else mA y)->Heap.SameBut dx s.heap h'->Q () { s with heap:=h',toks:=s.toks+2 }) :
  wpAny (model prog w) A (setAttr (.ref x) name v) Q E s:=by
 obtain ⟨od,J,hl⟩:=I.look
 refine PySem.W.set_plain X J hs (PySem.W.osa_open (s:={ s with toks:=s.toks+1 }) (r:=none) X J hp ht fun b=>?_)
 obtain ⟨cd,hc,hd'⟩:=PySem.W.any_some hh
 have hx:s.heap.get? x=some ⟨.ref C,some dx,.plain,#[]⟩:=I.obj
 refine wpAny_bind (wpAny_pure (wpAny_bind (wpAny_bind (wpAny_loadPart hx (wpAny_bind (PySem.W.Looks.here (s:={ s with toks:=s.toks+1 }) (PySem.W.looks_clsIn X hc) ?_))))))
 rw [hd']
 refine wpAny_pure (a:=some dx) (wpAny_bind (wpAny_pure (wpAny_bind ?_)))
 refine wpAny_nsSet1 (s:={ s with toks:=s.toks+1 }) I.ns fun h' hn2 hs2=>?_
 obtain ⟨oD,esD,epD,hoD,hdD,hcD⟩:=hn2.count (PySem.Within.cons name v hw)
 refine wpAny_bind (wpAny_lookBehind hoD (by rw [hdD];exact pastItsLine_dict (Nat.le_trans hcD (by rw [zAe];lia))) ?_)
 exact wpAny_pure (h _ ⟨(hs2.2 _ (Ne.symm I.ne)).trans I.obj,hn2,I.ne⟩ hs2)

theorem yH {R:Result->Shared->Prop}{vs:List Value}{kw:List (Str×Value)}(X:K.In s.heap)(hm:PySem.W.makesIn K C=true)
  (hi:PySem.W.findIn K (.ref C) "__init__" = some (some (.ref f))) (hf:PySem.W.typeIn K (.ref f)=some (.type "function"))
  (h:codeAny (model prog w) (A.under (.builtin "type.__call__" ⟨.ref C::vs,kw⟩)) (.call (.ref f) ⟨.ref (s.heap.objs.size+1)::vs,kw⟩) (PySem.W.InitBack (s.heap.objs.size+1) R)
   { s with heap:=(s.heap.push PySem.W.emptyDict).push (PySem.W.instObj C s.heap.objs.size) }) :
  codeAny (model prog w) A (.call (.ref C) ⟨vs,kw⟩) R s:=by
 obtain ⟨hh,g,d,t,os⟩:=s
 exact PySem.W.make_core (PySem.W.makes_of X hm) (PySem.W.looks_findIn X hi) (fun self=>PySem.W.bind_fn X self hf) (.inl rfl) h
end

def iB (f:Str)(v:V):List (Str×V)->List (Str×V)
 | []=>[(f,v)]
 | (g,x)::r=>if g=f then (g,v)::r else (g,x)::iB f v r
theorem jY (f g:Str)(v:V):∀ fs:List (Str×V),(iB f v fs).lookup g=if g=f then some v else fs.lookup g
 | []=>by
  show List.lookup g [(f,v)]=_
  by_cases h:g=f
  ·have hb:(g == f)=true:=beq_iff_eq.mpr h
   simp only [List.lookup,hb,if_pos h]
  ·have hb:(g == f)=false:=beq_eq_false_iff_ne.mpr h
   simp only [List.lookup,hb,if_neg h]
 | (k,x)::r=>by
  have ih:=jY f g v r
  rw [show iB f v ((k,x)::r)=(if k=f then (k,v)::r else (k,x)::iB f v r) from rfl]
  by_cases hk:k=f
  ·rw [if_pos hk]
   by_cases h:g=k
   ·have hb:(g == k)=true:=beq_iff_eq.mpr h
    simp only [List.lookup,hb,if_pos (h.trans hk)]
   ·have hb:(g == k)=false:=beq_eq_false_iff_ne.mpr h
    simp only [List.lookup,hb,if_neg (fun e:g=f=>h (e.trans hk.symm))]
  ·rw [if_neg hk]
   by_cases h:g=k
   ·have hb:(g == k)=true:=beq_iff_eq.mpr h
    simp only [List.lookup,hb,if_neg (fun e:g=f=>hk (h.symm.trans e))]
   ·have hb:(g == k)=false:=beq_eq_false_iff_ne.mpr h
    simp only [List.lookup,hb]
    exact ih
theorem jE (f:Str)(v:V):∀ fs:List (Str×V),f∈(iB f v fs).map (·.1)/\∀ g,g∈fs.map (·.1)->g∈(iB f v fs).map (·.1)
 | []=>⟨by simp [iB],fun g h=>by simp at h⟩
 | (k,x)::r=>by
  obtain ⟨i1,i2⟩:=jE f v r
  rw [show iB f v ((k,x)::r)=(if k=f then (k,v)::r else (k,x)::iB f v r) from rfl]
  by_cases hk:k=f
  ·rw [if_pos hk]
   subst hk
   exact ⟨by simp,fun g h=>by simpa using h⟩
  ·rw [if_neg hk]
   refine ⟨?_,fun g h=>?_⟩
   ·rw [zAk]
    exact List.mem_cons_of_mem _ i1
   ·rw [zAk] at h ⊢
    rcases zAo.mp h with e | e
    ·exact zAo.mpr (.inl e)
    ·exact List.mem_cons_of_mem _ (i2 g e)
theorem jZ (f:Str)(v:V):∀ fs:List (Str×V),(iB f v fs).length<=fs.length+1
 | []=>by simp [iB]
 | (k,x)::r=>by
  have ih:=jZ f v r
  rw [show iB f v ((k,x)::r)=(if k=f then (k,v)::r else (k,x)::iB f v r) from rfl]
  by_cases hk:k=f
  ·rw [if_pos hk,zAe,zAe];lia
  ·rw [if_neg hk,zAe,zAe];lia

theorem RelO.some_of {v:V}{o:Option Value}(r:RelO (some v) o):∃ u,o=some u/\RelV v u:=by
 cases o with
 | none=>exact (show False from r).elim
 | some u=>exact ⟨u,rfl,r⟩
theorem RelO.none_of {o:Option Value}(r:RelO none o):o=none:=by
 cases o with
 | none=>rfl
 | some u=>exact (show False from r).elim
theorem xf {v:V}{u:Value}(r:RelV v u):PySem.W.handedIn u=true:=by
 cases v with
 | non=>cases (show u=Value.none from r);rfl
 | bl b=>cases (show u=Value.bool b from r);rfl
 | int i=>obtain ⟨t,e⟩:=(show ∃ t,u=Value.int i t from r);cases e;rfl
 | str x=>obtain ⟨t,e⟩:=(show ∃ t,u=Value.str x t from r);cases e;rfl
 | byt b=>obtain ⟨t,e⟩:=(show ∃ t,u=Value.bytes b t from r);cases e;rfl
 | flt b=>obtain ⟨t,e⟩:=(show ∃ t,u=Value.float b t from r);cases e;rfl
 | ref a=>cases (show u=Value.ref a from r);rfl
 | ty n=>cases (show u=Value.type n from r);rfl

section
variable {P:Program}{w:World}{H H':Hp}{h h':Heap}{a C dx:Addr}{fs fs':List (Str×V)}
theorem lD (hok:HOk P w H h)(e:H a=some (.ins C dx fs)):∃ mA,ObjM h a dx C mA/\(∀ f,RelO (fs.lookup f) (mA f))/\PySem.Within mA (fs.map (·.1))/\fs.length<=1000/\H dx=some (.own a):=by
 obtain ⟨d,z,ne,ob,mA,n,r,q⟩:=(show ObjOk P w H h a (.ins C dx fs) from hok a _ e)
 exact ⟨mA,⟨ob,n,ne⟩,r,q,z,d⟩
end

structure Cls (K:PySem.W.Frag)(C:Addr):Prop where
 pg:PySem.W.plainGet K C Str.empty=true
 hd:PySem.W.hasDictIn K C=true
 po:PySem.W.plainOver K C=true
 sa:PySem.W.findIn K (.ref C) "__setattr__" = some (some (.builtin "object.__setattr__"))
theorem Cls.get {K:PySem.W.Frag}{C:Addr}(c:Cls K C)(f:Str):PySem.W.plainGet K C f=true:=c.pg
def NoAttr (K:PySem.W.Frag)(C:Addr)(f:Str):Prop:=PySem.W.findIn K (.ref C) f=some none
theorem NoAttr.taker {K:PySem.W.Frag}{C:Addr}{f:Str}(n:NoAttr K C f):PySem.W.takerIn K C f=some none:=by
 unfold PySem.W.takerIn
 rw [show PySem.W.findIn K (.ref C) f=some none from n]
 rfl
structure Meth (K:PySem.W.Frag)(C:Addr)(m:Str)(f:Addr):Prop where
 at_:PySem.W.findIn K (.ref C) m=some (some (.ref f))
 fn:PySem.W.isFn K (.ref f)=true
 kp:PySem.W.keepIn K (.ref f)=true

section
variable {X:Cx}{pins:List (Addr×Obj)}{σ:St}{H:Hp}{s:Shared}{a C dx:Addr}{fs:List (Str×V)}{f:Str}{v:V}{A:Around}{E:Value->Shared->Prop}

theorem ut {b:Bool}{Q:Value->Shared->Prop}(I:Inv X pins σ H s)(e:H a=some (.ins C dx fs))(c:Cls X.K C)(n:NoAttr X.K C f)(l:fs.lookup f=some v)
  (h:∀ u s',Inv X pins σ H s'->RelV v u->Q u s'):wpAny (model X.prog X.w) A (getAttr (.ref a) f b) Q E s:=by
 obtain ⟨mA,O,r,_,_,_⟩:=lD I.hok e
 obtain ⟨u,hu,ru⟩:=RelO.some_of (v:=v) (o:=mA f) (by rw [<- l];exact r f)
 exact j6 I.kIn O (c.get f) c.hd n hu (xf ru) (h u _ (I.tok _) ru)

theorem iI {m:Str}{g:Addr}{pl:Sem Bool}{Q:Value×List Value->Shared->Prop}(I:Inv X pins σ H s)(e:H a=some (.ins C dx fs))(c:Cls X.K C)(k:Meth X.K C m g)(l:fs.lookup m=none)
  (h:Q (.ref g,[.ref a]) s):wpAny (model X.prog X.w) A (getMethod (.ref a) m pl) Q E s:=by
 obtain ⟨mA,O,r,_,_,_⟩:=lD I.hok e
 have hn:mA m=none:=RelO.none_of (by rw [<- l];exact r m)
 exact yG I.kIn O (c.get m) k.at_ k.fn hn h

theorem uv {y:V}{u:Value}{Q:Unit->Shared->Prop}(I:Inv X pins σ H s)(e:H a=some (.ins C dx fs))(c:Cls X.K C)(n:NoAttr X.K C f)(hl:fs.length < 1000)(ry:RelV y u)
  (h:∀ s',Inv X pins σ (upd H a (.ins C dx (iB f y fs))) s'->Q () s'):wpAny (model X.prog X.w) A (setAttr (.ref a) f u) Q E s:=by
 obtain ⟨mA,O,r,wi,_,ho⟩:=lD I.hok e
 have hz:(fs.map (·.1)).length<=sizeLine:=by rw [zA1,sizeLine_eq];lia
 refine j7 I.kIn O c.sa c.po n.taker c.hd wi hz fun h' O' sb=>h _ ?_
 have hd:∃ o,h'.get? dx=some o:=let ⟨o,_,_,e',_⟩:=O'.ns;⟨o,e'⟩
 refine I.write (x:=a) (e:=dx) (by rw [e];exact True.intro) (.inr ho) (fun b q hb z=>(sb.2 b hb).trans z) hd ?_
 refine ⟨by rw [aD O.ne];exact ho,?_,O.ne,O'.obj,_,O'.ns,fun g=>?_,fun g hg=>?_⟩
 ·have:=jZ f y fs;lia
 ·show RelO ((iB f y fs).lookup g) (if g=f then some u else mA g)
  rw [jY]
  by_cases q:g=f
  ·rw [if_pos q,if_pos q];exact ry
  ·rw [if_neg q,if_neg q];exact r g
 ·by_cases q:g=f
  ·rw [q];exact (jE f y fs).1
  ·refine (jE f y fs).2 g (wi g fun z=>hg ?_)
   show (if g=f then some u else mA g)=none
   rw [if_neg q];exact z

theorem Inv.made (I:Inv X pins σ H s):Inv X pins σ (upd (upd H s.heap.objs.size (.own (s.heap.objs.size+1))) (s.heap.objs.size+1) (.ins C s.heap.objs.size []))
  { s with heap:=(s.heap.push PySem.W.emptyDict).push (PySem.W.instObj C s.heap.objs.size) }:=by
 have e1:(s.heap.push PySem.W.emptyDict).get? s.heap.objs.size=some PySem.W.emptyDict:=Heap.get?_push_size s.heap rfl
 have e2:((s.heap.push PySem.W.emptyDict).push (PySem.W.instObj C s.heap.objs.size)).get? (s.heap.objs.size+1)=some (PySem.W.instObj C s.heap.objs.size):=by
  have:=Heap.get?_push_size (s.heap.push PySem.W.emptyDict) (o:=PySem.W.instObj C s.heap.objs.size) rfl
  rwa [Heap.size_push] at this
 have e3:(s.heap.push PySem.W.emptyDict).Ns s.heap.objs.size (fun _=>none):=⟨PySem.W.emptyDict,#[],_,e1,rfl,(fun e he=>absurd he (by simp)),fun _=>rfl⟩
 have I1:=I.laid (a:=s.heap.objs.size) (o:=.own (s.heap.objs.size+1)) (h':=s.heap.push PySem.W.emptyDict) (t':=s.toks) (fun b u q=>Heap.get?_push_of_some _ q) (zA3 _) ⟨_,e1⟩
 refine I1.laid (a:=s.heap.objs.size+1) (o:=.ins C s.heap.objs.size []) (t':=s.toks) (fun b u q=>Heap.get?_push_of_some _ q) (Nat.le_of_eq (Heap.size_push _ _)) ?_
 have ne:s.heap.objs.size≠s.heap.objs.size+1:=Nat.ne_of_lt (Nat.lt_succ_self _)
 refine ⟨by rw [aD ne,ao],zAp _,ne,e2,fun _=>none,(Heap.Ns1.of_empty e3).at fun o q=>Heap.get?_push_of_some _ q,fun _=>True.intro,fun y hy=>absurd rfl hy⟩

theorem Bf {prog:Program}{w:World}{env:Env}{e:Expr}{f:Str}{pos:Pos}{s:Shared}{Q:Value->Shared->Prop}(hb:attributeBase e f env (eval e env)=eval e env)
  (h:wpAny (model prog w) A (eval e env) (fun o s₁=>wpAny (model prog w) A (getAttr o f true) Q E s₁) E s):wpAny (model prog w) A (eval (.Attribute e f pos) env) Q E s :=
 Attribute_any_ h (by rw [arm_eval_Attribute,hb])
end

def Ih (K:PySem.W.Frag)(ta:TE)(f:Str):TE:=fun σ H Q=>ta σ H fun x H1=>∃ a C dx fs v,x=.ref a/\H1 a=some (.ins C dx fs)/\Cls K C/\NoAttr K C f/\fs.lookup f=some v/\Q v H1
def Ii (K:PySem.W.Frag)(ta tv:TE)(f:Str):TS:=fun D σ H=>tv σ H fun y H1=>ta σ H1 fun x H2=>∃ a C dx fs,x=.ref a/\H2 a=some (.ins C dx fs)/\Cls K C/\NoAttr K C f/\fs.length < 1000 /\
 D.nx σ (upd H2 a (.ins C dx (iB f y fs)))
section
variable {X:Cx}{o e value:Expr}{f:Str}{pos pos' tpos:Pos}{ta tv:TE}
theorem jF (he:PE X e ta)(hb:attributeBase e f X.env (eval e X.env)=eval e X.env):PE X (.Attribute e f pos) (Ih X.K ta f):=by
 intro pins s σ H Q I h
 refine Bf hb (thn (he pins s σ H _ I h) fun u s1 ⟨x,H1,I1,rx,a,C,dx,fs,v,ex,ea,c,n,l,q⟩=>?_)
 subst ex
 obtain rfl:u=Value.ref a:=rx
 exact ut I1 ea c n l fun u' s2 I2 ru=>⟨v,H1,I2,ru,q⟩
theorem Ef (ha:PE X o ta)(hv:PE X value tv)(hs:swapsWith value (some (.Attribute o f pos')) pos.line X.env=pure false):PS X (.Assign [.Attribute o f pos'] value pos) (Ii X.K ta tv f):=by
 intro pins s σ H D I h
 refine plainObj_wpAny_Assign_Attribute (thn (hv pins s σ H _ I h) fun u s1 ⟨y,H1,I1,ry,q⟩=>thn (ha pins s1 σ H1 _ I1 q) fun ov s2 ⟨x,H2,I2,rx,a,C,dx,fs,ex,ea,c,n,l,q2⟩=>?_) hs
 subst ex
 obtain rfl:ov=Value.ref a:=rx
 exact uv I2 ea c n l ry fun s3 I3=>⟨σ,_,I3,q2⟩
theorem Di {pl:Sem Bool}{m:Str}{apos:Pos}{args:List Expr}{pins:List (Addr×Obj)}{s:Shared}{σ:St}{H:Hp}{Q:Value->Shared->Prop}{te:TE}(he:PE X e te)(I:Inv X pins σ H s)
  (h:te σ H fun x H1=>∃ a C dx fs g,x=.ref a/\H1 a=some (.ins C dx fs)/\Cls X.K C/\Meth X.K C m g/\fs.lookup m=none /\
   ∀ s1,Inv X pins σ H1 s1->wpAny (model X.prog X.w) X.A (callWith pos (.ref g) [.ref a] (backTo pos (starEach args X.env)) (backToKw pos (keywordEach [] X.env))) Q X.xe s1)
  (ht:eval (.Call (.Attribute e m apos) args [] pos) X.env=(do
   let ov <- eval e X.env
   standAt apos.atName
   let (f,first) <- holding [ov] (getMethod ov m pl)
   callWith pos f first (backTo pos (starEach args X.env)) (backToKw pos (keywordEach [] X.env)))) :
  wpAny (model X.prog X.w) X.A (eval (.Call (.Attribute e m apos) args [] pos) X.env) Q X.xe s:=by
 refine PySem.W.methodCall_KW (pl:=pl) (thn (he pins s σ H _ I h) fun u s1 ⟨x,H1,I1,rx,a,C,dx,fs,g,ex,ea,c,k,l,q⟩=>?_) ht
 subst ex
 obtain rfl:u=Value.ref a:=rx
 exact iI I1 ea c k l (q s1 I1)
end

section
variable {X:Cx}{pins:List (Addr×Obj)}{σ:St}{H:Hp}{s:Shared}{A:Around}{E:Value->Shared->Prop}{Q:Value->Shared->Prop}{c:Value}{b:Bool}
inductive TyOf (K:PySem.W.Frag)(H:Hp):V->Value->Prop where
 | non:TyOf K H .non (.type "NoneType")
 | bl (x:Bool):TyOf K H (.bl x) (.type "bool")
 | int (i:Int):TyOf K H (.int i) (.type "int")
 | str (x:Str):TyOf K H (.str x) (.type "str")
 | flt (x:UInt64):TyOf K H (.flt x) (.type "float")
 | lst {a:Addr} {xs:List V} (e:H a=some (.lst xs)):TyOf K H (.ref a) (.type "list")
 | frz {a:Addr} {o:Obj} {xs:List V} (e:H a=some (.frz o (.lst xs))):TyOf K H (.ref a) (.type "list")
 | tup {a:Addr} {xs:List V} (e:H a=some (.tup xs)):TyOf K H (.ref a) (.type "tuple")
 | dK {a:Addr} {kvs:List (Key×V)} (e:H a=some (.dK kvs)):TyOf K H (.ref a) (.type "dict")
 | dT {a:Addr} {kvs:List (List Key×V)} (e:H a=some (.dT kvs)):TyOf K H (.ref a) (.type "dict")
 | ins {a C dx:Addr} {fs:List (Str×V)} (e:H a=some (.ins C dx fs)) (cl:Cls K C) (ha:PySem.W.findIn K (.ref C) "__class__" = some (some (.builtin "object.__class__")))
   (hn:PySem.W.specialIn K (.builtin "object.__class__") "__get__" = some (some (.builtin "getset_descriptor.__get__"))) (htk:PySem.W.takesIn K (.builtin "object.__class__")=some true)
   (hm:PySem.W.mroIn K C (.type "object")=some true):TyOf K H (.ref a) (.ref C)
theorem xj {x:V}{u t:Value}(I:Inv X pins σ H s)(rx:RelV x u)(ty:TyOf X.K H x t)(e:PySem.W.kitOne X.K t c=some b)(h:∀ tk,Q (.bool b) { s with toks:=tk }) :
  wpAny (model X.prog X.w) A (call (.builtin "isinstance") [u,c]) Q E s:=by
 cases ty with
 | non=>cases (show u=Value.none from rx);exact PySem.W.kia_one PySem.W.kitx_none I.kIn True.intro e (fun z=>nomatch z) h
 | bl y=>cases (show u=Value.bool y from rx);exact PySem.W.kia_one PySem.W.kitx_bool I.kIn True.intro e (fun z=>nomatch z) h
 | int i=>obtain ⟨t,q⟩:=(show ∃ t,u=Value.int i t from rx);cases q;exact PySem.W.kia_one PySem.W.kitx_int I.kIn True.intro e (fun z=>nomatch z) h
 | str y=>obtain ⟨t,q⟩:=(show ∃ t,u=Value.str y t from rx);cases q;exact PySem.W.kia_one PySem.W.kitx_str I.kIn True.intro e (fun z=>nomatch z) h
 | flt y=>obtain ⟨t,q⟩:=(show ∃ t,u=Value.float y t from rx);cases q;exact PySem.W.kia_one PySem.W.kitx_float I.kIn True.intro e (fun z=>nomatch z) h
 | @lst a xs ea =>
  cases (show u=Value.ref a from rx)
  obtain ⟨_,_,n,_,h1⟩:=(show ObjOk X.prog X.w H s.heap a (.lst xs) from I.hok a _ ea)
  exact PySem.W.kia_one PySem.W.kitx_list I.kIn ⟨_,h1,rfl⟩ e (fun z=>nomatch z) h
 | @frz a ob xs ea =>
  cases (show u=Value.ref a from rx)
  obtain ⟨_,_,_,n,_,h1⟩:=(show ObjOk X.prog X.w H s.heap a (.frz ob (.lst xs)) from I.hok a _ ea)
  exact PySem.W.kia_one PySem.W.kitx_list I.kIn ⟨_,h1,rfl⟩ e (fun z=>nomatch z) h
 | @tup a xs ea =>
  cases (show u=Value.ref a from rx)
  obtain ⟨_,_,_,p⟩:=(show ObjOk X.prog X.w H s.heap a (.tup xs) from I.hok a _ ea)
  obtain ⟨o,h1,h2,_⟩:=p
  exact PySem.W.kia_one PySem.W.kitx_tuple I.kIn ⟨o,h1,h2⟩ e (fun z=>nomatch z) h
 | @dK a kvs ea =>
  cases (show u=Value.ref a from rx)
  obtain ⟨_,_,vs,_,p⟩:=(show ObjOk X.prog X.w H s.heap a (.dK kvs) from I.hok a _ ea)
  obtain ⟨o,es,ep,h1,h2,_⟩:=p
  exact PySem.W.kia_one PySem.W.kitx_dict I.kIn ⟨o,h1,h2.1⟩ e (fun z=>nomatch z) h
 | @dT a kvs ea =>
  cases (show u=Value.ref a from rx)
  obtain ⟨_,_,xs,_,o,es,ep,h1,h2,_⟩:=(show ObjOk X.prog X.w H s.heap a (.dT kvs) from I.hok a _ ea)
  exact PySem.W.kia_one PySem.W.kitx_dict I.kIn ⟨o,h1,h2.1⟩ e (fun z=>nomatch z) h
 | @ins a C dx fs ea cl ha hn htk hm =>
  cases (show u=Value.ref a from rx)
  obtain ⟨mA,O,_⟩:=lD I.hok ea
  obtain ⟨od,J,_⟩:=O.look
  exact PySem.W.kia_one (PySem.W.kitx_own (cl.get _) cl.hd ha hn htk hm) I.kIn J e (fun z=>nomatch z) h
end
end L2

namespace L2
open PySem PySem.Spec PyProof.Rows

structure Room (k:Nat)(A:Around):Prop where
 hd:A.handled=none
 dp:A.depth+3 * k+5 < recursionLimit
 un:A.units+16 * k+200 < cLine
 gd:A.guards=some []
theorem Room.mono {j k:Nat}{A:Around}(r:Room k A)(h:j<=k):Room j A:=⟨r.hd,by have:=r.dp;lia,by have:=r.un;lia,r.gd⟩
theorem Room.deeper {k:Nat}{A:Around}(r:Room (k+1) A)(env:Env):Room k (A.deeper env) :=
 ⟨r.hd,by have:=r.dp;show A.depth+1+3 * k+5 < _;lia,by have:=r.un;show A.units+3+16 * k+200 < _;lia,r.gd⟩
theorem uw {A:Around}{C:Addr}{us:List Value}{kw:List (Str×Value)}:(A.under (.builtin "type.__call__" ⟨.ref C::us,kw⟩)).depth=A.depth+1:=by
 first | rfl | simp [Around.under,Code.weight,Code.isCreation,Code.isGuard,Code.isCaller,Code.frames,Code.isFrame,guardIds]
theorem uz {A:Around}{C:Addr}{us:List Value}{kw:List (Str×Value)}:(A.under (.builtin "type.__call__" ⟨.ref C::us,kw⟩)).units=A.units+1:=by
 first | rfl | simp [Around.under,Code.cUnits,Code.frames,Code.isFrame]
theorem rO {A:Around}{C:Addr}{us:List Value}{kw:List (Str×Value)}:(A.under (.builtin "type.__call__" ⟨.ref C::us,kw⟩)).guards=A.guards:=by
 first | rfl | simp [Around.under,Code.weight,Code.isCreation,Code.isGuard,Code.isCaller,Code.frames,Code.isFrame,guardIds]
theorem Room.make {k:Nat}{A:Around}(r:Room (k+1) A)(C:Addr)(us:List Value)(kw:List (Str×Value)):Room k (A.under (.builtin "type.__call__" ⟨.ref C::us,kw⟩)) :=
 ⟨r.hd,by have:=r.dp;rw [uw];lia,by have:=r.un;rw [uz];lia,by rw [rO];exact r.gd⟩
theorem Room.depth {k:Nat}{A:Around}(r:Room k A):A.depth < recursionLimit:=by have:=r.dp;lia
theorem Room.units {k:Nat}{A:Around}(r:Room k A):A.units+64 < cLine:=by have:=r.un;lia
def qw:TA:=fun _ H Q=>Q [] H
def kh (ta:TE)(tr:TA):TA:=fun σ H Q=>ta σ H fun x H1=>tr σ H1 fun xs H2=>Q (x::xs) H2
section
variable {X:Cx}{e:Expr}{es:List Expr}{te:TE}{t:TA}{pos:Pos}
theorem aj:PA X [] qw:=fun _ _ _ _ H Q I h=>Calls.spliced_nil ⟨[],H,I,.nil,h⟩
theorem aQ (ha:PE X e te)(hr:PA X es t)(hs:starEach (e::es) X.env=(false,eval e X.env)::starEach es X.env:=by rfl):PA X (e::es) (kh te t):=by
 intro pos pins s σ H Q I h
 rw [hs]
 show wpAny _ _ (spliced ((false,eval e X.env)::backTo pos (starEach es X.env))) _ _ s
 refine Calls.spliced_cons (thn (ha pins s σ H _ I h) fun u s1 ⟨x,H1,I1,r1,q1⟩=>?_)
 exact thn (hr pos pins s1 σ H1 _ I1 q1) fun us s2 ⟨xs,H2,I2,r2,q2⟩=>⟨x::xs,H2,I2,.cons r1 r2,q2⟩

def Bg (t:TA):TE:=fun σ H Q=>t σ H fun xs H1=>xs.length<=sizeLine/\∀ p,H1 p=none->Q (.ref p) (upd H1 p (.tup xs))
def Eg (t:TA):TE:=fun σ H Q=>t σ H fun xs H1=>xs.length<=sizeLine/\∀ p,H1 p=none->Q (.ref p) (upd H1 p (.lst xs))
theorem bH {x1}(h:PA X es t):PE X (.Tuple es x1 pos) (Bg t):=by
 intro pins s σ H Q I hq
 refine wpAny_Tuple_spliced (thn (h pos pins s σ H _ I hq) fun us s1 ⟨xs,H1,I1,r,z,q⟩=>⟨by rw [<- r.length];exact z,?_⟩)
 have hf:H1 s1.heap.objs.size=none:=I1.hok.fresh (zA3 _)
 refine ⟨.ref s1.heap.objs.size,upd H1 s1.heap.objs.size (.tup xs),I1.laid (t':=s1.toks) (fun b u e=>Heap.get?_push_of_some _ e) (zA3 _) ?_,rfl,q _ hf⟩
 exact ⟨z,us,r,⟨_,Heap.get?_push_size _ rfl,rfl,_,rfl⟩⟩
theorem cC (h:PA X es t):PE X (.List es pos) (Eg t):=by
 intro pins s σ H Q I hq
 refine wpAny_List_spliced (thn (h pos pins s σ H _ I hq) fun us s1 ⟨xs,H1,I1,r,z,q⟩=>⟨by rw [<- r.length];exact z,?_⟩)
 have hf:H1 s1.heap.objs.size=none:=I1.hok.fresh (zA3 _)
 refine ⟨.ref s1.heap.objs.size,upd H1 s1.heap.objs.size (.lst xs),I1.laid (t':=s1.toks) (fun b u e=>Heap.get?_push_of_some _ e) (zA3 _) ?_,rfl,q _ hf⟩
 exact ⟨z,us,0,r,Heap.get?_push_size _ rfl⟩
end

abbrev Sp:=List V->Hp->VK->XK->Prop
abbrev CXT:=List Env->Hp->Shared->XK->Value->Shared->Prop

structure Env0 (P:Program)(w:World)(K:PySem.W.Frag)(mg:Str->Option Value)(base:Heap)(A:Around)(outer:List Env)(s:Shared)(H:Hp):Prop where
 frames:A.frames=some outer
 mod:Mod K mg base
 bs:∀ b o,base.get? b=some o->s.heap.get? b=some o/\H b=none
 bsz:base.objs.size<=s.heap.objs.size
 funs:s.heap.FunFrames base outer
 frf:∀ b∈frs outer,H b=none
 hok:HOk P w H s.heap
 bare:AllBare s.gens
def CE (outer:List Env)(P:Program)(w:World)(H:Hp)(s:Shared)(Q:VK)(u:Value)(s':Shared):Prop :=
 ∃ v H',s'.os=s.os/\AllBare s'.gens/\Un (frs outer) [] H H' s.heap s'.heap/\HOk P w H' s'.heap/\RelV v u/\Q v H'
def CR (CX:CXT)(outer:List Env)(P:Program)(w:World)(H:Hp)(s:Shared)(Q:VK)(E:XK)(r:Result)(s':Shared):Prop :=
 match r with
 | .ok (.ret u)=>CE outer P w H s Q u s'
 | .ok _=>False
 | .error e=>CX outer H s E e s'
structure FnOk (P:Program)(w:World)(K:PySem.W.Frag)(mg:Str->Option Value)(base:Heap)(CX:CXT)(k:Nat)(f:Addr)(fd:FuncData)(ps:List Str)(sp:Sp):Prop where
 len:∀ vs H Q E,sp vs H Q E->vs.length=ps.length
 run:∀ (A:Around) (outer:List Env) (s:Shared) (H:Hp) (args:Args) (us:List Value) (vs:List V) (Q:VK) (E:XK),Room k A->Env0 P w K mg base A outer s H->BindsTo s fd args (ps.zip us)->Vals vs us->sp vs H Q E ->
  codeAny (model P w) A (.call (.ref f) args) (CR CX outer P w H s Q E) s
theorem FnOk.imp {P:Program}{w:World}{K:PySem.W.Frag}{mg:Str->Option Value}{base:Heap}{CX:CXT}{k:Nat}{f:Addr}{fd:FuncData}{ps:List Str}{sp sp':Sp}(F:FnOk P w K mg base CX k f fd ps sp)
  (h:∀ vs H Q E,sp' vs H Q E->sp vs H Q E):FnOk P w K mg base CX k f fd ps sp' :=
 ⟨fun vs H Q E q=>F.len vs H Q E (h _ _ _ _ q),fun A outer s H args us vs Q E hr he hb hv hs=>F.run A outer s H args us vs Q E hr he hb hv (h _ _ _ _ hs)⟩

theorem Env0.make {P:Program}{w:World}{K:PySem.W.Frag}{mg:Str->Option Value}{base:Heap}{A:Around}{outer:List Env}{s:Shared}{H:Hp}(e:Env0 P w K mg base A outer s H)(C:Addr)(us:List Value)(kw:List (Str×Value)) :
  Env0 P w K mg base (A.under (.builtin "type.__call__" ⟨.ref C::us,kw⟩)) outer s H:=⟨by first | exact e.frames | (simpa [Around.under,Code.envs,Code.isFrame,pushEnvs] using e.frames),e.mod,e.bs,e.bsz,e.funs,e.frf,e.hok,e.bare⟩
section
variable {X:Cx}{pins:List (Addr×Obj)}{σ:St}{H:Hp}{s s':Shared}
theorem Inv.env0 (I:Inv X pins σ H s):Env0 X.prog X.w X.K X.mg X.base X.A X.stack s H :=
 ⟨I.ok.frames,I.ok.mod,I.bs,Nat.le_trans I.ok.bsz I.sz,I.stack,I.stkFree,I.hok,I.bare⟩
theorem Inv.after {Q:VK}{u:Value}(I:Inv X pins σ H s)(h:CE X.stack X.prog X.w H s Q u s'):EP X pins σ Q u s':=by
 obtain ⟨v,H',os,bare,un,hok,r,q⟩:=h
 obtain ⟨hh,g,d,t,os'⟩:=s'
 obtain rfl:os'=s.os:=os
 exact ⟨v,H',I.call (h':=hh) (g':=g) (d':=d) (t':=t) (ch:=[]) un hok bare (fun b z=>absurd z (by simp)),r,q⟩
end

def yI (sp:Sp)(dvs:List V)(E:XK)(t:TA):TE:=fun σ H Q=>t σ H fun vs H1=>sp (vs++dvs) H1 Q E
def vA (C:Addr)(m:Str)(sp:Sp)(dvs:List V)(E:XK)(ta:TE)(t:TA):TE:=fun σ H Q=>ta σ H fun x H1=>∃ a dx fs,x=.ref a/\H1 a=some (.ins C dx fs)/\fs.lookup m=none /\
 t σ H1 fun vs H2=>sp (x::(vs++dvs)) H2 Q E
def Dj (C:Addr)(sp:Sp)(dvs:List V)(E:XK)(t:TA):TE:=fun σ H Q=>t σ H fun vs H1=>∀ x dx,H1 x=none->H1 dx=none->dx≠x ->
 sp (.ref x::(vs++dvs)) (upd (upd H1 dx (.own x)) x (.ins C dx [])) (fun v H2=>v=.non/\Q (.ref x) H2) E

def Binds (K:PySem.W.Frag)(fd:FuncData)(ps:List Str)(ds:List Value):Prop :=
 ∀ (s:Shared) (us:List Value),K.In s.heap->(us++ds).length=ps.length->BindsTo s fd ⟨us,[]⟩ (ps.zip (us++ds))
theorem Binds.all {K:PySem.W.Frag}{fd:FuncData}{ps:List Str}(h:∀ us:List Value,us.length=ps.length->bindArgs fd ⟨us,[]⟩=pure (ps.zip us)):Binds K fd ps []:=fun s us _ hl=>by
 rw [zAn] at hl ⊢
 exact .of_eq (h us hl)

def iJ (CX:CXT)(X:Cx)(E:XK):Prop:=∀ (pins:List (Addr×Obj)) (σ:St) (H:Hp) (s:Shared) (e:Value) (s':Shared),Inv X pins σ H s->CX X.stack H s E e s'->X.xe e s'

section
variable {X:Cx}{CX:CXT}{k:Nat}{f C:Addr}{fd:FuncData}{ps:List Str}{sp:Sp}{dvs:List V}{ds:List Value}{E:XK}{x m:Str}{p pos apos:Pos}{e o:Expr}{es:List Expr}{ta:TE}{t:TA}

theorem uA {pins:List (Addr×Obj)}{σ:St}{H:Hp}{s:Shared}{Q:VK}{us:List Value}{vs:List V}(F:FnOk X.prog X.w X.K X.mg X.base CX k f fd ps sp)(hr:Room k X.A)(hb:Binds X.K fd ps ds)(hd:Vals dvs ds)(hx:iJ CX X E)
  (I:Inv X pins σ H s) (r:Vals vs us) (h:sp (vs++dvs) H Q E):wpAny (model X.prog X.w) X.A (call (.ref f) us) (EP X pins σ Q) X.xe s:=by
 have r2:Vals (vs++dvs) (us++ds):=r.append hd
 have hl:(us++ds).length=ps.length:=by rw [<- r2.length];exact F.len _ _ _ _ h
 refine wpAny_call (codeAny_mono (F.run X.A X.stack s H ⟨us,[]⟩ (us++ds) (vs++dvs) Q E hr I.env0 (hb s us I.kIn hl) r2 h) fun r s' hq=>?_)
 cases r with
 | error e=>exact hx pins σ H s e s' I hq
 | ok fl =>
  cases fl with
  | ret u=>exact I.after hq
  | next=>exact False.elim hq
  | brk=>exact False.elim hq
  | cont=>exact False.elim hq

theorem vB (F:FnOk X.prog X.w X.K X.mg X.base CX k f fd ps sp)(hr:Room k X.A)(hg:Gl X x)(hm:X.mg x=some (.ref f))(hk:PySem.W.keepIn X.K (.ref f)=true)(hb:Binds X.K fd ps ds)(hd:Vals dvs ds)(hx:iJ CX X E)
  (ha:PA X (e::es) t) (hdb:(x == ("__debug__" : Str))=false:=by decide) (he:starEach (e::es) X.env=(false,eval e X.env)::starEach es X.env:=by rfl) (hpl:(backTo pos (starEach es X.env)).any (·.1)=false:=by rfl) :
  PE X (.Call (.Name x p) (e::es) [] pos) (yI sp dvs E t):=by
 intro pins s σ H Q I h
 refine wpAny_Call_Name_kw (qi I hg hm ?_ hdb)
 refine PySem.W.callWith_K (h₀:=X.base) I.ok.mod.kin hk (thn (ha pos pins s σ H _ I h) fun us s1 ⟨vs,H1,I1,r,q⟩=>⟨I1.kIn,?_⟩) he hpl
 exact uA F hr hb hd hx I1 r q
theorem Bh {pl:Sem Bool}(he:PE X o ta)(c:Cls X.K C)(hm:Meth X.K C m f)(F:FnOk X.prog X.w X.K X.mg X.base CX k f fd ps sp)(hr:Room k X.A)(hb:Binds X.K fd ps ds)(hd:Vals dvs ds)(hx:iJ CX X E)(ha:PA X (e::es) t)
  (hst:starEach (e::es) X.env=(false,eval e X.env)::starEach es X.env:=by rfl) (hpl:(backTo pos (starEach es X.env)).any (·.1)=false:=by rfl)
  (ht:eval (.Call (.Attribute o m apos) (e::es) [] pos) X.env=(do
   let ov <- eval o X.env
   standAt apos.atName
   let (f,first) <- holding [ov] (getMethod ov m pl)
   callWith pos f first (backTo pos (starEach (e::es) X.env)) (backToKw pos (keywordEach [] X.env))):=by rfl) :
  PE X (.Call (.Attribute o m apos) (e::es) [] pos) (vA C m sp dvs E ta t):=by
 intro pins s σ H Q I h
 refine PySem.W.methodCall_KW (pl:=pl) (thn (he pins s σ H _ I h) fun u s1 ⟨x,H1,I1,rx,a,dx,fs,ex,ea,l,q⟩=>?_) ht
 subst ex
 obtain rfl:u=Value.ref a:=rx
 refine iI I1 ea c hm l ?_
 refine PySem.W.callWith_K (first:=[.ref a]) (h₀:=X.base) I.ok.mod.kin hm.kp (thn (ha pos pins s1 σ H1 _ I1 q) fun us s2 ⟨vs,H2,I2,r,q2⟩=>⟨I2.kIn,?_⟩) hst hpl
 exact uA (us:=.ref a::us) (vs:=.ref a::vs) F hr hb hd hx I2 (.cons rfl r) q2
theorem yJ {pl:Sem Bool}(he:PE X o ta)(c:Cls X.K C)(hm:Meth X.K C m f)(F:FnOk X.prog X.w X.K X.mg X.base CX k f fd ps sp)(hr:Room k X.A)(hb:Binds X.K fd ps ds)(hd:Vals dvs ds)(hx:iJ CX X E)
  (ht:eval (.Call (.Attribute o m apos) [] [] pos) X.env=(do
   let ov <- eval o X.env
   standAt apos.atName
   let (f,first) <- holding [ov] (getMethod ov m pl)
   callWith pos f first (backTo pos (starEach [] X.env)) (backToKw pos (keywordEach [] X.env))):=by rfl) :
  PE X (.Call (.Attribute o m apos) [] [] pos) (vA C m sp dvs E ta qw):=by
 intro pins s σ H Q I h
 refine PySem.W.methodCall_KW (pl:=pl) (thn (he pins s σ H _ I h) fun u s1 ⟨x,H1,I1,rx,a,dx,fs,ex,ea,l,q⟩=>?_) ht
 subst ex
 obtain rfl:u=Value.ref a:=rx
 refine iI I1 ea c hm l ?_
 exact PySem.W.callWith_K0 (first:=[.ref a]) I1.kIn hm.kp (uA (us:=[.ref a]) (vs:=[.ref a]) F hr hb hd hx I1 (.cons rfl .nil) q)

structure Mk (K:PySem.W.Frag)(C f:Addr):Prop where
 makes:PySem.W.makesIn K C=true
 init:PySem.W.findIn K (.ref C) "__init__" = some (some (.ref f))
 fn:PySem.W.isFn K (.ref f)=true
 kp:PySem.W.keepIn K (.ref C)=true

theorem yK {pins:List (Addr×Obj)}{σ:St}{H:Hp}{s:Shared}{Q:VK}{us:List Value}{vs:List V}(M:Mk X.K C f)(F:FnOk X.prog X.w X.K X.mg X.base CX k f fd ps sp)(hr:Room (k+1) X.A)(hb:Binds X.K fd ps ds)(hd:Vals dvs ds)
  (hx:iJ CX X E) (I:Inv X pins σ H s) (r:Vals vs us)
  (h:∀ x dx,H x=none->H dx=none->dx≠x->sp (.ref x::(vs++dvs)) (upd (upd H dx (.own x)) x (.ins C dx [])) (fun v H2=>v=.non/\Q (.ref x) H2) E) :
  wpAny (model X.prog X.w) X.A (call (.ref C) us) (EP X pins σ Q) X.xe s:=by
 have hq:=h (s.heap.objs.size+1) s.heap.objs.size (I.hok.fresh (Nat.le_succ _)) (I.hok.fresh (zA3 _)) (Nat.ne_of_lt (Nat.lt_succ_self _))
 have I2:=Inv.made (C:=C) I
 have r2:Vals (V.ref (s.heap.objs.size+1)::(vs++dvs)) (Value.ref (s.heap.objs.size+1)::(us++ds)):=.cons rfl (r.append hd)
 have hl:(Value.ref (s.heap.objs.size+1)::us++ds).length=ps.length:=by
  have e:=r2.length
  rw [F.len _ _ _ _ hq] at e
  exact e.symm
 refine wpAny_call (yH (f:=f) I.kIn M.makes M.init (beq_iff_eq.mp M.fn) (codeAny_mono (F.run _ X.stack _ _ ⟨Value.ref (s.heap.objs.size+1)::us,[]⟩ (Value.ref (s.heap.objs.size+1)::(us++ds)) _ _ E (hr.make C us [])
  (I2.env0.make C us []) (hb _ (Value.ref (s.heap.objs.size+1)::us) I2.kIn hl) r2 hq) fun r s' hq'=>?_))
 cases r with
 | error e=>exact hx pins σ _ _ e s' I2 hq'
 | ok fl =>
  cases fl with
  | ret u =>
   obtain ⟨v,H',I3,rv,ev,q3⟩:=I2.after hq'
   subst ev
   exact ⟨rv,⟨V.ref (s.heap.objs.size+1),H',I3,rfl,q3⟩⟩
  | next=>exact False.elim hq'
  | brk=>exact False.elim hq'
  | cont=>exact False.elim hq'
theorem yL (M:Mk X.K C f)(F:FnOk X.prog X.w X.K X.mg X.base CX k f fd ps sp)(hr:Room (k+1) X.A)(hg:Gl X x)(hm:X.mg x=some (.ref C))(hb:Binds X.K fd ps ds)(hd:Vals dvs ds)(hx:iJ CX X E)
  (hdb:(x == ("__debug__" : Str))=false:=by decide):PE X (.Call (.Name x p) [] [] pos) (Dj C sp dvs E qw):=by
 intro pins s σ H Q I h
 refine wpAny_Call_Name_kw (qi I hg hm ?_ hdb)
 exact PySem.W.callWith_K0 I.kIn M.kp (yK (us:=[]) M F hr hb hd hx I .nil h)
end

section
variable {X:Cx}{CX:CXT}{k:Nat}{f C:Addr}{fd:FuncData}{ps ks:List Str}{sp:Sp}{E:XK}{x m:Str}{p pos apos kpos:Pos}{e o:Expr}{es:List Expr}{kws:List Keyword}{te ta:TE}{t tk:TA}{nm:Option Str}
variable {g:List Value->List Value->List Value}{gV:List V->List V->List V}
end

structure FnScope (N P:List Str)(sc:Scope):Prop where
 kind:sc.kind=.function
 co:sc.isCoroutine=false
 gen:sc.isGenerator=false
 nd:N.Nodup
 pre:N.take P.length=P
 par:∀ x∈P,sc.names.lookup x=some .local\/sc.names.lookup x=some .cell
 nofree:∀ y∈sc.names,y.2≠.free

theorem oY {kindOf:Str->Option NameKind}{x:Str}:∀ {binds:List (Str×Value)} {m:Str->Option Value},(∀ v,(x,v) ∉ binds)->bindL kindOf binds m x=m x
 | [],_,_=>rfl
 | (n,v)::r,m,h=>by
  unfold bindL
  rw [oY fun w hw=>h w (List.mem_cons_of_mem _ hw)]
  split
  ·have:x≠n:=by rintro rfl;exact h v List.mem_cons_self
   simp [this]
  ·rfl
theorem oZ {kindOf:Str->Option NameKind}{x:Str}:∀ {binds:List (Str×Value)} {m:Str->Option Value},(∀ v,(x,v) ∉ binds)->bindC kindOf binds m x=m x
 | [],_,_=>rfl
 | (n,v)::r,m,h=>by
  unfold bindC
  rw [oZ fun w hw=>h w (List.mem_cons_of_mem _ hw)]
  split
  ·rfl
  ·have:x≠n:=by rintro rfl;exact h v List.mem_cons_self
   simp [this]
theorem p8 {kindOf:Str->Option NameKind}{x:Str}{v:Value}:∀ {P:List Str} {vs:List Value} {i:Nat} {m:Str->Option Value},P.Nodup->P[i]?=some x->vs[i]?=some v->kindOf x=some .local ->
  bindL kindOf (P.zip vs) m x=some v
 | [],_,_,_,_,h,_,_=>by simp at h
 | _::_,[],_,_,_,_,h,_=>by simp at h
 | p::P,w::vs,0,m,nd,h1,h2,hk=>by
  simp at h1 h2;subst h1;subst h2
  show bindL kindOf ((p,w)::P.zip vs) m p=_
  unfold bindL
  rw [oY fun v hv=>(List.nodup_cons.mp nd).1 (List.of_mem_zip hv).1,if_pos hk]
  simp
 | p::P,w::vs,i+1,m,nd,h1,h2,hk=>by
  show bindL kindOf ((p,w)::P.zip vs) m x=_
  unfold bindL
  exact p8 (i:=i) (List.nodup_cons.mp nd).2 (by simpa using h1) (by simpa using h2) hk
theorem ph {kindOf:Str->Option NameKind}{x:Str}{v:Value}:∀ {P:List Str} {vs:List Value} {i:Nat} {m:Str->Option Value},P.Nodup->P[i]?=some x->vs[i]?=some v->kindOf x≠some .local ->
  bindC kindOf (P.zip vs) m x=some v
 | [],_,_,_,_,h,_,_=>by simp at h
 | _::_,[],_,_,_,_,h,_=>by simp at h
 | p::P,w::vs,0,m,nd,h1,h2,hk=>by
  simp at h1 h2;subst h1;subst h2
  show bindC kindOf ((p,w)::P.zip vs) m p=_
  unfold bindC
  rw [oZ fun v hv=>(List.nodup_cons.mp nd).1 (List.of_mem_zip hv).1,if_neg hk]
  simp
 | p::P,w::vs,i+1,m,nd,h1,h2,hk=>by
  show bindC kindOf ((p,w)::P.zip vs) m x=_
  unfold bindC
  exact ph (i:=i) (List.nodup_cons.mp nd).2 (by simpa using h1) (by simpa using h2) hk

def start (N:List Str)(vs:List V):St:=vs.map some++List.replicate (N.length - vs.length) none

def xm (CX:CXT)(P:Program)(w:World)(K:PySem.W.Frag)(mg:Str->Option Value)(base:Heap)(N:List Str)(qual:Str)(scope:Scope)(f:Addr)(cd:Value)(A:Around)(outer:List Env)(s:Shared)(H:Hp)(E:XK):Cx where
 prog:=P
 w:=w
 K:=K
 mg:=mg
 base:=base
 A:=A.deeper (envOfC qual scope s.heap.objs.size f cd)
 N:=N
 s₀:=s
 H₀:=H
 env:=envOfC qual scope s.heap.objs.size f cd
 outer:=outer
 stack:=envOfC qual scope s.heap.objs.size f cd::outer
 ex:=[]
 calm:=true
 fn:=fun _=>true
 pn:=[]
 xe:=fun e s'=>wpAny (model P w) (A.deeper (envOfC qual scope s.heap.objs.size f cd)) (leaving (envOfC qual scope s.heap.objs.size f cd) e) (fun _ s''=>CX outer H s E e s'') (fun e' s''=>CX outer H s E e' s'') s'

theorem rP {sc:Scope}{n:Nat}{x:Str}(h:sc.names.lookup x=some .cell):∃ c,(cellsFrom n sc.names []).lookup x=some c:=by
 have q:=PySem.W.cellsFrom_some sc.names n [] (.inl h)
 exact Option.isSome_iff_exists.mp q

theorem xn {CX:CXT}{P:Program}{w:World}{K:PySem.W.Frag}{mg:Str->Option Value}{base:Heap}{N ps:List Str}{qual:Str}{scope:Scope}{f:Addr}{cd:Value}{A:Around}{outer:List Env}{s s1:Shared}{H:Hp}{E:XK}{us:List Value}{vs:List V}
  (S:FnScope N ps scope) (hd:A.handled=none) (e0:Env0 P w K mg base A outer s H) (hl:vs.length=ps.length) (r:Vals vs us)
  (x:InCallC s s.heap.objs.size (bindL (envOfC qual scope s.heap.objs.size f cd).kindOf (ps.zip us) fun _=>none) (cellsFrom (s.heap.objs.size+1) scope.names []) (bindC (envOfC qual scope s.heap.objs.size f cd).kindOf (ps.zip us) fun _=>none) s1) :
  Inv (xm CX P w K mg base N qual scope f cd A outer s H E) [] (start N vs) H s1:=by
 have hpl:ps.length<=N.length:=by have:=congrArg List.length S.pre;rw [zAd] at this;lia
 obtain ⟨h1,tk,rfl,hk⟩:=x.done
 have noA:∀ b:Addr,b ∉ (xm CX P w K mg base N qual scope f cd A outer s H E).ex:=fun b z=>absurd (show b∈([]:List Addr) from z) (by simp)
 refine ⟨⟨e0.mod,S.kind,rfl,rfl,zA3 _,fun y z c h1 h2=>?_,fun y hy=>?_,fun y c _ h=>?_,fun _=>hd,Around.frames_deeper e0.frames,.inr ⟨rfl,rfl⟩,fun b z=>absurd z (noA b),e0.bs,e0.bsz,fun b _ _=>noA b,fun b z=>absurd z (noA b),e0.funs,e0.frf⟩,
  rfl,e0.bare,Un.kept hk,⟨_,x.toInCall.ns,fun i y v h1 h2 h3=>?_⟩,fun y c h=>⟨_,x.cell y c h⟩,e0.hok.fresh (Nat.le_refl _),fun y c h=>?_,fun p hp=>absurd (show p∈([]:List (Addr×Obj)) from hp) (by simp),e0.hok.kept hk,?_⟩
 ·exact name_of_addr x.apart (PySem.mem_of_lookup h1) (PySem.mem_of_lookup h2)
 ·have hy:scope.names.lookup y=some .cell\/scope.names.lookup y=some .free:=hy
  rcases hy with hy | hy
  ·exact rP hy
  ·exact absurd rfl (S.nofree _ (PySem.mem_of_lookup hy))
 ·exact Nat.le_of_lt (x.above y c (PySem.mem_of_lookup h))
 ·have hi:i < vs.length:=by
   unfold start at h2
   by_cases hi:i < vs.length
   ·exact hi
   ·rw [List.getElem?_append_right (by simpa using hi)] at h2
    rw [List.getElem?_replicate] at h2
    split at h2 <;> cases h2
  have ha:vs[i]?=some v:=by
   unfold start at h2
   rw [List.getElem?_append_left (by simpa using hi),List.getElem?_map] at h2
   cases e:vs[i]? with
   | none=>rw [e] at h2;cases h2
   | some a=>rw [e] at h2;cases h2;rfl
  obtain ⟨u,hu,rv⟩:=r.get ha
  have hp:ps[i]?=some y:=by
   rw [<- S.pre,List.getElem?_take_of_lt (by lia)];exact h1
  have ndP:ps.Nodup:=by rw [<- S.pre];exact S.nd.sublist (List.take_sublist _ _)
  refine ⟨u,rv,?_⟩
  rcases S.par y (List.mem_of_getElem? hp) with k | k
  ·exact .inl ⟨k,p8 ndP hp hu k⟩
  ·obtain ⟨c,e⟩:=rP (n:=s.heap.objs.size+1) k
   refine .inr ⟨.inl k,c,e,?_⟩
   have q:=x.cell y c e
   rw [ph ndP hp hu (by show scope.names.lookup y≠_;rw [k];decide)] at q
   exact q
 ·exact e0.hok.fresh (Nat.le_of_lt (x.above y c (PySem.mem_of_lookup h)))
 ·unfold start
  show _=N.length
  rw [zA2,zA1,List.length_replicate]
  lia

theorem Ga {CX:CXT}{P:Program}{w:World}{K:PySem.W.Frag}{mg:Str->Option Value}{base:Heap}{k:Nat}{f:Addr}{name qual:Str}{params:Arguments}{body:List Stmt}{scope:Scope}{dV kV doc pm cdv ct oc:Value}{an od:Option Addr}
  {osl:Array (Option Value)} {N ps:List Str} {sp:Sp} (lk:K.lookup f=some ⟨oc,od,.func (PySem.W.fnOf name qual params body scope dV kV doc pm an cdv ct),osl⟩) (hcd:PySem.W.codeIn K cdv qual=true) (S:FnScope N ps scope)
  (len:∀ vs H Q E,sp vs H Q E->vs.length=ps.length)
  (hbody:∀ (A:Around) (outer:List Env) (s:Shared) (H:Hp) (vs:List V) (Q:VK) (E:XK),Room k (A.deeper (envOfC qual scope s.heap.objs.size f cdv))->sp vs H Q E ->
   ∃ t,PSs (xm CX P w K mg base N qual scope f cdv A outer s H E) body t/\t { nx:=fun _ H'=>Q .non H',rt:=Q } (start N vs) H) :
  FnOk P w K mg base CX (k+1) f (PySem.W.fnOf name qual params body scope dV kV doc pm an cdv ct) ps sp:=by
 refine ⟨len,fun A outer s H args us vs Q E hr e0 hb r hsp=>?_⟩
 have hl:=len _ _ _ _ hsp
 have KX:K.In s.heap:=e0.mod.kin.keeps fun b o e=>(e0.bs b o e).1
 have lim:s.heap.NoLimit:=e0.mod.nolimit.keeps fun b o e=>(e0.bs b o e).1
 have hkind:∀ y∈ps.zip us,scope.names.lookup y.1=some .local\/(scope.names.lookup y.1=some .cell/\((cellsFrom (s.heap.objs.size+1) scope.names []).lookup y.1).isSome=true):=fun ⟨n,v⟩ hy=>by
  rcases S.par n (List.of_mem_zip hy).1 with q | q
  ·exact .inl q
  ·exact .inr ⟨q,PySem.W.cellsFrom_some _ _ _ (.inl q)⟩
 refine codeAny_call_function hr.depth (KX _ _ lk) rfl S.co S.gen rfl (PySem.W.codeRec_of KX hcd) (hb _ _ _ _ ?_)
 refine wpAny_newFunctionEnv_cells S.kind hkind fun env he s1 x=>?_
 subst he
 refine ⟨lim.keeps x.toInCall.keep,codeAny_func ?_⟩
 obtain ⟨t,ht,hq⟩:=hbody A outer s H vs Q E (hr.deeper _) hsp
 have I:Inv (xm CX P w K mg base N qual scope f cdv A outer s H E) [] (start N vs) H s1:=xn S hr.hd e0 hl r x
 refine wpAny_mono (ht [] s1 (start N vs) H _ I hq) (fun fl s' hs=>?_) fun e s' hs=>hs
 have fin:∀ {σ':St} {H':Hp} {v:V} {u:Value},Inv (xm CX P w K mg base N qual scope f cdv A outer s H E) [] σ' H' s'->RelV v u->Q v H'->CE outer P w H s Q u s' :=
  fun {σ' H' v u} J rv q=>⟨v,H',J.os,J.bare,J.base,J.hok,rv,q⟩
 cases fl with
 | ret u =>
  obtain ⟨v,σ',H',J,rv,q⟩:=hs
  exact fin J rv q
 | next =>
  obtain ⟨σ',H',J,q⟩:=hs
  exact fin (v:=V.non) (u:=Value.none) J rfl q
 | brk =>
  obtain ⟨_,_,_,q⟩:=hs
  exact False.elim q
 | cont =>
  obtain ⟨_,_,_,q⟩:=hs
  exact False.elim q
end L2

namespace L2
open PySem PySem.Spec PyProof.Rows
section
variable {X:Cx}{x:Str}{p pos:Pos}{e:Expr}{es:List Expr}{t:TA}{id T:String}{r:List V->Hp->VK->Prop}

def tCB (r:List V->Hp->VK->Prop)(t:TA):TE:=fun σ H Q=>t σ H fun vs H1=>r vs H1 Q
theorem aO (hc:fj X (.builtin id) r)(hg:Gl X x)(hm:X.mg x=none)(hv:bootBuiltins x=some (.builtin id))(ha:PA X (e::es) t)(hn:x≠"__name__" := by decide)(hdb:(x == ("__debug__" : Str))=false:=by decide)
  (he:starEach (e::es) X.env=(false,eval e X.env)::starEach es X.env:=by rfl) (hpl:(backTo pos (starEach es X.env)).any (·.1)=false:=by rfl):PE X (.Call (.Name x p) (e::es) [] pos) (tCB r t):=by
 intro pins s σ H Q I h
 refine wpAny_Call_Name_kw (gF I hg hm hv ?_ hn hdb)
 exact PyProof.Rows.callWith_builtin1 (thn (ha pos pins s σ H _ I h) fun us s1 ⟨vs,H1,I1,r1,q1⟩=>hc pins s1 σ H1 vs us Q I1 r1 q1) he hpl
theorem dh (hc:fj X (.type T) r)(hg:Gl X x)(hm:X.mg x=none)(hv:bootBuiltins x=some (.type T))(ha:PA X (e::es) t)(hn:x≠"__name__" := by decide)(hdb:(x == ("__debug__" : Str))=false:=by decide)
  (he:starEach (e::es) X.env=(false,eval e X.env)::starEach es X.env:=by rfl) (hpl:(backTo pos (starEach es X.env)).any (·.1)=false:=by rfl):PE X (.Call (.Name x p) (e::es) [] pos) (tCB r t):=by
 intro pins s σ H Q I h
 refine wpAny_Call_Name_kw (gF I hg hm hv ?_ hn hdb)
 exact PyProof.Rows.callWith_type1 (thn (ha pos pins s σ H _ I h) fun us s1 ⟨vs,H1,I1,r1,q1⟩=>hc pins s1 σ H1 vs us Q I1 r1 q1) he hpl
end
end L2

namespace HT
open PySem PyProof.Rows

def lexLt:List Int->List Int->Bool
 | [],[]=>false
 | [],_::_=>true
 | _::_,[]=>false
 | x::xs,y::ys=>if x=y then lexLt xs ys else decide (x < y)
theorem lexLt_cons (x y:Int)(xs ys:List Int):lexLt (x::xs) (y::ys)=if x=y then lexLt xs ys else decide (x < y):=rfl
section
open PySem.SeqAt
open PySem.AutoSeq1 (wpAny_loadPart')
open PySem.MeetsSeq PySem.MeetsSeq2 PySem.MeetsSeq3

end

section
variable {prog:Program}{w:World}{A:Around}{E:Value->Shared->Prop}{s:Shared}

theorem cat_tup {t b:Addr}{vs ws:List Value}{Q:Value->Shared->Prop}(ht:IsTup s.heap t vs.toArray)(hb:IsTup s.heap b ws.toArray)(hv:vs≠[])
  (h1:ws=[]->Q (.ref t) s) (h2:ws≠[]->Q (.ref s.heap.objs.size) { s with heap:=s.heap.push { cls:=.type "tuple",data:=.seq (vs++ws).toArray } })
  (hsz:vs.length+ws.length<=sizeLine):wpAny (model prog w) A (binaryOp .Add (.ref t) (.ref b)) Q E s:=by
 obtain ⟨⟨cls,dd,data,sl⟩,ho,hc,n,hd⟩:=id ht
 obtain ⟨⟨cls2,dd2,data2,sl2⟩,ho2,hc2,n2,hd2⟩:=id hb
 simp only at hc hd hc2 hd2
 subst hc hd hc2 hd2
 have e:vs.toArray++ws.toArray=(vs++ws).toArray:=by simp
 by_cases hw:ws=[]
 ·exact concat_meets ⟨_,ho,rfl⟩ ⟨_,ho2,rfl⟩ noFill_tuple_add seq_tuple_add PySem.F.slot_tuple_add PySem.F.entry_tuple_add (PySem.F.args_tuple_add_2 _ _)
   (tuple_addW1 t b vs.toArray ws.toArray n n2 dd dd2 sl sl2 (by simpa using hv) (by simp [hw])) ⟨ho,ho2,h1 hw⟩
 ·refine concat_meets ⟨_,ho,rfl⟩ ⟨_,ho2,rfl⟩ noFill_tuple_add seq_tuple_add PySem.F.slot_tuple_add PySem.F.entry_tuple_add (PySem.F.args_tuple_add_2 _ _)
   (tuple_addW2 t b vs.toArray ws.toArray n n2 dd dd2 sl sl2 (by simpa using hv) (by simpa using hw) (by rw [List.size_toArray,List.size_toArray];exact hsz)) ⟨ho,ho2,?_⟩
  rw [e]
  exact h2 hw

def sIx (n d:Nat):Option Int->Nat
 | none=>d
 | some v=>if v < 0 then (v+(n:Int)).toNat else min v.toNat n
theorem sIx_none (n d:Nat):sIx n d none=d:=rfl
theorem sIx_nat (n d k:Nat):sIx n d (some (k:Int))=min k n:=by
 show (if (k:Int) < 0 then ((k:Int)+(n:Int)).toNat else min (k:Int).toNat n)=min k n
 rw [if_neg (by lia),zAi]
theorem Eh (n d:Nat)(hd:d<=n)(o:Option Int):sIx n d o<=n:=by
 cases o with
 | none=>exact hd
 | some v =>
  show (if v < 0 then (v+(n:Int)).toNat else min v.toNat n)<=n
  by_cases hv:v < 0
  ·rw [if_pos hv];lia
  ·rw [if_neg hv];exact Nat.min_le_right _ _
theorem vC (v:Int)(n d:Nat):(if v < 0 then max (v+(n:Int)) 0 else min v (n:Int))=((sIx n d (some v):Nat):Int):=by
 show (if v < 0 then max (v+(n:Int)) 0 else min v (n:Int))=(((if v < 0 then (v+(n:Int)).toNat else min v.toNat n):Nat):Int)
 by_cases hv:v < 0
 ·simp only [if_pos hv];lia
 ·simp only [if_neg hv];lia
theorem uB (lo hi:Option Int)(n:Nat):Builtin.Slice.sliceAdjust lo hi 1 (n:Int)=(((sIx n 0 lo:Nat):Int),((sIx n n hi:Nat):Int)):=by
 have h1:¬ ((1:Int) < 0):=by lia
 unfold Builtin.Slice.sliceAdjust
 simp only [h1,if_false]
 refine Prod.ext ?_ ?_
 ·cases lo with
  | none=>rfl
  | some v=>exact vC v n 0
 ·cases hi with
  | none=>rfl
  | some v=>exact vC v n n
theorem uC (i j:Nat):Builtin.Slice.slicePlaces (i:Int) (j:Int) 1=j - i:=by
 unfold Builtin.Slice.slicePlaces
 have h1:(1:Int) > 0:=by lia
 simp only [h1,if_true,Int.ediv_one]
 split <;> lia
theorem mz {v:Value}{o:Option Int}{Q:Option Int->Shared->Prop}(p:IsPart v o)(h:Q o s):wpAny (model prog w) A (Builtin.Slice.slicePartIndex v) Q E s:=by
 cases p with
 | none=>exact slicePart_none h
 | int i t=>exact slicePart_int h
theorem fO {sl:Addr}{vl vu:Value}{lo hi:Option Int}{n:Nat}{Q:Int×Int×Nat->Shared->Prop}(hs:s.heap.IsSliceOf sl vl vu .none)(pl:IsPart vl lo)(pu:IsPart vu hi)
  (h:Q (((sIx n 0 lo:Nat):Int),1,sIx n n hi - sIx n 0 lo) s):wpAny (model prog w) A (Builtin.Slice.sliceApplied (.ref sl) (pure (n:Int))) Q E s:=by
 obtain ⟨os,hos,hcs,hds⟩:=id hs
 unfold Builtin.Slice.sliceApplied Builtin.Slice.sliceFields
 refine wpAny_bind (wpAny_bind (wpAny_field hos hds (x:=vl) rfl (wpAny_bind (wpAny_field hos hds (x:=vu) rfl (wpAny_bind (wpAny_field hos hds (x:=.none) rfl (wpAny_pure ?_)))))))
 refine wpAny_bind (slicePart_none ?_)
 show wpAny _ _ (if ((1:Int) == 0)=true then _ else _) _ _ s
 rw [if_neg (by decide)]
 refine wpAny_bind (mz pl (wpAny_bind (mz pu (wpAny_bind (wpAny_pure ?_)))))
 show wpAny _ _ (match Builtin.Slice.sliceAdjust lo hi 1 (n:Int) with | (lo,hi)=>pure (lo,(1:Int),Builtin.Slice.slicePlaces lo hi 1)) _ _ s
 rw [uB lo hi n]
 show wpAny _ _ (pure (((sIx n 0 lo:Nat):Int),(1:Int),Builtin.Slice.slicePlaces ((sIx n 0 lo:Nat):Int) ((sIx n n hi:Nat):Int) 1)) _ _ s
 rw [uC]
 exact wpAny_pure h
theorem yM (xs:Array Value)(i k:Nat):((List.range k).filterMap fun (m:Nat)=>xs[((i:Int)+(m:Int) * 1).toNat]?).toArray=((xs.toList.drop i).take k).toArray:=by
 have e:(fun (m:Nat)=>xs[((i:Int)+(m:Int) * 1).toNat]?)=fun m=>xs[i+m]?:=by
  funext m
  have:((i:Int)+(m:Int) * 1).toNat=i+m:=by lia
  rw [this]
 rw [e]
 have:=pick_run xs i k
 rw [List.filterMap_map] at this
 have e2:((fun x=>xs[x]?) ∘ fun x=>i+x)=fun m=>xs[i+m]?:=rfl
 rw [e2] at this
 rw [this]

theorem getItem_tuple_cut {t sl:Addr}{items:Array Value}{vl vu:Value}{lo hi:Option Int}{Q:Value->Shared->Prop}(ht:IsTup s.heap t items)(hs:s.heap.IsSliceOf sl vl vu .none)(pl:IsPart vl lo)(pu:IsPart vu hi)
  (hw:¬ (sIx items.size 0 lo=0/\sIx items.size items.size hi=items.size))
  (h:Q (.ref s.heap.objs.size) { s with heap:=s.heap.push { cls:=.type "tuple",data:=.seq ((items.toList.drop (sIx items.size 0 lo)).take (sIx items.size items.size hi - sIx items.size 0 lo)).toArray } })
  (hsz:items.size<=sizeLine):wpAny (model prog w) A (getItem (.ref t) (.ref sl)) Q E s:=by
 have htake:sizeOk (.seq ((items.toList.drop (sIx items.size 0 lo)).take (sIx items.size items.size hi - sIx items.size 0 lo)).toArray):=by
  show ((items.toList.drop (sIx items.size 0 lo)).take (sIx items.size items.size hi - sIx items.size 0 lo)).toArray.size<=sizeLine
  rw [zA8,zAd,List.length_drop,zA9]
  lia
 have hj:sIx items.size items.size hi<=items.size:=Eh _ _ (zA3 _) hi
 obtain ⟨os,hos,hcs,hds⟩:=id hs
 have hTs:s.TypeIs (.ref sl) "slice" := ⟨os,hos,hcs⟩
 unfold getItem
 try with_reducible refine wpAny_holding ?_
 first | refine wpAny_bind (wpAny_pure ?_) | skip
 refine wpAny_bind (wpAny_sequenceKey ht.typeIs (by decide) ?_)
 refine wpAny_bind (wpAny_callSpecial?_slot (name:=Str.ofString "__getitem__") ht.typeIs PyProof.Rows.slot_tuple_getitem
  (wpAny_call_entry PyProof.Rows.slot_tuple_getitem ht.typeIs entry_tuple_getitem ?_ (args_tuple_getitem _ _)))
 show wpAny _ _ (Builtin.Tuple.tupleItemsOf (.ref t) >>= _) _ _ s
 refine wpAny_bind (tupleItemsOf_ ht ?_)
 refine wpAny_bind (wpAny_typeOf hTs ?_)
 rw [if_pos (by decide)]
 refine wpAny_bind (fO hs pl pu ?_)
 have hno:¬ ((((sIx items.size 0 lo:Nat):Int) == 0 && (1:Int) == 1 && (sIx items.size items.size hi - sIx items.size 0 lo) == items.size)=true):=by
  intro q
  rw [zAc,zAc] at q
  have q1:((sIx items.size 0 lo:Nat):Int)=0:=eq_of_beq q.1.1
  have q2:sIx items.size items.size hi - sIx items.size 0 lo=items.size:=eq_of_beq q.2
  exact hw ⟨by lia,by lia⟩
 show wpAny _ _ (if (((sIx items.size 0 lo:Nat):Int) == 0 && (1:Int) == 1 && (sIx items.size items.size hi - sIx items.size 0 lo) == items.size)=true then _ else _) _ _ s
 rw [if_neg hno,yM]
 first
  | exact wpAny_bind (m:=Builtin.Tuple.tupleExact _) (wpAny_newObj_type (wpAny_pure ⟨_,rfl,wpAny_pure h⟩) htake)
  | exact wpAny_bind (m:=Builtin.Tuple.tupleExact _) (wpAny_newObj_type (wpAny_bind (wpAny_pure (wpAny_pure ⟨_,rfl,wpAny_pure h⟩))) htake)
  | exact wpAny_bind (wpAny_bind (m:=Builtin.Tuple.tupleExact _) (wpAny_newObj_type (wpAny_pure (wpAny_pure ⟨_,rfl,wpAny_pure h⟩)) htake))
  | exact wpAny_bind (wpAny_bind (m:=Builtin.Tuple.tupleExact _) (wpAny_newObj_type (wpAny_pure ⟨_,rfl,wpAny_pure h⟩) htake))
end
end HT

namespace L2
open PySem PySem.Spec PyProof.Rows

abbrev TO:=St->Hp->(Option Int->Hp->Prop)->Prop
def PO (X:Cx)(e:Option Expr)(t:TO):Prop :=
 ∀ (pins:List (Addr×Obj)) (s:Shared) (σ:St) (H:Hp) (Q:Option Int->Hp->Prop),Inv X pins σ H s->t σ H Q ->
  wpAny (model X.prog X.w) X.A (evalPart e X.env) (fun u s'=>∃ o H',Inv X pins σ H' s'/\IsPart u o/\Q o H') X.xe s
def Bj:TO:=fun _ H Q=>Q none H
def Gb (t:TE):TO:=fun σ H Q=>t σ H fun x H1=>∃ i,x=.int i/\Q (some i) H1

theorem intsAre_of {ns:List Int}:∀ {us:List Value},Vals (ns.map V.int) us->IntsAre us ns:=by
 induction ns with
 | nil=>intro us r;rw [List.map_nil] at r;cases r;exact .nil
 | cons n ns ih =>
  intro us r
  rw [zAk] at r
  cases r with
  | cons r1 r2 =>
   obtain ⟨t,e⟩:=r1
   subst e
   exact .cons n t (ih r2)

section
variable {X:Cx}{e:Expr}{te:TE}{lo hi:Option Expr}{tl th:TO}{pos p2:Pos}

theorem vD:PO X none Bj:=by
 intro pins s σ H Q I h
 rw [evalPart_none]
 exact wpAny_pure ⟨none,H,I,.none,h⟩
theorem vG (h:PE X e te):PO X (some e) (Gb te):=by
 intro pins s σ H Q I hw
 rw [evalPart_some]
 refine thn (h pins s σ H _ I hw) fun u s1 ⟨x,H1,I1,r1,q1⟩=>?_
 obtain ⟨i,rfl,q⟩:=q1
 obtain ⟨t,rfl⟩:=r1
 exact ⟨some i,H1,I1,.int i t,q⟩

def SlR (X:Cx)(r:V->Option Int->Option Int->Hp->VK->Prop):Prop :=
 ∀ (pins:List (Addr×Obj)) (s:Shared) (σ:St) (H:Hp) (x:V) (v vl vu:Value) (lo hi:Option Int) (sl:Addr) (Q:VK),Inv X pins σ H s->RelV x v->s.heap.IsSliceOf sl vl vu .none->IsPart vl lo->IsPart vu hi->r x lo hi H Q ->
  ∃ T id,typeLookup (.type T) "__getitem__" = pure (some (.builtin id))/\s.TypeIs v T/\wpAny (model X.prog X.w) X.A (getItem v (.ref sl)) (EP X pins σ Q) X.xe s
def tSl (r:V->Option Int->Option Int->Hp->VK->Prop)(te:TE)(tl th:TO):TE:=fun σ H Q=>te σ H fun x H1=>tl σ H1 fun l H2=>th σ H2 fun u H3=>r x l u H3 Q
theorem rQ {r:V->Option Int->Option Int->Hp->VK->Prop}(hr:SlR X r)(he:PE X e te)(hl:PO X lo tl)(hu:PO X hi th):PE X (.Subscript e (.Slice lo hi none p2) pos) (tSl r te tl th):=by
 intro pins s σ H Q I h
 refine Subscript_ (thn (he pins s σ H _ I h) fun v s1 ⟨x,H1,I1,r1,q1⟩=>?_)
 refine wpAny_Slice (thn (hl pins s1 σ H1 _ I1 q1) fun vl s2 ⟨l,H2,I2,pl,q2⟩=>thn (hu pins s2 σ H2 _ I2 q2) fun vu s3 ⟨u,H3,I3,pu,q3⟩=>?_)
 rw [evalPart_none]
 refine wpAny_pure ?_
 have I4:Inv X pins σ H3 { s3 with heap:=s3.heap.push { cls:=.type "slice",data:=.fields #[vl,vu,.none] } }:=I3.kept (t':=s3.toks) fun b ob q=>Heap.get?_push_of_some _ q
 obtain ⟨T,id,hT,ht,hg⟩:=hr pins { s3 with heap:=s3.heap.push { cls:=.type "slice",data:=.fields #[vl,vu,.none] } } σ H3 x v vl vu l u s3.heap.objs.size Q I4 r1 (Heap.IsSliceOf.new ..) pl pu q3
 show wpAny (model X.prog X.w) X.A (subscriptTail e (.Slice lo hi none p2) v (.ref s3.heap.objs.size)) (EP X pins σ Q) X.xe { s3 with heap:=s3.heap.push { cls:=.type "slice",data:=.fields #[vl,vu,.none] } }
 exact tail_any (ops:=[.ref s3.heap.objs.size,v]) ht hT hg (by with_unfolding_all rfl)

def lu (xs:List V)(lo hi:Option Int):List V:=(xs.drop (HT.sIx xs.length 0 lo)).take (HT.sIx xs.length xs.length hi - HT.sIx xs.length 0 lo)
theorem km (xs:List V)(lo hi:Option Int):(lu xs lo hi).length<=xs.length:=by
 unfold lu
 rw [zAd,List.length_drop]
 lia
inductive RSlTI (K:PySem.W.Frag)(x:V)(lo:Option Int)(hi:Option Int)(H:Hp)(Q:VK):Prop
 | mk:∀ a xs,(x=.ref a)->(SqT K H a xs)->(¬ (HT.sIx xs.length 0 lo=0/\HT.sIx xs.length xs.length hi=xs.length))->(∀ p,H p=none->Q (.ref p) (upd H p (.tup (lu xs lo hi))))->RSlTI K x lo hi H Q
def Ij (K:PySem.W.Frag):V->Option Int->Option Int->Hp->VK->Prop:=fun x lo hi H Q=>RSlTI K x lo hi H Q
theorem Ei:SlR X (Ij X.K):=by
 intro pins s σ H x v vl vu lo hi sl Q I rx hs pl pu h
 obtain ⟨a,xs,rfl,hx,hw,q⟩:=h
 cases rx
 obtain ⟨its,r,ht,hz⟩:=I.tuple hx
 have hlen:its.toArray.size=xs.length:=by rw [zA8];exact r.length.symm
 refine ⟨"tuple",_,PyProof.Rows.slot_tuple_getitem.lookup,ht.typeIs,?_⟩
 refine HT.getItem_tuple_cut ht hs pl pu (by rw [hlen];exact hw) ?_ (by rw [hlen];exact hz)
 rw [hlen]
 refine ⟨.ref s.heap.objs.size,_,I.laid (t':=s.toks) (o:=.tup (lu xs lo hi)) (fun b ob q=>Heap.get?_push_of_some _ q) (zA3 _) ?_,rfl,q _ (I.hok.fresh (zA3 _))⟩
 exact ⟨Nat.le_trans (km xs lo hi) hz,_,(r.drop (HT.sIx xs.length 0 lo)).take (HT.sIx xs.length xs.length hi - HT.sIx xs.length 0 lo),IsTup.new _ _⟩

inductive RCatTI (K:PySem.W.Frag)(x:V)(y:V)(H:Hp)(Q:VK):Prop
 | mk:∀ a b xs ys,(x=.ref a)->(y=.ref b)->(SqT K H a xs)->(SqT K H b ys)->(xs≠[])->(xs.length+ys.length<=sizeLine)->((ys=[]->Q (.ref a) H))->((ys≠[]->∀ p,H p=none->Q (.ref p) (upd H p (.tup (xs++ys)))))->RCatTI K x y H Q
def Gd (K:PySem.W.Frag):R2:=fun x y H Q=>RCatTI K x y H Q
theorem Vals.nil_iff {xs:List V}{us:List Value}(r:Vals xs us):us=[]↔xs=[]:=by
 cases r with
 | nil=>simp
 | cons _ _=>simp
theorem Bl:OpR X (binaryOp .Add) (Gd X.K):=by
 intro pins s σ H x y v u Q I rx ry h
 obtain ⟨a,b,xs,ys,rfl,rfl,ha,hb,hx,hz,q1,q2⟩:=h
 cases rx
 cases ry
 obtain ⟨its,r1,p1,_⟩:=I.tuple ha
 obtain ⟨its2,r2,p2,_⟩:=I.tuple hb
 refine HT.cat_tup p1 p2 (fun z=>hx (r1.nil_iff.mp z)) (fun z=>⟨.ref a,H,I,rfl,q1 (r2.nil_iff.mp z)⟩) (fun z=>?_) (by rw [<- r1.length,<- r2.length];exact hz)
 refine ⟨.ref s.heap.objs.size,_,I.laid (t':=s.toks) (o:=.tup (xs++ys)) (fun b ob q=>Heap.get?_push_of_some _ q) (zA3 _) ?_,rfl,q2 (fun w=>z (r2.nil_iff.mpr w)) _ (I.hok.fresh (zA3 _))⟩
 exact ⟨by rw [zA2];exact hz,_,r1.append r2,IsTup.new _ _⟩
end
end L2

namespace L2
open PySem PySem.Spec PyProof.Rows

def ixN (n:Nat)(i:Int):Option Nat:=if 0<=i then (if i < n then some i.toNat else none) else if -(n:Int)<=i then some (i+n).toNat else none
def atI {α:Type}(xs:List α)(i:Int):Option α:=(ixN xs.length i).bind fun j=>xs[j]?
theorem vH {n:Nat}{i:Int}{j:Nat}(h:ixN n i=some j):seqIndex? i n=some j/\j < n/\-(n:Int)<=i/\i < n:=by
 unfold ixN at h
 by_cases h0:0<=i
 ·rw [if_pos h0] at h
  by_cases h1:i < n
  ·rw [if_pos h1] at h
   have e:i.toNat=j:=zAl h
   exact ⟨by rw [seqIndex_of h0 h1,e],by lia,by lia,h1⟩
  ·rw [if_neg h1] at h;cases h
 ·rw [if_neg h0] at h
  by_cases h1:-(n:Int)<=i
  ·rw [if_pos h1] at h
   have e:(i+n).toNat=j:=zAl h
   exact ⟨by rw [seqIndex_neg (by lia) h1,e],by lia,h1,by lia⟩
  ·rw [if_neg h1] at h;cases h
theorem vI {α:Type}{xs:List α}{i:Int}{v:α}(h:atI xs i=some v):∃ j,seqIndex? i xs.length=some j/\xs[j]?=some v/\j < xs.length/\-(xs.length:Int)<=i/\i < xs.length:=by
 unfold atI at h
 cases e:ixN xs.length i with
 | none=>rw [e] at h;cases h
 | some j =>
  rw [e] at h
  obtain ⟨h1,h2,h3,h4⟩:=vH e
  exact ⟨j,h1,h,h2,h3,h4⟩
theorem gh {α:Type}{xs:List α}{j:Nat}{v:α}(h:xs[j]?=some v):atI xs (j:Int)=some v:=by
 have hj:j < xs.length:=(zAa.mp h).1
 have e:ixN xs.length (j:Int)=some j:=by
  unfold ixN
  rw [if_pos (by lia),if_pos (by lia)];simp
 unfold atI;rw [e];exact h
def vJ (b:Expr):Prop:=∀ o i,subscripted b false o i=operate [o,i] (getItem o i)
def IxR (X:Cx)(r:R2):Prop :=
 ∀ (value slice:Expr) (pins:List (Addr×Obj)) (s:Shared) (σ:St) (H:Hp) (x y:V) (v u:Value) (Q:VK),Inv X pins σ H s->RelV x v->RelV y u->r x y H Q ->
  subscripted slice false v u=operate [v,u] (getItem v u)->wpAny (model X.prog X.w) X.A (subscriptTail value slice v u) (EP X pins σ Q) X.xe s
def MtR (X:Cx)(id:String)(r:V->List V->Hp->VK->Prop):Prop :=
 ∀ (pins:List (Addr×Obj)) (s:Shared) (σ:St) (H:Hp) (x:V) (xs:List V) (v:Value) (us:List Value) (Q:VK),Inv X pins σ H s->RelV x v->Vals xs us->r x xs H Q ->
  wpAny (model X.prog X.w) X.A (call (.builtin id) (v::us)) (EP X pins σ Q) X.xe s
section
variable {X:Cx}{a b:Expr}{ta tb:TE}{pos:Pos}
theorem aZ {r:R2}(hr:IxR X r)(ha:PE X a ta)(hb:PE X b tb)(hs:vJ b):PE X (.Subscript a b pos) (tOp r ta tb):=by
 intro pins s σ H Q I h
 exact Subscript_ (Ec ha hb I h fun v u s2 x y H2 I2 rx ry q=>hr a b pins s2 σ H2 x y v u Q I2 rx ry q (hs _ _))

inductive RIxLI (K:PySem.W.Frag)(x:V)(y:V)(H:Hp)(Q:VK):Prop
 | mk:∀ p xs i v,(x=.ref p)->(y=.int i)->(SqL K H p xs)->(atI xs i=some v)->(Q v H)->RIxLI K x y H Q
def Ge (K:PySem.W.Frag):R2:=fun x y H Q=>RIxLI K x y H Q
inductive RIxTI (K:PySem.W.Frag)(x:V)(y:V)(H:Hp)(Q:VK):Prop
 | mk:∀ p xs i v,(x=.ref p)->(y=.int i)->(SqT K H p xs)->(atI xs i=some v)->(Q v H)->RIxTI K x y H Q
def Gf (K:PySem.W.Frag):R2:=fun x y H Q=>RIxTI K x y H Q
theorem bF:IxR X (Ge X.K):=by
 intro value slice pins s σ H x y v u Q I rx ry h hs
 obtain ⟨p,xs,i,z,rfl,rfl,hq,he,q⟩:=h
 cases rx
 obtain ⟨t,rfl⟩:=ry
 obtain ⟨its,r,pl,hz⟩:=I.list hq
 obtain ⟨j,h1,h2,h3,h4,h5⟩:=vI he
 obtain ⟨w,ew,rw'⟩:=r.get h2
 have hl:=r.length
 have hn:=iH
 have fin:EP X pins σ Q w s:=⟨z,H,I,rw',q⟩
 by_cases h0:0<=i
 ·have hj:i.toNat=j:=by
   rw [seqIndex_of h0 h5] at h1
   exact zAl h1
  exact item_listR pl.isList h0 (by lia) (by rw [hj];simpa using ew) fin hs
 ·have hj:(i+(its.toArray.size:Int)).toNat=j:=by
   rw [seqIndex_neg (by lia) h4] at h1
   rw [zA8,<- hl]
   exact zAl h1
  exact subscriptTail_builtinR (x:=w) pl.isList.typeIs slot_list_getitem.lookup
   (wpAny_getItem_list_neg (Q:=fun r s'=>r=w/\EP X pins σ Q r s') pl.isList (by lia) (by rw [List.size_toArray] <;> lia) (by lia) (by rw [hj];simpa using ew) ⟨rfl,fin⟩) hs
theorem bG:IxR X (Gf X.K):=by
 intro value slice pins s σ H x y v u Q I rx ry h hs
 obtain ⟨p,xs,i,z,rfl,rfl,hq,he,q⟩:=h
 cases rx
 obtain ⟨t,rfl⟩:=ry
 obtain ⟨its,r,pl,hz⟩:=I.tuple hq
 obtain ⟨j,h1,h2,h3,h4,h5⟩:=vI he
 obtain ⟨w,ew,rw'⟩:=r.get h2
 have hl:=r.length
 have hn:=iH
 have fin:EP X pins σ Q w s:=⟨z,H,I,rw',q⟩
 exact subscriptTail_builtinR (x:=w) pl.typeIs slot_tuple_getitem.lookup
  (getItem_tuple (j:=j) (Q:=fun r s'=>r=w/\EP X pins σ Q r s') pl (by lia) (by lia) (by rw [List.size_toArray,<- hl];exact h1) (by simpa using ew) ⟨rfl,fin⟩) hs
theorem uD (its:List Value)(n j:Nat)(u:Value):Obj.mapSeq (·.setIfInBounds j u) { cls:=.type "list",data:=.seq its.toArray n }={ cls:=.type "list",data:=.seq (its.set j u).toArray n }:=by
 simp [Obj.mapSeq]
theorem Inv.lst {pins:List (Addr×Obj)}{σ:St}{H:Hp}{s:Shared}{p:Addr}{xs:List V}(I:Inv X pins σ H s)(h:H p=some (.lst xs)) :
  ∃ (its:List Value) (n:Nat),Vals xs its/\s.heap.get? p=some { cls:=.type "list",data:=.seq its.toArray n }/\xs.length<=sizeLine:=by
 obtain ⟨z,its,n,r,e⟩:=I.hok p _ h
 exact ⟨its,n,r,e,z⟩
theorem Inv.lstUpd {pins:List (Addr×Obj)}{σ:St}{H:Hp}{s:Shared}{p:Addr}{xs ys:List V}{its its':List Value}{n n':Nat}{f:Obj->Obj}(I:Inv X pins σ H s)(h:H p=some (.lst xs))
  (ho:s.heap.get? p=some { cls:=.type "list",data:=.seq its.toArray n }) (hf:f { cls:=.type "list",data:=.seq its.toArray n }={ cls:=.type "list",data:=.seq its'.toArray n' }) (r:Vals ys its') (hz:ys.length<=sizeLine) (t:Nat) :
  Inv X pins σ (upd H p (.lst ys)) { s with heap:=s.heap.update p f,toks:=t }:=by
 have e:(s.heap.update p f).get? p=some { cls:=.type "list",data:=.seq its'.toArray n' }:=by
  rw [Heap.get?_update_self f ho (by rw [hf] <;> rfl),hf]
 refine I.write (x:=p) (e:=p) (by rw [h];trivial) (.inl rfl) (fun b u hb q=>(Heap.get?_update_other _ _ (Ne.symm hb)).trans q) ⟨_,e⟩ ?_
 exact ⟨hz,its',n',r,e⟩
inductive RSetLI (o:V)(i:V)(v:V)(H:Hp)(Q:Hp->Prop):Prop
 | mk:∀ p xs k j,(o=.ref p)->(i=.int k)->(H p=some (.lst xs))->(ixN xs.length k=some j)->(Q (upd H p (.lst (xs.set j v))))->RSetLI  o i v H Q
def Gg:V->V->V->Hp->(Hp->Prop)->Prop:=fun o i v H Q=>RSetLI  o i v H Q
theorem set_list:DX X Gg:=by
 intro pins s σ H o i v ov iv u Q I ro ri rv h
 obtain ⟨p,xs,k,j,rfl,rfl,hp,hj,q⟩:=h
 cases ro
 obtain ⟨t,rfl⟩:=ri
 obtain ⟨its,n,r,ho,hz⟩:=I.lst hp
 obtain ⟨h1,h2,h3,h4⟩:=vH hj
 have hl:=r.length
 have hn:=iH
 have I':Inv X pins σ (upd H p (.lst (xs.set j v))) { s with heap:=s.heap.update p (Obj.mapSeq (·.setIfInBounds j u)) } :=
  I.lstUpd hp ho (uD its n j u) (r.set rv j) (by rw [List.length_set];exact hz) s.toks
 by_cases h0:0<=k
 ·have hk:k.toNat=j:=by
   rw [seqIndex_of h0 h4] at h1
   exact zAl h1
  exact PySem.W.ki_setAt ho h0 (by lia) (by rw [zA8,<- hl];exact h4) (by rw [hk];exact ⟨_,I',q⟩)
 ·have hk:(k+(its.toArray.size:Int)).toNat=j:=by
   rw [seqIndex_neg (by lia) h3] at h1
   rw [zA8,<- hl]
   exact zAl h1
  exact PySem.W.ki_setBack ho (by lia) (by rw [zA8,<- hl];exact h3) (by lia) (by rw [hk];exact ⟨_,I',q⟩)

theorem qx (lo hi:Option Int)(n:Nat):(sliceBounds lo hi none n).1=((HT.sIx n 0 lo:Nat):Int)/\(sliceBounds lo hi none n).2.1=((HT.sIx n n hi:Nat):Int)/\(sliceBounds lo hi none n).2.2=1:=by
 refine ⟨?_,?_,rfl⟩
 ·cases lo with
  | none=>simp [sliceBounds,HT.sIx]
  | some i =>
   simp only [sliceBounds,HT.sIx,Option.getD_none,show (1:Int) > 0 by decide,if_true]
   by_cases h:i < 0
   ·simp only [h,if_true] <;> lia
   ·simp only [h,if_false] <;> lia
 ·cases hi with
  | none=>simp [sliceBounds,HT.sIx]
  | some i =>
   simp only [sliceBounds,HT.sIx,Option.getD_none,show (1:Int) > 0 by decide,if_true]
   by_cases h:i < 0
   ·simp only [h,if_true] <;> lia
   ·simp only [h,if_false] <;> lia
theorem o8 (its:List Value)(lo hi:Option Int):slicePick its.toArray lo hi none=((its.drop (HT.sIx its.length 0 lo)).take (HT.sIx its.length its.length hi - HT.sIx its.length 0 lo)).toArray:=by
 obtain ⟨h1,h2,h3⟩:=qx lo hi its.toArray.size
 unfold slicePick
 rw [h1,h2,h3]
 simp only [sliceRange_one,pick_run,List.size_toArray] <;> rfl
inductive RSlLI (K:PySem.W.Frag)(x:V)(lo:Option Int)(hi:Option Int)(H:Hp)(Q:VK):Prop
 | mk:∀ a xs,(x=.ref a)->(SqL K H a xs)->(∀ p,H p=none->Q (.ref p) (upd H p (.lst (lu xs lo hi))))->RSlLI K x lo hi H Q
def Ik (K:PySem.W.Frag):V->Option Int->Option Int->Hp->VK->Prop:=fun x lo hi H Q=>RSlLI K x lo hi H Q
theorem Bm:SlR X (Ik X.K):=by
 intro pins s σ H x v vl vu lo hi sl Q I rx hs pl pu h
 obtain ⟨a,xs,rfl,hx,q⟩:=h
 cases rx
 obtain ⟨its,r,ht,hz⟩:=I.list hx
 have hlen:=r.length
 refine ⟨"list",_,slot_list_getitem.lookup,ht.isList.typeIs,?_⟩
 refine wpAny_getItem_list_slice ht.isList hs pl pu .none (by simp) ?_ (by rw [List.size_toArray] <;> lia)
 rw [o8,<- hlen]
 refine ⟨.ref s.heap.objs.size,_,I.laid (t':=s.toks) (o:=.lst (lu xs lo hi)) (fun b ob q=>Heap.get?_push_of_some _ q) (zA3 _) ?_,rfl,q _ (I.hok.fresh (zA3 _))⟩
 exact ⟨Nat.le_trans (km xs lo hi) hz,_,0,(r.drop (HT.sIx xs.length 0 lo)).take (HT.sIx xs.length xs.length hi - HT.sIx xs.length 0 lo),Heap.get?_push_size _ rfl⟩

theorem bj:fj X (.builtin "len") (fun xs H Q=>∃ p ys,xs=[.ref p]/\(SqL X.K H p ys\/SqT X.K H p ys)/\Q (.int ys.length) H):=by
 intro pins s σ H xs us Q I r h
 obtain ⟨p,ys,rfl,hq,q⟩:=h
 obtain ⟨u,rfl,rx⟩:=vals1 r
 cases rx
 have hn:=iH
 rcases hq with hq | hq
 ·obtain ⟨its,r',pl,hz⟩:=I.list hq
  have hlen:=r'.length
  exact Calls.call_len_list pl.isList (by simp only [List.size_toArray] <;> lia) ⟨.int ys.length,H,I.tok _,⟨s.toks+1,by rw [List.size_toArray,hlen]⟩,q⟩
 ·obtain ⟨its,r',pl,hz⟩:=I.tuple hq
  have hlen:=r'.length
  exact len_tuple pl (by simp only [List.size_toArray] <;> lia) ⟨.int ys.length,H,I.tok _,⟨s.toks+1,by rw [List.size_toArray,hlen]⟩,q⟩
theorem qy:fj X (.type "list") (fun xs H Q=>∃ p ys,xs=[.ref p]/\(SqL X.K H p ys\/SqT X.K H p ys)/\∀ l,H l=none->Q (.ref l) (upd H l (.lst ys))):=by
 intro pins s σ H xs us Q I r h
 obtain ⟨p,ys,rfl,hq,q⟩:=h
 obtain ⟨u,rfl,rx⟩:=vals1 r
 cases rx
 have fin:∀ (its:List Value),Vals ys its->ys.length<=sizeLine->∀ (h':Heap) (c':Nat),(∀ b o',s.heap.get? b=some o'->h'.get? b=some o') ->
   h'.get? s.heap.objs.size=some { cls:=.type "list",dict:=none,data:=.seq its.toArray c',slots:=#[] }->EP X pins σ Q (.ref s.heap.objs.size) { s with heap:=h' }:=fun its r' hz h' c' kp e =>
  ⟨.ref s.heap.objs.size,_,I.laid (t':=s.toks) kp (zA3 _) (show ObjOk X.prog X.w _ h' _ (.lst ys) from ⟨hz,its,c',r',e⟩),rfl,q _ (I.hok.fresh (zA3 _))⟩
 rcases hq with hq | hq
 ·obtain ⟨its,r',pl,hz⟩:=I.list hq
  have hlen:=r'.length
  obtain ⟨o,ho,hc,n,hd⟩:=pl.isList
  exact call_list_seq p (.inl rfl) ho hc hd (fun h' c' kp e=>fin its r' hz h' c' kp e) (by simp only [List.size_toArray] <;> lia)
 ·obtain ⟨its,r',pl,hz⟩:=I.tuple hq
  have hlen:=r'.length
  obtain ⟨o,ho,hc,n,hd⟩:=pl
  exact call_list_seq p (.inr rfl) ho hc hd (fun h' c' kp e=>fin its r' hz h' c' kp e) (by simp only [List.size_toArray] <;> lia)
theorem cM:fj X (.type "tuple") (fun xs H Q=>∃ p ys,xs=[.ref p]/\((SqL X.K H p ys/\∀ l,H l=none->Q (.ref l) (upd H l (.tup ys)))\/(SqT X.K H p ys/\Q (.ref p) H))):=by
 intro pins s σ H xs us Q I r h
 obtain ⟨p,ys,rfl,h⟩:=h
 obtain ⟨u,rfl,rx⟩:=vals1 r
 cases rx
 rcases h with ⟨hq,q⟩ | ⟨hq,q⟩
 ·obtain ⟨its,r',pl,hz⟩:=I.list hq
  have hlen:=r'.length
  refine call_tuple_list pl.isList (fun h' kp=>?_) (by simp only [List.size_toArray] <;> lia)
  have I1:Inv X pins σ H { s with heap:=h' }:=I.kept (t':=s.toks) kp
  have I2:Inv X pins σ (upd H h'.objs.size (.tup ys)) { s with heap:=h'.push { cls:=.type "tuple",data:=.seq its.toArray } } :=
   I1.laid (t':=s.toks) (fun b o e=>Heap.get?_push_of_some _ e) (zA3 _) (show ObjOk X.prog X.w _ _ _ (.tup ys) from ⟨hz,its,r',IsTup.new _ _⟩)
  exact ⟨.ref h'.objs.size,_,I2,rfl,q _ (I1.hok.fresh (zA3 _))⟩
 ·obtain ⟨its,r',pl,hz⟩:=I.tuple hq
  exact call_tuple_same pl ⟨.ref p,H,I,rfl,q⟩

def tyV (K:PySem.W.Frag)(T:String)(x:V)(H:Hp):Prop:=match x with
 | .str _=>T="str"
 | .int _=>T="int"
 | .ref p=>(T="list" /\ ∃ xs,SqL K H p xs)\/(T="tuple" /\ ∃ o,K.lookup p=some o/\o.cls=.type "tuple" /\ o.dict=none) \/
   (T="dict" /\ ((∃ kvs,H p=some (.dK kvs))\/∃ kvs,H p=some (.dT kvs)))\/(T="set" /\ ∃ S n,H p=some (.set S n))
 | _=>False
theorem yN {pins:List (Addr×Obj)}{σ:St}{H:Hp}{s:Shared}{T:String}{x:V}{v:Value}(I:Inv X pins σ H s)(r:RelV x v)(ty:tyV X.K T x H) :
  s.TypeIs v T/\∀ a,v=.ref a->∃ ob,s.heap.get? a=some ob/\ob.dict=none:=by
 cases x with
 | str z =>
  obtain ⟨t,rfl⟩:=r
  cases (show T="str" from ty)
  exact ⟨typeIs_str s z t,fun _ e=>nomatch e⟩
 | int i =>
  obtain ⟨t,rfl⟩:=r
  cases (show T="int" from ty)
  exact ⟨typeIs_int s i t,fun _ e=>nomatch e⟩
 | ref p =>
  cases r
  rcases ty with ⟨rfl,xs,hq⟩ | ⟨rfl,o,hk,hc,hd⟩ | ⟨rfl,hk⟩ | ⟨rfl,S,n,hk⟩
  ·obtain ⟨its,_,pl,_⟩:=I.list hq
   refine ⟨pl.isList.typeIs,fun a e=>?_⟩
   cases e
   obtain ⟨o,n,e,c,hd,_⟩:=pl
   exact ⟨o,e,hd⟩
  ·refine ⟨⟨o,I.kIn p o hk,hc⟩,fun a e=>?_⟩
   cases e
   exact ⟨o,I.kIn _ o hk,hd⟩
  ·have z:∃ o,s.heap.get? p=some o/\o.ExactDict:=by
    rcases hk with ⟨kvs,hk⟩ | ⟨kvs,hk⟩
    ·obtain ⟨_,_,_,_,o,_,_,e,ex,_⟩:=I.hok p _ hk
     exact ⟨o,e,ex⟩
    ·obtain ⟨_,_,_,_,o,_,_,e,ex,_⟩:=I.hok p _ hk
     exact ⟨o,e,ex⟩
   obtain ⟨o,e,ex⟩:=z
   refine ⟨⟨o,e,ex.1⟩,fun a e2=>?_⟩
   cases e2
   exact ⟨o,e,ex.2.1⟩
  ·obtain ⟨o,_,_,_,e,ex,_⟩:=I.hok p _ hk
   refine ⟨⟨o,e,ex.1⟩,fun a e2=>?_⟩
   cases e2
   exact ⟨o,e,ex.2.1⟩
 | _=>exact False.elim ty
def Il (K:PySem.W.Frag)(T:String)(r:V->List V->Hp->VK->Prop)(to:TE):TE:=fun σ H Q=>to σ H fun x H1=>tyV K T x H1/\r x [] H1 Q
def tBM (K:PySem.W.Frag)(T:String)(r:V->List V->Hp->VK->Prop)(to:TE)(t:TA):TE:=fun σ H Q=>to σ H fun x H1=>tyV K T x H1/\t σ H1 fun xs H2=>r x xs H2 Q
variable {o e:Expr}{es:List Expr}{to:TE}{t:TA}{name:Str}{apos cpos:Pos}{T id:String}{r:V->List V->Hp->VK->Prop}
theorem Ej (pa:PlainAttrs T)(slot:Slot T name id)(hty:typeOf (.builtin id)=pure (.type "method_descriptor"))(hm:MtR X id r)(ho:PE X o to)
  (hbase:attributeBase o name X.env (eval o X.env)=eval o X.env:=by rfl) (hline:(apos.endLine == cpos.line)=true:=by rfl):PE X (.Call (.Attribute o name apos) [] [] cpos) (Il X.K T r to):=by
 intro pins s σ H Q I h
 refine wpAny_Call_method0_late hbase hline (thn (ho pins s σ H _ I h) fun v s1 ⟨x,H1,I1,r1,ty,q1⟩=>?_)
 obtain ⟨h1,h2⟩:=yN I1 r1 ty
 exact ⟨T,id,pa,slot,hty,h1,h2,Calls.callWith_builtin rfl (PySem.evalArgs_none (hm pins s1 σ H1 x [] v [] Q I1 r1 .nil q1))⟩
theorem j8 (pa:PlainAttrs T)(slot:Slot T name id)(hty:typeOf (.builtin id)=pure (.type "method_descriptor"))(hm:MtR X id r)(ho:PE X o to)(ha:PA X (e::es) t)
  (hbase:attributeBase o name X.env (eval o X.env)=eval o X.env:=by rfl)
  (hfew:((backTo cpos (starEach (e::es) X.env)).all (fun x=>!x.1) && (backToKw cpos (keywordEach [] X.env)).all (fun x=>x.1.isSome)
   && decide ((e::es).length+([]:List Keyword).length+(if ([]:List Keyword).isEmpty then 0 else 1) < 30))=true:=by rfl)
  (hline:(apos.endLine == cpos.line)=true:=by rfl) (hs:starEach (e::es) X.env=(false,eval e X.env)::starEach es X.env:=by rfl) (hplain:(backTo cpos (starEach es X.env)).any (·.1)=false:=by rfl) :
  PE X (.Call (.Attribute o name apos) (e::es) [] cpos) (tBM X.K T r to t):=by
 intro pins s σ H Q I h
 refine wpAny_Call_method_late hbase hfew hline rfl (thn (ho pins s σ H _ I h) fun v s1 ⟨x,H1,I1,r1,ty,q1⟩=>?_)
 obtain ⟨h1,h2⟩:=yN I1 r1 ty
 refine ⟨T,id,pa,slot,hty,h1,h2,?_⟩
 have hA:=ha cpos pins s1 σ H1 _ I1 q1
 rw [hs] at hA ⊢
 refine Calls.callWith_builtin (by show (false || (backTo cpos (starEach es X.env)).any (·.1))=false;rw [hplain] <;> rfl) (Calls.evalArgs_plain ?_)
 exact thn hA fun us s2 ⟨vs,H2,I2,r2,q2⟩=>hm pins s2 σ H2 x vs v us Q I2 r1 r2 q2
end
end L2

namespace L2
open PySem PySem.Spec PyProof.Rows

def MtM (X:Cx)(id:String)(r:V->List V->Hp->VK->Prop):Prop :=
 ∀ (pins:List (Addr×Obj)) (s:Shared) (σ:St) (H:Hp) (x:V) (xs:List V) (v:Value) (us:List Value) (Q:VK),Inv X pins σ H s->RelV x v->Vals xs us->r x xs H Q ->
  wpAny (model X.prog X.w) X.A (call (.builtin id) (v::us)) (EP X pins σ Q) X.xe s

theorem Vals.one:∀ {x:V} {us:List Value},Vals [x] us->∃ u,us=[u]/\RelV x u
 | _,_,.cons r .nil=>⟨_,rfl,r⟩
theorem Vals.zero:∀ {us:List Value},Vals [] us->us=[]
 | _,.nil=>rfl
theorem Vals.dropLast {xs:List V}{us:List Value}(h:Vals xs us):Vals xs.dropLast us.dropLast:=by
 induction h with
 | nil=>exact .nil
 | cons r t ih =>
  cases t with
  | nil=>exact .nil
  | cons q t'=>exact .cons r ih
theorem Vals.eraseIdx:∀ {xs:List V} {us:List Value} (i:Nat),Vals xs us->Vals (xs.eraseIdx i) (us.eraseIdx i)
 | _,_,_,.nil=>.nil
 | _,_,0,.cons _ t=>t
 | _,_,i+1,.cons r t=>.cons r (Vals.eraseIdx i t)
theorem Vals.rep {xs:List V}{us:List Value}(h:Vals xs us):∀ k:Nat,Vals (List.replicate k xs).flatten (List.replicate k us).flatten
 | 0=>.nil
 | k+1=>by
  rw [List.replicate_succ,List.replicate_succ,List.flatten_cons,List.flatten_cons]
  exact Vals.append h (Vals.rep h k)
theorem uE {α:Type}(l:List α):l.eraseIdx (l.length - 1)=l.dropLast:=by
 induction l with
 | nil=>rfl
 | cons a r ih =>
  cases r with
  | nil=>rfl
  | cons b r =>
   have e:(a::b::r).length - 1=((b::r).length - 1)+1:=by
    have h1:(a::b::r).length=r.length+2:=rfl
    have h2:(b::r).length=r.length+1:=rfl
    lia
   rw [e,List.eraseIdx_cons_succ,ih]
   all_goals rfl
theorem pq {α:Type}:∀ (l:List α) (i:Nat),(l.eraseIdx i).length<=l.length
 | [],_=>zA3 _
 | _::_,0=>Nat.le_succ _
 | _::r,i+1=>Nat.succ_le_succ (pq r i)
theorem foldl_rep (its:List Value):∀ (k:Nat) (acc:List Value),
  List.foldl (fun x1 x2=>x1++x2) acc.toArray (List.replicate k its.toArray)=(acc++(List.replicate k its).flatten).toArray
 | 0,acc=>by simp
 | k+1,acc=>by
  have e:acc.toArray++its.toArray=(acc++its).toArray:=by simp
  have e2:(acc++its)++(List.replicate k its).flatten=acc++(List.replicate (k+1) its).flatten:=by
   rw [List.replicate_succ,List.flatten_cons,zAf]
  rw [<- e2,<- foldl_rep its k (acc++its),<- e,List.replicate_succ,List.foldl_cons]

section
variable {X:Cx}{pins:List (Addr×Obj)}{σ:St}{H:Hp}{s:Shared}{l b:Addr}{xs ys zs:List V}

theorem Inv.lset {its its':List Value}{n:Nat}{f:Array Value->Array Value}{t':Nat}(I:Inv X pins σ H s)(hH:H l=some (.lst xs))
  (e:s.heap.get? l=some { cls:=.type "list",data:=.seq its.toArray n }) (hf:f its.toArray=its'.toArray) (hv:Vals ys its') (hz:ys.length<=sizeLine) :
  Inv X pins σ (upd H l (.lst ys)) { s with heap:=s.heap.update l (Obj.mapSeq f),toks:=t' }:=by
 have q:=PySem.IsL.update e f
 rw [hf] at q
 refine I.write (x:=l) (e:=l) (by rw [hH];exact trivial) (.inl rfl) (fun b' u hb hu=>(Heap.get?_update_other s.heap (Obj.mapSeq f) (Ne.symm hb)).trans hu) ⟨_,q⟩ ?_
 exact ⟨hz,its',_,hv,q⟩
theorem Inv.lnew {its:List Value}{t':Nat}(I:Inv X pins σ H s)(hv:Vals ys its)(hz:ys.length<=sizeLine) :
  Inv X pins σ (upd H s.heap.objs.size (.lst ys)) { s with heap:=s.heap.push { cls:=.type "list",data:=.seq its.toArray },toks:=t' } :=
 I.laid (fun _ _ q=>Heap.get?_push_of_some _ q) (zA3 _) ⟨hz,its,0,hv,Heap.get?_push_size _ rfl⟩
theorem Inv.fresh (I:Inv X pins σ H s):H s.heap.objs.size=none:=I.hok.fresh (zA3 _)
theorem Inv.lstM (I:Inv X pins σ H s)(hH:H l=some (.lst xs)):xs.length<=sizeLine/\∃ (its:List Value) (n:Nat),Vals xs its/\xs.length=its.length/\s.heap.get? l=some { cls:=.type "list",data:=.seq its.toArray n }:=by
 obtain ⟨z,its,n,r,e⟩:=I.hok l _ hH
 exact ⟨z,its,n,r,r.length,e⟩

theorem mD {n:Nat}(h:n<=sizeLine):Builtin.List.listTooLong n=false:=by
 unfold Builtin.List.listTooLong
 exact decide_eq_false (by lia)
end

section
variable {X:Cx}

inductive RAppendI (x:V)(vs:List V)(H:Hp)(Q:VK):Prop
 | mk:∀ l xs y,(x=.ref l)->(vs=[y])->(H l=some (.lst xs))->(xs.length < sizeLine)->(Q .non (upd H l (.lst (xs++[y]))))->RAppendI  x vs H Q
def Bo:V->List V->Hp->VK->Prop:=fun x vs H Q=>RAppendI  x vs H Q
theorem di:MtM X "list.append" Bo:=by
 intro pins s σ H x vs v us Q I rx rv h
 obtain ⟨l,xs,y,rfl,rfl,hH,hz,q⟩:=h
 cases rx
 obtain ⟨u,rfl,ru⟩:=rv.one
 obtain ⟨z,its,n,r,hl,e⟩:=I.lstM hH
 refine call_meets F.slot_list_append ⟨_,e,rfl⟩ F.entry_list_append (F.args_list_append_2 _ _) (PySem.list_append l its.toArray n u (by rw [zA8];lia)) ⟨e,?_⟩
 refine ⟨.non,_,I.lset (its':=its++[u]) hH e (by simp) (r.append (.cons ru .nil)) ?_,rfl,q⟩
 rw [zA2,List.length_singleton]
 lia

inductive RExtendI (x:V)(vs:List V)(H:Hp)(Q:VK):Prop
 | mk:∀ l b xs zs,(x=.ref l)->(vs=[.ref b])->(H l=some (.lst xs))->(H b=some (.lst zs))->(xs.length+zs.length<=sizeLine)->(Q .non (upd H l (.lst (xs++zs))))->RExtendI  x vs H Q
def Bp:V->List V->Hp->VK->Prop:=fun x vs H Q=>RExtendI  x vs H Q
theorem Fx:MtM X "list.extend" Bp:=by
 intro pins s σ H x vs v us Q I rx rv h
 obtain ⟨l,b,xs,zs,rfl,rfl,hH,hB,hz,q⟩:=h
 cases rx
 obtain ⟨u,rfl,ru⟩:=rv.one
 cases ru
 obtain ⟨z,its,n,r,hl,e⟩:=I.lstM hH
 obtain ⟨z2,its2,n2,r2,hl2,e2⟩:=I.lstM hB
 have hsz:its.toArray.size+its2.toArray.size<=sizeLine:=by rw [zA8,zA8];lia
 have hlong:¬ (!its.toArray.isEmpty && Builtin.List.listTooLong (its.toArray.size+its2.toArray.size))=true:=by
  rw [mD hsz,Bool.and_false]
  exact zAg
 refine call_meets F.slot_list_extend ⟨_,e,rfl⟩ F.entry_list_extend (F.args_list_extend_2 _ _)
  (AutoSeq1.list_extend_list_list_0 l its.toArray n b its2.toArray n2 hlong (by rw [zA8];lia) (by lia)) ⟨e,e2,?_⟩
 refine ⟨.non,_,I.lset (its':=its++its2) hH e (by simp) (r.append r2) ?_,rfl,q⟩
 rw [zA2]
 lia

inductive RPopI (x:V)(vs:List V)(H:Hp)(Q:VK):Prop
 | mk:∀ l xs y,(x=.ref l)->(vs=[])->(H l=some (.lst xs))->(xs[xs.length - 1]?=some y)->(Q y (upd H l (.lst xs.dropLast)))->RPopI  x vs H Q
def Im:V->List V->Hp->VK->Prop:=fun x vs H Q=>RPopI  x vs H Q
theorem Ek:MtM X "list.pop" Im:=by
 intro pins s σ H x vs v us Q I rx rv h
 obtain ⟨l,xs,y,rfl,rfl,hH,hy,q⟩:=h
 cases rx
 have hus:=rv.zero
 subst hus
 obtain ⟨z,its,n,r,hl,e⟩:=I.lstM hH
 obtain ⟨u,hu,ru⟩:=r.get hy
 have hy':its.toArray[its.toArray.size - 1]?=some u:=by
  show its.toArray[its.length - 1]?=some u
  rw [<- Array.getElem?_toList,<- hl]
  exact hu
 refine call_meets F.slot_list_pop ⟨_,e,rfl⟩ F.entry_list_pop (F.args_list_pop_1 _) (MeetsSeq.list_pop_last l its.toArray n u hy' (by rw [zA8];lia)) ⟨e,?_⟩
 refine ⟨y,_,I.lset (its':=its.dropLast) hH e ?_ r.dropLast ?_,ru,q⟩
 ·show its.toArray.eraseIdxIfInBounds (its.toArray.size - 1)=its.dropLast.toArray
  rw [zA8,List.eraseIdxIfInBounds_toArray,uE]
 ·rw [List.length_dropLast]
  lia

inductive RPopAtI (x:V)(vs:List V)(H:Hp)(Q:VK):Prop
 | mk:∀ l xs i k y,(x=.ref l)->(vs=[.int i])->(H l=some (.lst xs))->(-(2 ^ 63)<=i)->(i < 2 ^ 63)->(seqIndex? i xs.length=some k)->(xs[k]?=some y)->(Q y (upd H l (.lst (xs.eraseIdx k))))->RPopAtI  x vs H Q
def El:V->List V->Hp->VK->Prop:=fun x vs H Q=>RPopAtI  x vs H Q
theorem yO:MtM X "list.pop" El:=by
 intro pins s σ H x vs v us Q I rx rv h
 obtain ⟨l,xs,i,k,y,rfl,rfl,hH,h1,h2,hk,hy,q⟩:=h
 cases rx
 obtain ⟨u,rfl,ru⟩:=rv.one
 obtain ⟨t,rfl⟩:=ru
 obtain ⟨z,its,n,r,hl,e⟩:=I.lstM hH
 obtain ⟨w,hw,rw'⟩:=r.get hy
 refine call_meets F.slot_list_pop ⟨_,e,rfl⟩ F.entry_list_pop (F.args_list_pop_2 _ _)
  (MeetsSeq.list_pop_at l its.toArray n i t k w (fitsIndex_both h1 h2) (by rw [zA8,<- hl];exact hk) (by rw [<- Array.getElem?_toList];exact hw) (by rw [zA8];lia)) ⟨e,?_⟩
 refine ⟨y,_,I.lset (its':=its.eraseIdx k) hH e ?_ (r.eraseIdx k) ?_,rw',q⟩
 ·show its.toArray.eraseIdxIfInBounds k=(its.eraseIdx k).toArray
  rw [List.eraseIdxIfInBounds_toArray]
 ·have:=pq xs k
  lia

inductive RCatI (x:V)(y:V)(H:Hp)(Q:VK):Prop
 | mk:∀ l b xs zs,(x=.ref l)->(y=.ref b)->(H l=some (.lst xs))->(H b=some (.lst zs))->(xs.length+zs.length<=sizeLine)->(∀ p,H p=none->Q (.ref p) (upd H p (.lst (xs++zs))))->RCatI  x y H Q
def Io:R2:=fun x y H Q=>RCatI  x y H Q
theorem uF:OpR X (binaryOp .Add) Io:=by
 intro pins s σ H x y v u Q I rx ry h
 obtain ⟨l,b,xs,zs,rfl,rfl,hH,hB,hz,q⟩:=h
 cases rx
 cases ry
 obtain ⟨z,its,n,r,hl,e⟩:=I.lstM hH
 obtain ⟨z2,its2,n2,r2,hl2,e2⟩:=I.lstM hB
 refine PySem.P.add_list e e2 ?_ (by rw [zA8,zA8];lia)
 have ea:its.toArray++its2.toArray=(its++its2).toArray:=by simp
 rw [ea]
 exact ⟨.ref _,_,I.lnew (t':=s.toks) (r.append r2) (by rw [zA2];lia),rfl,q _ I.fresh⟩
inductive RRepI (x:V)(y:V)(H:Hp)(Q:VK):Prop
 | mk:∀ l k xs,(x=.ref l)->(y=.int k)->(H l=some (.lst xs))->(-(2 ^ 63)<=k)->(k < 2 ^ 63)->(xs.length * k.toNat<=sizeLine)->(∀ p,H p=none->Q (.ref p) (upd H p (.lst (List.replicate k.toNat xs).flatten)))->RRepI  x y H Q
def Ip:R2:=fun x y H Q=>RRepI  x y H Q
theorem len_rep {α:Type}(xs:List α)(k:Nat):(List.replicate k xs).flatten.length=k * xs.length:=by
 induction k with
 | zero=>simp
 | succ k ih=>rw [List.replicate_succ,List.flatten_cons,zA2,ih,Nat.succ_mul,Nat.add_comm]
theorem Em:OpR X (binaryOp .Mult) Ip:=by
 intro pins s σ H x y v u Q I rx ry h
 obtain ⟨l,k,xs,rfl,rfl,hH,h1,h2,hz,q⟩:=h
 cases rx
 obtain ⟨t,rfl⟩:=ry
 obtain ⟨z,its,n,r,hl,e⟩:=I.lstM hH
 have hlen:its.toArray.size * k.toNat<=sizeLine:=by rw [zA8,<- hl];exact hz
 have hcap:¬ its.toArray.size * k.toNat > (2 ^ 63 - 1) / 8:=by
  have:(sizeLine:Nat)<=(2 ^ 63 - 1) / 8:=by decide
  lia
 have hfit:¬ (!Builtin.List.listFitsIndex k)=true:=by
  rw [fitsIndex_both h1 h2]
  exact zAg
 have hlong:¬ Builtin.List.listTooLong (its.toArray.size * k.toNat)=true:=by
  rw [mD hlen]
  exact zAg
 have hnew:List.foldl (fun x1 x2=>x1++x2) #[] (List.replicate (if its.toArray.isEmpty=true then 0 else k.toNat) its.toArray)=(List.replicate k.toNat its).flatten.toArray:=by
  have f0:∀ m:Nat,List.foldl (fun x1 x2=>x1++x2) #[] (List.replicate m its.toArray)=(List.replicate m its).flatten.toArray:=fun m=>by
   have:=foldl_rep its m []
   rw [List.nil_append] at this
   exact this
  rw [f0]
  cases its with
  | nil=>simp
  | cons a r'=>rw [if_neg (by simp)]
 refine wpAny_binaryOp_repeat_ref (T:="list") (U:="int") (by decide) ⟨_,e,rfl⟩ (fun s'=>typeIs_int s' k t) noFill_list_mul F.fills_int_mul F.slot_int_rmul repeat_list F.slot_int_index.lookup
  (call_meets F.slot_int_rmul (typeIs_int s k t) F.entry_int_rmul (F.args_int_rmul_2 _ _) (int___rmul___int_list k t l its.toArray n)
   ⟨e,rfl,⟨_,e,rfl⟩,call_meets F.slot_list_mul ⟨_,e,rfl⟩ F.entry_list_mul (F.args_list_mul_2 _ _) (AutoListH.list___mul___list_int_3 l its.toArray n k t hfit hcap hlong) ⟨e,?_⟩⟩)
 rw [hnew]
 exact ⟨.ref _,_,I.lnew (t':=s.toks) (r.rep k.toNat) (by rw [len_rep,Nat.mul_comm];exact hz),rfl,q _ I.fresh⟩

end

section
variable {prog:Program}{w:World}{A:Around}{E:Value->Shared->Prop}{s:Shared}
set_option maxRecDepth 100000 in
end

section
variable {X:Cx}
end
end L2

namespace Att
open PySem PySem.W PySem.Calls PyProof.Rows

theorem lw {P:Params}{h:Heap}:∀ (ns:List Int) (vs:List Value),WellAll P h vs (ns.map WData.int)->IntsAre vs ns:=by
 intro ns
 induction ns with
 | nil =>
  intro vs w
  rw [List.map_nil] at w
  cases w
  exact .nil
 | cons n ns ih =>
  intro vs w
  rw [zAk] at w
  cases w with
  | cons a b =>
   cases a
   exact .cons _ _ (ih _ b)

theorem xu {l:OpenLaw}{n:Nat}(hn:l.most=some n){P:Params}{h:Heap}{args:List WData}{vals:List Value}
  (hpre:l.row.toRowW.claim.pre args=true) (hwl:WellAll P h vals args) :
  ∃ a vs ns,vals=[Value.ref a]/\args=[WData.list (ns.map WData.int)]/\h.get? a=some { cls:=.type "list",data:=.seq vs.toArray }/\IntsAre vs ns/\ns.length<=n:=by
 have hsh:WShape.hasAll [] args [.list .int]=true:=(pre_splitW hpre).1
 have hc:l.pre.holds [] { args:=args }=true:=(pre_splitW hpre).2
 obtain ⟨d,r,rfl,h1,h2⟩:=hasAllW_cons hsh
 obtain rfl:=hasAllW_nil h2
 obtain ⟨xs,rfl,h3⟩:=hasW_list h1
 obtain ⟨ns,rfl⟩:=items_int h3
 have hlen:ns.length<=n:=by
  unfold OpenLaw.pre at hc
  have h4:(WTm.not (.lt (.lit (.int (n:Int))) (.len (.arg 0)))).holds [] { args:=[.list (ns.map .int)] }=true:=by
   have h4:=(holds_andW hc).1
   rw [hn] at h4
   exact h4
  have h5:=condW_of h4 (w_not (w_lt w_lit (w_len_list (w_arg rfl))))
  rw [zA1] at h5
  refine Nat.le_of_not_lt fun q=>?_
  have q':(n:Int) < ((ns.length:Nat):Int):=by lia
  first
   | (rw [decide_eq_true q'] at h5;exact absurd h5 (by decide))
   | (simp at h5;lia)
 cases hwl with
 | cons w1 w2 =>
  cases w2
  cases w1 with
  | list ho hall=>exact ⟨_,_,ns,rfl,rfl,ho,lw ns _ hall,hlen⟩

theorem xx (l:OpenLaw)(args:List WData):l.row.toRowW.claim.post args (.bool true) args=true :=
 postW_of (r:=l.row.toRowW) (X:=(true == true))
  (show WShape.has [] (.bool true) .bool=true by first | rfl | decide | simp [WShape.has,WShape.arms,WShape.armsAll])
  (show (WTm.eq .res (.lit (.bool true))).value [] { args:=args,res:=some (.bool true),after:=args }=some (.bool (true == true)) from w_eq_bool (w_res rfl) w_lit) rfl

theorem attach_call {l:OpenLaw}{n:Nat}{q:Program}{loose:List Str}{XP:(Str->Option Value)->Heap->Prop}{YP:World->Heap->Prop}{d:DefRec}
  (hn:l.most=some n) (hdf:d.params.defaults=[])
  (call:∀ (w:World) (s₀ s₁:Shared) (mg mb:Str->Option Value) (fa:Addr) (o:Obj) (pm cd doc:Value) (a:Addr) (vs:List Value) (ns:List Int),
   Ground q loose [] XP w s₀ mg mb s₁.heap->YP w s₁.heap ->
   s₁.heap.get? fa=some o->o.data=.func (docDef d.name d.params d.body d.scope pm cd doc)->s₁.heap.CodeRec cd d.name->mg d.name=some (.ref fa) ->
   s₁.heap.get? a=some { cls:=.type "list",data:=.seq vs.toArray }->IntsAre vs ns->ns.length<=n->s₁.gens=#[] ->
   codeAny (model l.prog w) callerA (.call (.ref fa) ⟨[.ref a],[]⟩) (fun r s'=>r=.ok (.ret (.bool true))/\OldK s₁.heap s'.heap/\s'.os=s₁.os/\AllBare s'.gens) s₁) :
  WalkO q loose XP YP l.row.toRowW d [] (fun f vs=>PySem.call f vs):=by
 intro w s₀ s₁ mg mb G Y fa o pm cd doc dV kV ho hd hcd hD hmg hg args vals as hpre hlay hrd hwl hlo
 obtain rfl:dV=.none:=Dflts.none hD hdf
 obtain rfl:kV=.none:=Dflts.noKw hD
 obtain ⟨a,vs,ns,rfl,rfl,hobj,hints,hlen⟩:=xu hn hpre hwl
 refine enter_call (codeAny_mono (call w s₀ s₁ mg mb fa o pm cd doc a vs ns G Y ho (fd_plain hd) hcd hmg hobj hints hlen hg) fun r s' hq=>?_)
 obtain ⟨rfl,h2,h3,h4⟩:=hq
 exact ⟨.inl ⟨.bool true,.bool true,[],rfl,fun _=>rfl,.bool true,xx l _,fun _=>⟨List.Pairwise.nil,fun _ hm=>(nomatch hm)⟩⟩,h2,h3,h4⟩

section
variable {prog:Program}{w:World}{A:Around}{E:Value->Shared->Prop}{s:Shared}{K:Frag}

end
end Att

namespace L2
open PySem PySem.Spec PyProof.Rows

theorem pC:∀ {vs:List Value} {ns:List Int},IntsAre vs ns->Vals (ns.map V.int) vs
 | _,_,.nil=>.nil
 | _,_,.cons n t h=>.cons ⟨t,rfl⟩ (pC h)

def Only (H:Hp):Prop:=∀ b,H b=none\/∃ o xs,H b=some (.frz o (.lst xs))

theorem yP {P:Program}{w:World}{K:PySem.W.Frag}{mg mb:Str->Option Value}{CX:CXT}{k:Nat}{fa a:Addr}{fd:FuncData}{x:Str}{sp:Sp}{s₁:Shared}{vs:List Value}{ns:List Int}
  (KX:K.In s₁.heap) (hns:s₁.heap.Ns mainGlobals mg) (hb:s₁.heap.Ns builtinsNs mb) (hbb:∀ x:Str,x≠"__name__" -> mb x=bootBuiltins x) (hlim:s₁.heap.NoLimit) (hg:s₁.gens=#[])
  (ha:s₁.heap.get? a=some { cls:=.type "list",data:=.seq vs.toArray }) (hi:IntsAre vs ns) (hl:ns.length<=sizeLine) (hr:Room k callerA)
  (F:∀ base:Heap,K.In base->base.Ns mainGlobals mg->FnOk P w K mg base CX k fa fd [x] sp) (hbind:∀ (s:Shared) (u:Value),BindsTo s fd ⟨[u],[]⟩ [(x,u)])
  (hsp:∀ H:Hp,Only H->SqL K H a (ns.map V.int)->sp [.ref a] H (fun v _=>v=.bl true) fun _ _ _=>False)
  (hCX:∀ H e s',CX [] H s₁ (fun _ _ _=>False) e s'->False) :
  codeAny (model P w) callerA (.call (.ref fa) ⟨[.ref a],[]⟩) (fun r s'=>r=.ok (.ret (.bool true))/\OldK s₁.heap s'.heap/\s'.os=s₁.os/\AllBare s'.gens) s₁:=by
 have rv:=pC hi
 have lenV:=hi.length
 have core:∀ H:Hp,Only H->SqL K H a (ns.map V.int)->HOk P w H s₁.heap->(∀ b,H b≠none->b=a)->(H a≠none->K.lookup a=none) ->
   codeAny (model P w) callerA (.call (.ref fa) ⟨[.ref a],[]⟩) (fun r s'=>r=.ok (.ret (.bool true))/\OldK s₁.heap s'.heap/\s'.os=s₁.os/\AllBare s'.gens) s₁:=by
  intro H hO hS hok hA hK
  have base_of:∀ {b:Addr} {o:Obj},s₁.heap.get? b=some o->H b=none->(qe s₁.heap H).get? b=some o:=fun e n=>yp e n
  have noA:∀ {b:Addr} {o:Obj} {es:Array DictEntry} {ep:Nat},s₁.heap.get? b=some o->o.data=.dict es ep->H b=none:=fun {b o es ep} e d=>by
   cases q:H b with
   | none=>rfl
   | some u =>
    have e':b=a:=hA b (by rw [q];simp)
    subst e'
    rw [ha] at e;cases e
    have d':Data.seq vs.toArray _=Data.dict es ep:=d
    cases d'
  have nsK:∀ {b:Addr} {m:Str->Option Value},s₁.heap.Ns b m->(qe s₁.heap H).Ns b m:=fun {b m} ⟨o,es,ep,e,d,r⟩=>⟨o,es,ep,base_of e (noA e d),d,r⟩
  have hKb:K.In (qe s₁.heap H):=fun b o e=>base_of (KX b o e) (by
   cases q:H b with
   | none=>rfl
   | some u =>
    have e':b=a:=hA b (by rw [q];simp)
    subst e'
    rw [hK (by rw [q];simp)] at e;cases e)
  have hM:Mod K mg (qe s₁.heap H):=⟨hKb,nsK hns,⟨mb,nsK hb,hbb⟩,let ⟨mc,h1,h2⟩:=hlim;⟨mc,nsK h1,h2⟩⟩
  have e0:Env0 P w K mg (qe s₁.heap H) callerA [] s₁ H:=⟨rfl,hM,fun b o e=>Az e,Nat.le_of_eq (wU _ _),trivial,fun b hb=>absurd (show b∈([]:List Addr) from hb) (by simp),hok,.of_eq hg⟩
  refine codeAny_mono ((F _ hKb (nsK hns)).run callerA [] s₁ H ⟨[.ref a],[]⟩ [.ref a] [.ref a] _ _ hr e0 (hbind s₁ (.ref a)) (.cons rfl .nil) (hsp H hO hS)) fun r s' h=>?_
  cases r with
  | error e=>exact (hCX H e s' h).elim
  | ok fl =>
   cases fl with
   | next=>exact False.elim h
   | brk=>exact False.elim h
   | cont=>exact False.elim h
   | ret u =>
    obtain ⟨v,H',os,bare,un,hok',r',q⟩:=h
    have q':v=.bl true:=q
    subst q'
    obtain rfl:u=Value.bool true:=r'
    refine ⟨rfl,OldK.of_keep fun b o e=>?_,os,bare⟩
    cases q:H b with
    | none=>exact un.keep b o e q (by intro z;exact absurd (show b∈([]:List Addr) from z) (by simp)) (by simp)
    | some u =>
     rcases hO b with z | ⟨ob,xs,z⟩
     ·rw [q] at z;cases z
     ·have z2:=un.frzs b ob _ z
      obtain ⟨e1,_⟩:=hok b _ z
      obtain ⟨e2,_⟩:=hok' b _ z2
      rw [e] at e1;cases e1
      exact e2
 cases hk:K.lookup a with
 | some o =>
  have e:=KX a o hk
  rw [ha] at e
  cases e
  refine core (fun _=>none) (fun _=>.inl rfl) (.inr ⟨_,vs.toArray,_,hk,rfl,rfl,rfl,by rw [List.size_toArray,lenV];exact hl,by simpa using rv⟩) (fun b u z=>by have z':(none:Option HO)=some u:=z;cases z') (fun b z=>absurd rfl z) fun z=>absurd rfl z
 | none =>
  refine core (fun b=>if b=a then some (.frz { cls:=.type "list",data:=.seq vs.toArray } (.lst (ns.map V.int))) else none) (fun b=>?_) (.inl (.inr ⟨{ cls:=.type "list",data:=.seq vs.toArray },if_pos rfl⟩)) (fun b u z=>?_) (fun b z=>?_) fun _=>hk
  ·by_cases hb:b=a
   ·exact .inr ⟨_,_,if_pos hb⟩
   ·exact .inl (if_neg hb)
  ·by_cases hb:b=a
   ·have z':=(if_pos hb).symm.trans z
    cases z'
    subst hb
    exact ⟨ha,by rw [zA1];exact hl,vs,_,rv,ha⟩
   ·have z':=(if_neg hb).symm.trans z
    cases z'
  ·by_cases hb:b=a
   ·exact hb
   ·exact absurd (if_neg hb) z
end L2

namespace L2
open PySem PySem.Spec PyProof.Rows

theorem walk_of {l:PySem.W.OpenLaw}{n k:Nat}{q:Program}{loose:List Str}{XP:(Str->Option Value)->Heap->Prop}{YP:World->Heap->Prop}{d:DefRec}{K:Params->PySem.W.Frag}{CX:World->CXT}{sp:World->Sp}{x:Str}
  (hn:l.most=some n) (hn2:n<=sizeLine) (hdf:d.params.defaults=[]) (hr:Room k callerA)
  (hY:∀ (w:World) (h:Heap),YP w h->(K w.params).In h)
  (F:∀ (w:World) (mg:Str->Option Value) (fa:Addr) (h:Heap),(K w.params).In h->h.Ns mainGlobals mg->mg d.name=some (.ref fa) ->
   ∃ fd:FuncData,(∀ (s:Shared) (u:Value),BindsTo s fd ⟨[u],[]⟩ [(x,u)]) /\
    ∀ base:Heap,(K w.params).In base->base.Ns mainGlobals mg->FnOk l.prog w (K w.params) mg base (CX w) k fa fd [x] (sp w))
  (hsp:∀ (w:World) (H:Hp) (a:Addr) (ns:List Int),ns.length<=n->Only H->SqL (K w.params) H a (ns.map V.int)->sp w [.ref a] H (fun v _=>v=.bl true) fun _ _ _=>False)
  (hCX:∀ (w:World) (H:Hp) (s:Shared) (e:Value) (s':Shared),CX w [] H s (fun _ _ _=>False) e s'->False) :
  PySem.W.WalkO q loose XP YP l.row.toRowW d [] (fun f vs=>PySem.call f vs):=by
 refine Att.attach_call hn hdf fun w s₀ s₁ mg mb fa o pm cd doc a vs ns G Y ho hd hcd hmg hobj hints hlen hg=>?_
 have KX:=hY w _ Y
 obtain ⟨fd,hb,hF⟩:=F w mg fa _ KX G.T.g hmg
 exact yP KX G.T.g G.T.b G.T.builtins G.T.nolimit hg hobj hints (Nat.le_trans hlen hn2) hr hF hb (fun H hO hS=>hsp w H a ns hlen hO hS) fun H e s'=>hCX w H s₁ e s'
end L2


namespace L2
open PySem PySem.Spec PyProof.Rows

def inClass (s:Stmt)(j:Nat):Stmt:=match s with
 | .ClassDef _ _ _ body _ _ _ _ _ _ _=>body.getD j (.Pass ⟨0,0,0,0⟩)
 | _=>.Pass ⟨0,0,0,0⟩
def dI (s:Stmt):Arguments:=match s with
 | .FunctionDef _ a _ _ _ _ _ _ _ _=>a
 | _=>{ posonlyargs:=[],args:=[],vararg:=none,kwonlyargs:=[],kw_defaults:=[],kwarg:=none,defaults:=[] }
def dC (s:Stmt):List Stmt:=match s with
 | .FunctionDef _ _ b _ _ _ _ _ _ _=>b
 | _=>[]
def aJ (s:Stmt):Scope:=match s with
 | .FunctionDef _ _ _ _ _ _ sc _ _ _=>sc
 | _=>{ kind:=.function,names:=[],isGenerator:=false,isCoroutine:=false }

abbrev CX0:CXT:=fun _ _ _ _ _ _=>False
abbrev E0:XK:=fun _ _ _=>False
theorem rR {X:Cx}:iJ CX0 X E0:=fun _ _ _ _ _ _ _ h=>h.elim

structure Fun (K:PySem.W.Frag)(x qual:Str)(st:Stmt)(f:Addr)(fd:FuncData):Prop where
 ex:∃ (oc:Value) (od:Option Addr) (kV doc pm:Value) (an:Option Addr) (cdv ct:Value) (osl:Array (Option Value)),
  fd=PySem.W.fnOf x qual (dI st) (dC st) (aJ st) .none kV doc pm an cdv ct/\K.lookup f=some ⟨oc,od,.func fd,osl⟩/\PySem.W.codeIn K cdv qual=true
 kp:PySem.W.keepIn K (.ref f)=true
section
variable {P:Program}{w:World}{K:PySem.W.Frag}{mg:Str->Option Value}{base:Heap}
theorem Fun.ok {x qual:Str}{st:Stmt}{f:Addr}{fd:FuncData}{N ps:List Str}{k:Nat}{sp:Sp}(F:Fun K x qual st f fd)(S:FnScope N ps (aJ st))(len:∀ vs H Q E,sp vs H Q E->vs.length=ps.length)
  (hbody:∀ (cdv:Value) (A:Around) (outer:List Env) (s:Shared) (H:Hp) (vs:List V) (Q:VK) (E:XK),Room k (A.deeper (envOfC qual (aJ st) s.heap.objs.size f cdv))->sp vs H Q E ->
   ∃ t,PSs (xm CX0 P w K mg base N qual (aJ st) f cdv A outer s H E).nox (dC st) t/\t { nx:=fun _ H'=>Q .non H',rt:=Q } (start N vs) H):FnOk P w K mg base CX0 (k+1) f fd ps sp:=by
 obtain ⟨oc,od,kV,doc,pm,an,cdv,ct,osl,rfl,lk,hcd⟩:=F.ex
 refine Ga lk hcd S len fun A outer s H vs Q E hr hsp=>?_
 obtain ⟨t,h,q⟩:=hbody cdv A outer s H vs Q E hr hsp
 exact ⟨t,h.nox,q⟩
theorem Fun.binds {x qual:Str}{st:Stmt}{f:Addr}{fd:FuncData}{ps:List Str}(F:Fun K x qual st f fd)
  (h:∀ (kV doc pm:Value) (an:Option Addr) (cdv ct:Value) (us:List Value),us.length=ps.length->bindArgs (PySem.W.fnOf x qual (dI st) (dC st) (aJ st) .none kV doc pm an cdv ct) ⟨us,[]⟩=pure (ps.zip us)):Binds K fd ps []:=by
 obtain ⟨oc,od,kV,doc,pm,an,cdv,ct,osl,rfl,lk,hcd⟩:=F.ex
 exact .all (h kV doc pm an cdv ct)
theorem uG {x qual:Str}{st:Stmt}{f:Addr}{oc:Value}{od an:Option Addr}{osl:Array (Option Value)}{kV doc pm cdv ct:Value}(l:K.lookup f=some ⟨oc,od,.func (PySem.W.fnOf x qual (dI st) (dC st) (aJ st) .none kV doc pm an cdv ct),osl⟩)
  (c:PySem.W.codeIn K cdv qual=true) (k:PySem.W.keepIn K (.ref f)=true):Fun K x qual st f (PySem.W.fnOf x qual (dI st) (dC st) (aJ st) .none kV doc pm an cdv ct):=⟨⟨oc,od,kV,doc,pm,an,cdv,ct,osl,rfl,l,c⟩,k⟩
end
theorem kE {A:Around}{k:Nat}(hr:Room k A):A.units+1 < cLine:=Nat.lt_of_le_of_lt (Nat.add_le_add_left (by decide:1<=64) _) hr.units
section
variable {X:Cx}
theorem pv (i:Nat){x:Str}{pos:Pos}(hN:X.N[i]?=some x:=by rfl)(hv:Vis X.env.scope x:=by first | exact Or.inl rfl | exact Or.inr (Or.inl rfl) | exact Or.inr (Or.inr rfl))(hd:(x == ("__debug__" : Str))=false:=by decide)
  (hcd:(x == ("__classdict__" : Str))=false:=by decide):PE X (.Name x pos) (wV i):=DP hN hv hd hcd
end

theorem bD {A B:Prop}(h:B):if false=true then A else B:=by
 rw [if_neg zAg]
 exact h
theorem cj {A B:Prop}(h:A):if true=true then A else B:=by
 rw [if_pos rfl]
 exact h
theorem Bq {c A B:Prop}[Decidable c](h1:c->A)(h2:¬ c->B):if c then A else B:=by
 by_cases h:c
 ·rw [if_pos h]
  exact h1 h
 ·rw [if_neg h]
  exact h2 h
def Same (H H':Hp):Prop:=∀ b o,H b=some o->H' b=some o
theorem Same.refl (H:Hp):Same H H:=fun _ _ h=>h
theorem Same.trans {H H1 H2:Hp}(a:Same H H1)(b:Same H1 H2):Same H H2:=fun c o h=>b c o (a c o h)
theorem Same.free {H H':Hp}(e:Same H H'){l:Addr}(h:H' l=Option.none):H l=Option.none:=by
 cases q:H l with
 | none=>rfl
 | some o =>
  rw [e l o q] at h
  cases h
theorem Same.seq {K:PySem.W.Frag}{H H':Hp}{a:Addr}{xs:List V}(e:Same H H')(h:SqL K H a xs):SqL K H' a xs:=by
 rcases h with (h | ⟨o,h⟩) | h
 ·exact .inl (.inl (e _ _ h))
 ·exact .inl (.inr ⟨o,e _ _ h⟩)
 ·exact .inr h

end L2

namespace L2
open PySem PySem.Spec PyProof.Rows

def fJ (cells:List (Str×Addr)):List (Str×NameKind)->List (Str×Addr)->List (Str×Addr)
 | [],acc=>acc
 | (n,k)::r,acc=>fJ cells r (if k=.free then (n,(cells.lookup n).getD 0)::acc else acc)
theorem pF {env:Env}:∀ (l:List (Str×NameKind)) (acc:List (Str×Addr)),(∀ p∈l,p.2=NameKind.free->(env.cells.lookup p.1).isSome=true) ->
  (forIn l acc fun (x:Str×NameKind) (r:List (Str×Addr))=>(if (x.2 == NameKind.free)=true then do let a <- cellOf env x.1;pure (ForInStep.yield ((x.1,a)::r)) else pure (ForInStep.yield r):Sem (ForInStep (List (Str×Addr)))))=pure (fJ env.cells l acc)
 | [],acc,_=>rfl
 | (n,k)::r,acc,h=>by
  rw [List.forIn_cons]
  have ih:=fun a=>pF (env:=env) r a fun p hp=>h p (List.mem_cons_of_mem _ hp)
  by_cases hk:k=.free
  ·subst hk
   have hs:=h (n,.free) List.mem_cons_self rfl
   obtain ⟨c,hc⟩:=Option.isSome_iff_exists.mp hs
   have e1:cellOf env n=pure c:=by unfold cellOf;rw [show env.cells.lookup n=some c from hc]
   have e2:fJ env.cells ((n,.free)::r) acc=fJ env.cells r ((n,c)::acc):=by
    show fJ env.cells r (if NameKind.free=NameKind.free then (n,(env.cells.lookup n).getD 0)::acc else acc)=_
    rw [if_pos rfl,show env.cells.lookup n=some c from hc]
    rfl
   rw [e2]
   simp only [beq_self_eq_true,if_true,e1,pure_bind]
   exact ih _
  ·have hb:(k == NameKind.free)=false:=by simpa using hk
   have e2:fJ env.cells ((n,k)::r) acc=fJ env.cells r acc:=by
    show fJ env.cells r (if k=NameKind.free then _ else acc)=_
    rw [if_neg hk]
   rw [e2]
   simp only [hb,Bool.false_eq_true,if_false,pure_bind]
   exact ih _
theorem vK {scope:Scope}{env:Env}(h:∀ p∈scope.names,p.2=NameKind.free->(env.cells.lookup p.1).isSome=true):closureFor scope env=pure (fJ env.cells scope.names []):=by
 have e:=pF (env:=env) scope.names [] h
 unfold closureFor
 simp only [bind_pure]
 exact e
theorem rT {cells:List (Str×Addr)}{x:Str}{c:Addr}:∀ (l:List (Str×NameKind)) (acc:List (Str×Addr)),(∀ p∈l,p.2=NameKind.free->(cells.lookup p.1).isSome=true)->(fJ cells l acc).lookup x=some c ->
  acc.lookup x=some c\/cells.lookup x=some c
 | [],_,_,h=>.inl h
 | (n,k)::r,acc,hf,h=>by
  have h':(fJ cells r (if k=.free then (n,(cells.lookup n).getD 0)::acc else acc)).lookup x=some c:=h
  rcases rT r _ (fun p hp=>hf p (List.mem_cons_of_mem _ hp)) h' with e | e
  ·by_cases hk:k=.free
   ·rw [if_pos hk] at e
    obtain ⟨d,hd⟩:=Option.isSome_iff_exists.mp (hf (n,k) List.mem_cons_self hk)
    rw [show cells.lookup n=some d from hd] at e
    rw [List.lookup_cons] at e
    cases hx:x == n with
    | true =>
     rw [hx] at e
     have:x=n:=by simpa using hx
     subst this
     exact .inr (hd.trans (by simpa using e))
    | false =>
     rw [hx] at e
     exact .inl e
   ·rw [if_neg hk] at e
    exact .inl e
  ·exact .inr e
theorem rW {cells:List (Str×Addr)}{x:Str}:∀ (l:List (Str×NameKind)) (acc:List (Str×Addr)),((∃ k,(x,k)∈l/\k=NameKind.free)\/(∃ c,acc.lookup x=some c))->∃ c,(fJ cells l acc).lookup x=some c
 | [],_,h=>by
  rcases h with ⟨k,hk,_⟩ | h
  ·exact absurd hk (by simp)
  ·exact h
 | (n,k)::r,acc,h=>by
  show ∃ c,(fJ cells r (if k=.free then (n,(cells.lookup n).getD 0)::acc else acc)).lookup x=some c
  refine rW r _ ?_
  rcases h with ⟨k',hk,e⟩ | ⟨c,hc⟩
  ·rcases zAo.mp hk with z | z
   ·cases z
    refine .inr ?_
    rw [if_pos e]
    exact ⟨_,by rw [List.lookup_cons,beq_self_eq_true]⟩
   ·exact .inl ⟨k',z,e⟩
  ·refine .inr ?_
   by_cases hk:k=.free
   ·rw [if_pos hk,List.lookup_cons]
    cases hx:x == n with
    | true=>exact ⟨_,rfl⟩
    | false=>exact ⟨c,hc⟩
   ·rw [if_neg hk]
    exact ⟨c,hc⟩
theorem kJ {scope:Scope}{env:Env}{x:Str}{k:NameKind}(hc:∀ p∈scope.names,p.2≠NameKind.cell)(h:(relabel scope env).names.lookup x=some k)(hk:k=.cell\/k=.free):∃ k',(x,k')∈scope.names/\k'=NameKind.free:=by
 have m:=PySem.mem_of_lookup h
 obtain ⟨⟨n,k0⟩,hm,e⟩:=zA5.mp m
 dsimp only at e
 split at e
 ·rename_i c
  cases e
  have:(k0 == NameKind.free)=true:=by
   cases q:(k0 == NameKind.free) with
   | true=>rfl
   | false=>rw [q] at c;simp at c
  exact ⟨k0,hm,by simpa using this⟩
 ·cases e
  rcases hk with z | z
  ·exact absurd z (hc _ hm)
  ·exact ⟨_,hm,z⟩

def cxC (X:Cx)(scope:Scope)(Nc:List Str)(C:Addr)(fp:List Addr)(pins:List (Addr×Obj))(s₂:Shared)(H₂:Hp):Cx where
 prog:=X.prog
 w:=X.w
 K:=X.K
 mg:=X.mg
 base:=X.base
 A:=X.A
 N:=Nc
 s₀:=s₂
 H₀:=H₂
 env:=compEnvC scope (fJ X.env.cells scope.names []) C X.env
 outer:=X.stack
 stack:=X.stack
 ex:=fp
 fn:=fun _=>false
 calm:=X.calm
 pn:=X.pn++pins
 xe:=fun _ _=>False
def Caps (X:Cx)(env':Env):List Str->List (Option Nat)->Prop
 | [],[]=>True
 | _::N,none::r=>Caps X env' N r
 | x::N,some i::r=>(X.N[i]?=some x/\(X.env.kindOf x=some .cell\/X.env.kindOf x=some .free)/\env'.cells.lookup x=X.env.cells.lookup x/\(env'.kindOf x=some .cell\/env'.kindOf x=some .free))/\Caps X env' N r
 | _,_=>False
def capσ (σ:St)(src:List (Option Nat)):St:=src.map fun o=>match o with | none=>none | some i=>(σ[i]?).join
theorem Caps.len {X:Cx}{env':Env}:∀ {N:List Str} {src:List (Option Nat)},Caps X env' N src->src.length=N.length
 | [],[],_=>rfl
 | [],_::_,h=>h.elim
 | _::_,[],h=>h.elim
 | _::N,none::r,h=>by
  have h':Caps X env' N r:=h
  have:=Caps.len (N:=N) (src:=r) h'
  simp [this]
 | _::N,some _::r,h=>by
  have:=Caps.len (N:=N) (src:=r) h.2
  simp [this]
theorem Caps.get {X:Cx}{env':Env}{x:Str}:∀ {N:List Str} {src:List (Option Nat)} {j i:Nat},Caps X env' N src->N[j]?=some x->src[j]?=some (some i) ->
  X.N[i]?=some x/\(X.env.kindOf x=some .cell\/X.env.kindOf x=some .free)/\env'.cells.lookup x=X.env.cells.lookup x/\(env'.kindOf x=some .cell\/env'.kindOf x=some .free)
 | [],[],_,_,_,e,_=>by simp at e
 | [],_::_,_,_,h,_,_=>h.elim
 | _::_,[],_,_,h,_,_=>h.elim
 | _::_,none::_,0,_,_,_,e=>by simp at e
 | _::N,none::r,j+1,_,h,e1,e2=>by
  have h':Caps X env' N r:=h
  exact Caps.get (N:=N) (src:=r) (j:=j) h' (by simpa using e1) (by simpa using e2)
 | _::_,some _::_,0,_,h,e1,e2=>by
  simp at e1 e2
  subst e1 e2
  exact h.1
 | _::_,some _::_,j+1,_,h,e1,e2=>Caps.get (j:=j) h.2 (by simpa using e1) (by simpa using e2)

structure CScope (X:Cx)(scope:Scope):Prop where
 kind:scope.kind=.function
 cell:scope.names.all (fun p=>p.2 != .cell)=true
 names:scope.names.all (fun p=>p.2 != .local || scope.names.lookup p.1 == some .local)=true
 free:scope.names.all (fun p=>p.2 != .free || (X.env.cells.lookup p.1).isSome)=true
section
variable {X:Cx}{scope:Scope}
theorem CScope.hcell (S:CScope X scope):∀ p∈scope.names,p.2≠NameKind.cell:=fun p hp=>by
 have:=List.all_eq_true.mp S.cell p hp
 simpa using this
theorem CScope.hnames (S:CScope X scope):∀ p∈scope.names,p.2=.local->scope.names.lookup p.1=some .local:=fun p hp e=>by
 have:=List.all_eq_true.mp S.names p hp
 simpa [e] using this
theorem CScope.hfree (S:CScope X scope):∀ p∈scope.names,p.2=NameKind.free->(X.env.cells.lookup p.1).isSome=true:=fun p hp e=>by
 have:=List.all_eq_true.mp S.free p hp
 simpa [e] using this
end

def PTs (X:Cx)(ifs:List Expr)(t:TT):Prop :=
 ∀ (pins:List (Addr×Obj)) (s:Shared) (σ:St) (H:Hp) (Q:Bool->Hp->Prop),Inv X pins σ H s->t σ H Q ->
  wpAny (model X.prog X.w) X.A (forIn ifs true fun c r=>if r=true then do let ok <- isTrue c X.env (eval c X.env);pure (ForInStep.yield ok) else pure (ForInStep.yield r)) (TP X pins σ Q) X.xe s
def qz:TT:=fun _ H Q=>Q true H
theorem bT {X:Cx}:PTs X [] qz:=fun _ _ _ H _ I h=>wpAny_tests_nil ⟨H,I,h⟩
theorem lE {X:Cx}{c:Expr}{t:TT}(h:PT X c t):PTs X [c] t:=fun pins s σ H Q I q=>wpAny_tests_one (h pins s σ H Q I q)

theorem qC {prog:Program}{w:World}{A:Around}{R:Result->Shared->Prop}{s:Shared}{elt target iter:Expr}{ifs:List Expr}{scope:Scope}{pos:Pos}{it acc:Value}{env:Env}(I:Nat->Shared->Prop)
  (turn:∀ n s,I n s->wpAny (model prog w) A (pyNext it) (fun r s₁=>match r with
   | none=>R (.ok .next) s₁
   | some v=>wpAny (model prog w) A (letOwnedTupleGo target it v) (fun _ s₁'=>wpAny (model prog w) A (assign target env v) (fun _ s₂ =>
     wpAny (model prog w) A (forIn ifs true fun c r=>if r=true then do let ok <- isTrue c env (eval c env);pure (ForInStep.yield ok) else pure (ForInStep.yield r)) (fun ok s₃ =>
      if ok=true then wpAny (model prog w) A (eval elt env) (fun x s₄ =>
       wpAny (model prog w) A (call (.builtin "list.append") [acc,x]) (fun _ s₅=>∃ m,m < n/\I m s₅) (fun _ _=>False) s₄) (fun _ _=>False) s₃
      else ∃ m,m < n/\I m s₃) (fun _ _=>False) s₂) (fun _ _=>False) s₁') (fun _ _=>False) s₁) (fun _ _=>False) s)
  (n:Nat) (h:I n s) :
  codeAny (model prog w) A (.compLoop (.ListComp elt [⟨target,iter,ifs,0⟩] scope pos) 0 it acc env) R s:=by
 refine codeAny_loop rfl I (fun n s hI=>?_) n h
 show wpAny _ A ((compTurn (.ListComp elt [⟨target,iter,ifs,0⟩] scope pos) 0 it acc env).onRaise (fun x=>do noteFrame x env;theTreesLotGoes x)) _ _ s
 refine wpAny_noted ?_
 rw [compTurn_list]
 refine wpAny_bind (wpAny_standAt (wpAny_bind (wpAny_mono (turn n s hI) (fun r s₁ h₁=>?_) fun _ _ h'=>h'.elim)))
 cases r with
 | none=>exact wpAny_pure h₁
 | some v =>
  refine wpAny_bind (wpAny_mono h₁ (fun _ s₁' h₁'=>?_) fun _ _ h'=>h'.elim)
  refine wpAny_bind (wpAny_mono h₁' (fun _ s₂ h₂=>wpAny_bind (wpAny_mono h₂ (fun ok s₃ h₃=>?_) fun _ _ h'=>h'.elim)) fun _ _ h'=>h'.elim)
  cases ok with
  | false=>exact wpAny_pure ⟨rfl,h₃⟩
  | true =>
   exact wpAny_bind (wpAny_bind (wpAny_mono h₃ (fun x s₄ h₄=>wpAny_bind (wpAny_mono h₄ (fun _ s₅ h₅=>wpAny_pure (wpAny_pure ⟨rfl,h₅⟩)) fun _ _ h'=>h'.elim)) fun _ _ h'=>h'.elim))

def j9 (J:It)(g:TG)(tt:TT)(te:TE)(Fin:List V->Hp->Prop)(σ0:St)(H0:Hp):Prop :=
 ∃ W:Nat->Nat->List V->St->Hp->Prop,(∃ m,W 0 m [] σ0 H0)/\∀ i m ys σ H,W i m ys σ H->ys.length < sizeLine /\
  ((J.stop i H/\Fin ys H)\/(J.go i H/\∀ x H',J.yld i H x H'->g x σ H' fun σ2 H2=>tt σ2 H2 fun b H3 =>
   if b=true then te σ2 H3 fun y H4=>∃ m',m' < m/\W (i+1) m' (ys++[y]) σ2 H4 else ∃ m',m' < m/\W (i+1) m' ys σ2 H3))

theorem pG {X:Cx}{tg iter elt:Expr}{ifs:List Expr}{scope:Scope}{pos:Pos}{Nc:List Str}{src:List (Option Nat)}{g:TG}{tt:TT}{te:TE}(hc:X.calm=true)(S:CScope X scope)
  (hcaps:∀ C,Caps X (compEnvC scope (fJ X.env.cells scope.names []) C X.env) Nc src)
  (hb:∀ C fp pins s₂ H₂,PG (cxC X scope Nc C fp pins s₂ H₂) tg g/\PTs (cxC X scope Nc C fp pins s₂ H₂) ifs tt/\PE (cxC X scope Nc C fp pins s₂ H₂) elt te)
  {pins:List (Addr×Obj)} {s₂:Shared} {σ:St} {H₂:Hp} {it:Addr} {fp:List Addr} {tn:Nat->Heap->Prop} {J:It} (I₂:Inv X pins σ H₂ s₂) (T:Turn X.prog X.w X.K tg J fp it tn) (st:tn 0 s₂.heap) (hf:∀ b∈fp,qt X pins H₂ b)
  {Fin:List V->Hp->Prop} (hW:j9 J g tt te Fin (capσ σ src) H₂) {RR:Value->Addr->Result->Shared->Prop} {E:Value->Shared->Prop}
  (hRR:∀ D C s' ys H' m,Fin ys H'->H' D=none->Inv X pins σ (upd H' D (.lst ys)) s'->s'.heap.Ns C m->qt X pins (upd H' D (.lst ys)) C->RR (.ref D) C (.ok .next) s') :
  wpAny (model X.prog X.w) X.A (newList []) (fun acc s₃=>wpAny (model X.prog X.w) X.A (newFunctionEnv scope X.env.globals (fJ X.env.cells scope.names []) [] X.env.qual none .none (some X.env)) (fun cenv s₄ =>
   codeAny (model X.prog X.w) X.A (.compStart (.ListComp elt [⟨tg,iter,ifs,0⟩] scope pos) 0 (.ref it) acc { cenv with scope:=relabel scope X.env }) (RR acc cenv.locals) s₄) E s₃) E s₂:=by
 refine wpAny_newObj_type (wpAny_newFunctionEnv S.hcell (by intro y hy;simp at hy) (fun h₁ hns₁ hsb₁=>?_) S.kind)
 dsimp only at hns₁ hsb₁ ⊢
 generalize hH2:s₂.heap.push { cls:=.type "list",dict:=none,data:=.seq ([]:List Value).toArray }=HH at hns₁ hsb₁ ⊢
 generalize hDD:s₂.heap.objs.size=D at hns₁ hsb₁ ⊢
 have hC:HH.objs.size=D+1:=by rw [<- hH2,Heap.size_push,hDD]
 generalize hCC:HH.objs.size=C at hns₁ hsb₁ hC ⊢
 have hDC:D≠C:=by lia
 have below:∀ b,b < s₂.heap.objs.size->b≠C/\b≠D:=fun b hb=>by rw [hDD] at hb;exact ⟨by rw [hC];exact Nat.ne_of_lt (Nat.lt_succ_of_lt hb),Nat.ne_of_lt hb⟩
 have belowO:∀ {b o},s₂.heap.get? b=some o->b≠C/\b≠D:=fun {b o} e=>below b (Heap.lt_size e)
 have old:∀ b o,s₂.heap.get? b=some o->h₁.get? b=some o:=fun b o e=>hsb₁.extBut b o (belowO e).1 (Heap.get?_push_of_some _ (hH2 ▸ Heap.get?_push_of_some _ e))
 have hacc:h₁.get? D=some { cls:=.type "list",data:=.seq ([]:List Value).toArray }:=hsb₁.extBut _ _ hDC (Heap.get?_push_of_some _ (hH2 ▸ hDD ▸ Heap.get?_push_size _ rfl))
 have fpO:∀ b∈fp,∃ o,s₂.heap.get? b=some o:=fun b hb=>let ⟨o,e,_⟩:=T.obj _ _ st b hb;⟨o,e⟩
 have fpC:∀ b∈fp,b≠C/\b≠D:=fun b hb=>let ⟨o,e⟩:=fpO b hb;belowO e
 have sub:∀ {x c},(fJ X.env.cells scope.names []).lookup x=some c->X.env.cells.lookup x=some c:=fun {x c} e=>by
  rcases rT scope.names [] S.hfree e with z | z
  ·simp at z
  ·exact z
 have ltD:∀ {b o},s₂.heap.get? b=some o->b < D:=fun {b o} e=>by rw [<- hDD];exact Heap.lt_size e
 have fresh:∀ a,D<=a->H₂ a=none:=fun a ha=>I₂.hok.fresh (by rw [hDD];exact ha)
 have cellO:∀ {x c},X.env.cells.lookup x=some c->∃ o,s₂.heap.get? c=some o:=fun {x c} e=>let ⟨v,o,ho,_⟩:=I₂.cell x c e;⟨o,ho⟩
 have stkC:∀ b∈frs X.stack,∃ o,s₂.heap.get? b=some o:=fun b hb=>by
  rcases zAo.mp (I₂.stkSub b hb) with e | hb
  ·rw [e]
   obtain ⟨m,⟨o,_,_,ho,_⟩,_⟩:=I₂.loc
   exact ⟨o,ho⟩
  ·obtain ⟨_,o,ho,_⟩:=I₂.funs.mem hb
   exact ⟨o,ho⟩
 have nstk:∀ a,D<=a->a ∉ frs X.stack:=fun a ha hb=>by
  obtain ⟨o,e⟩:=stkC a hb
  exact absurd (Nat.lt_of_lt_of_le (ltD e) ha) (Nat.lt_irrefl _)
 have fpS:∀ b∈fp,b ∉ frs X.stack:=fun b hb z=>by
  obtain ⟨_,f1,f2,_⟩:=hf b hb
  rcases zAo.mp (I₂.stkSub b z) with e | e
  ·exact f1 e
  ·exact f2 e
 generalize hX':cxC X scope Nc C fp pins s₂ H₂=X'
 obtain ⟨hg,ht,he⟩:=hb C fp pins s₂ H₂
 rw [hX'] at hg ht he
 have ok':X'.Ok:=by
  subst hX'
  refine ⟨I₂.ok.mod,S.kind,I₂.ok.glob,I₂.ok.blt,?_,?_,?_,?_,I₂.ok.hd,I₂.ok.frames,.inl rfl,?_,I₂.bs,Nat.le_trans I₂.ok.bsz I₂.sz,?_,fpS,I₂.stack,I₂.stkFree⟩
  ·show s₂.heap.objs.size<=C
   lia
  ·exact fun x y c e1 e2=>I₂.ok.inj x y c (sub e1) (sub e2)
  ·intro x hx
   have hx:(relabel scope X.env).names.lookup x=some .cell\/(relabel scope X.env).names.lookup x=some .free:=hx
   have:∃ k',(x,k')∈scope.names/\k'=NameKind.free:=by
    rcases hx with z | z
    ·exact kJ S.hcell z (.inl rfl)
    ·exact kJ S.hcell z (.inr rfl)
   exact rW scope.names [] (.inl this)
  ·intro x c z
   exact absurd z (by show ¬ (false=true);simp)
  ·intro b hb
   exact ⟨(fpC b hb).1,fun x c e=>(hf b hb).2.2.2.2.1 x c (sub e)⟩
  ·intro b o e hb
   obtain ⟨_,_,_,f3,_⟩:=hf b hb
   rcases f3 with z | z
   ·exact I₂.ok.noex b o e z
   ·exact absurd (Nat.lt_of_lt_of_le (Heap.lt_size (I₂.ok.bs b o e).1) z) (Nat.lt_irrefl _)
 have eP:X'.prog=X.prog:=by subst hX';rfl
 have ew:X'.w=X.w:=by subst hX';rfl
 have eK:X'.K=X.K:=by subst hX';rfl
 have eA:X'.A=X.A:=by subst hX';rfl
 have eE:X'.xe=fun _ _=>False:=by subst hX';rfl
 have eL:X'.env.locals=C:=by subst hX';rfl
 have eN:X'.env=compEnvC scope (fJ X.env.cells scope.names []) C X.env:=by subst hX';rfl
 have ec:X'.calm=true:=by subst hX';exact hc
 have eS:X'.s₀=s₂:=by subst hX';rfl
 have eH:X'.H₀=H₂:=by subst hX';rfl
 have ef:X'.fs=frs X.stack:=by subst hX';rfl
 have ex:X'.ex=fp:=by subst hX';rfl
 have ep:X'.pn=X.pn++pins:=by subst hX';rfl
 have I0:Inv X' [] (capσ σ src) H₂ { s₂ with heap:=h₁,toks:=s₂.toks+([]:List (Str×Value)).length }:=by
  refine ⟨ok',by rw [eS],I₂.bare,by rw [eS,eH];exact Un.kept old,⟨_,by rw [eL];exact hns₁,?_⟩,?_,by rw [eL];exact fresh _ (by lia),?_,?_,by rw [eP,ew];exact I₂.hok.kept old,?_⟩
  ·intro j x v e1 e2 e3
   have e1:Nc[j]?=some x:=by subst hX';exact e1
   have e4:∃ i,src[j]?=some (some i)/\(σ[i]?).join=some v:=by
    unfold capσ at e2
    rw [zAb] at e2
    cases q:src[j]? with
    | none=>rw [q] at e2;cases e2
    | some o =>
     rw [q] at e2
     cases o with
     | none=>simp at e2
     | some i=>exact ⟨i,rfl,by simpa using e2⟩
   obtain ⟨i,e5,e6⟩:=e4
   obtain ⟨c1,c2,c3,c4⟩:=(hcaps C).get e1 e5
   have e7:σ[i]?=some (some v):=by
    cases q:σ[i]? with
    | none=>rw [q] at e6;simp at e6
    | some o=>rw [q] at e6;simp at e6;rw [e6]
   obtain ⟨m,_,hl⟩:=I₂.loc
   obtain ⟨u,r,l⟩:=hl i x v c1 e7 (.inr (by rcases c2 with z | z;exact .inl z;exact .inr z))
   refine ⟨u,r,?_⟩
   rcases l with ⟨k,_⟩ | ⟨_,c,e,z⟩
   ·rcases c2 with c2 | c2 <;> (rw [k] at c2;cases c2)
   ·refine .inr ⟨by rw [eN];exact c4,c,by rw [eN];exact c3.trans e,?_⟩
    obtain ⟨o,ho,hd⟩:=z
    exact ⟨o,old c o ho,hd⟩
  ·intro x c e
   rw [eN] at e
   obtain ⟨v,o,ho,hd⟩:=I₂.cell x c (sub e)
   exact ⟨v,o,old c o ho,hd⟩
  ·intro x c e
   rw [eN] at e
   exact I₂.freeC x c (sub e)
  ·intro p hp
   rw [ep,zAn] at hp
   obtain ⟨e,n,ne,nf,d⟩:=I₂.pin p hp
   refine ⟨old _ _ e,n,by rw [eL];exact (belowO e).1,?_,d⟩
   rw [ef]
   intro z
   rcases zAo.mp (I₂.stkSub _ z) with q | q
   ·exact ne q
   ·exact nf q
  ·have:=(hcaps C).len
   subst hX'
   show (capσ σ src).length=Nc.length
   unfold capσ
   rw [zA1,this]
 have pnD:∀ p∈X'.pn,p.1≠D:=fun p hp=>by
  rw [ep] at hp
  exact (belowO (I₂.pin p hp).1).2
 have cellD:∀ x c,X'.env.cells.lookup x=some c->c≠D:=fun x c e=>by
  rw [eN] at e
  obtain ⟨o,ho⟩:=cellO (sub e)
  exact (belowO ho).2
 have fpk:∀ {P:List (Addr×Obj)} {H:Hp},(∀ p∈P,p.1=D)->(∀ b∈fp,H b=none)->∀ b∈fp,qt X' P H b:=fun {P H} hP hn b hb=>by
  refine ⟨hn b hb,by rw [eL];exact (fpC b hb).1,by rw [ef];exact fpS b hb,.inl (by rw [ex];exact hb),fun x c e=>?_,fun p hp=>?_⟩
  ·rw [eN] at e
   exact (hf b hb).2.2.2.2.1 x c (sub e)
  ·rcases zA6.mp hp with z | z
   ·rw [ep] at z
    exact (hf b hb).2.2.2.2.2 p z
   ·rw [hP p z]
    exact (fpC b hb).2.symm
 obtain ⟨W,⟨m0,w0⟩,step⟩:=hW
 have loop:∀ s₃:Shared,s₃={ s₂ with heap:=h₁,toks:=s₂.toks+([]:List (Str×Value)).length } ->
   codeAny (model X.prog X.w) X.A (.compLoop (.ListComp elt [⟨tg,iter,ifs,0⟩] scope pos) 0 (.ref it) (.ref D) (compEnvC scope (fJ X.env.cells scope.names []) C X.env)) (RR (.ref D) C) s₃:=by
  rintro s₃ rfl
  refine qC (fun n s'=>∃ i ys us k σ' H',Inv X' [] σ' H' s'/\tn i s'.heap/\(∀ b∈fp,H' b=none)/\H' D=none/\s'.heap.get? D=some { cls:=.type "list",data:=.seq (List.toArray us) k }/\Vals ys us/\W i n ys σ' H') ?_ m0
   ⟨0,[],[],_,_,_,I0,T.keep _ _ _ st fun b _ o e=>old b o e,fun b hb=>(hf b hb).1,fresh _ (zA3 _),hacc,.nil,w0⟩
  rintro n s3 ⟨i,ys,us,k,σ3,H3,I3,st3,fr3,nD3,oD3,rv3,w3⟩
  obtain ⟨hsz,cases3⟩:=step i n ys σ3 H3 w3
  have I3':Inv X' [(D,{ cls:=.type "list",data:=.seq us.toArray k })] σ3 H3 s3:=I3.pins_of fun p hp=>by
   rw [List.mem_singleton.mp hp]
   exact ⟨oD3,nD3,by rw [eL];exact hDC,by rw [ef];exact nstk _ (zA3 _),fun v z=>by cases z⟩
  have oneD:∀ p∈[(D,({ cls:=.type "list",data:=.seq us.toArray k }:Obj))],p.1=D:=fun p hp=>by rw [List.mem_singleton.mp hp]
  rcases cases3 with ⟨stop,fin⟩ | ⟨go,turn⟩
  ·-- the end
   have hd:=T.done X' eP ew eK ec i _ s3 σ3 H3 (fun _ _=>False) I3' (fpk oneD fr3) st3 stop
   rw [eA] at hd
   refine thn hd fun r s4 ⟨hr,I4⟩=>?_
   subst hr
   have pD:=I4.pin (D,{ cls:=.type "list",data:=.seq us.toArray k }) (List.mem_append_right _ (List.mem_singleton.mpr rfl))
   obtain ⟨mC,hnC,_⟩:=I4.loc
   rw [eL] at hnC
   have un4:=I4.base
   rw [eS,eH,ef,ex] at un4
   have hlen:ys.length<=sizeLine:=Nat.le_of_lt hsz
   have hok4:HOk X.prog X.w (upd H3 D (.lst ys)) s4.heap:=fun b u e=>by
    by_cases hb:b=D
    ·subst hb
     rw [ao] at e
     cases e
     exact ⟨hlen,us,k,rv3,pD.1⟩
    ·rw [aD hb] at e
     have z:=I4.hok b u e
     rw [eP,ew] at z
     exact z.stay (fun c v _ q=>q) (fun c q=>by rw [aD (aF q nD3)];exact q) fun c xs q=>by rw [aD (aF q nD3)];exact q
   have un:Un (frs X.stack) fp H₂ (upd H3 D (.lst ys)) s₂.heap s4.heap:=⟨un4.keep,un4.slot,fun b o e n hx=>by rw [aD (belowO e).2];exact un4.free b o e n hx,un4.there,
    fun b xs e=>by
     have z:=un4.tups b xs e
     rw [aD (aF z nD3)];exact z,
    fun b o u e=>by
     have z:=un4.frzs b o u e
     rw [aD (aF z nD3)];exact z,
    fun b ps e=>by
     obtain ⟨mo,z⟩:=un4.tbls b ps e
     exact ⟨mo,by rw [aD (aF z nD3)];exact z⟩⟩
   have J4:Inv X pins σ (upd H3 D (.lst ys)) s4:=I₂.call' (ch:=fp) (by have:=I4.os;rw [eS] at this;exact this) un hok4 I4.bare fun b hb=>by
    obtain ⟨_,f1,f2,f3,f4,f5⟩:=hf b hb
    exact ⟨f3,f1,f4,f5⟩
   refine hRR D C s4 ys H3 mC fin nD3 J4 hnC ⟨?_,?_,?_,.inr ?_,?_,?_⟩
   ·rw [aD hDC.symm]
    have:=I4.free
    rw [eL] at this
    exact this
   ·have:=I₂.lt
    rw [hDD] at this
    exact Nat.ne_of_gt (Nat.lt_of_lt_of_le this (by rw [hC];exact Nat.le_succ _))
   ·intro z
    obtain ⟨_,o,ho,_⟩:=I₂.funs.mem z
    exact (belowO ho).1 rfl
   ·have:=I₂.sz
    rw [hDD] at this
    lia
   ·intro x c e z
    obtain ⟨o,ho⟩:=cellO e
    exact (belowO ho).1 z
   ·intro p hp z
    exact (belowO (I₂.pin p hp).1).1 z
  ·-- a turn
   have hd:=T.item X' eP ew eK ec i _ s3 σ3 H3 (fun _ _=>False) I3' (fpk oneD fr3) st3 go
   rw [eA] at hd
   refine thn hd fun r s4 ⟨u,hr,h4⟩=>?_
   subst hr
   refine thn h4 fun _ s5 ⟨x,H5,I5,r5,y5,st5,fr5⟩=>?_
   have I5':=I5.pinned (fpk oneD fr5) (T.obj _ _ st5)
   have hg':=hg _ s5 σ3 H5 x u _ I5' r5 (turn x H5 y5)
   rw [eP,ew,eA,eE,eN] at hg'
   refine thn hg' fun _ s6 ⟨σ6,H6,I6,q6⟩=>?_
   have ht':=ht _ s6 σ6 H6 _ I6 q6
   rw [eP,ew,eA,eE,eN] at ht'
   refine thn ht' fun okb s7 ⟨H7,I7,q7⟩=>?_
   have back:∀ {H8:Hp} {s8:Shared},Inv X' ([(D,({ cls:=.type "list",data:=.seq us.toArray k }:Obj))]++lZ fp s5.heap) σ6 H8 s8 ->
     Inv X' [] σ6 H8 s8/\tn (i+1) s8.heap/\(∀ b∈fp,H8 b=none)/\H8 D=none/\s8.heap.get? D=some { cls:=.type "list",data:=.seq us.toArray k }/\(∀ b∈fp,∀ o,s5.heap.get? b=some o->s8.heap.get? b=some o):=fun {H8 s8} I8=>by
    have pD:=I8.pin (D,{ cls:=.type "list",data:=.seq us.toArray k }) (List.mem_append_right _ (List.mem_append_left _ (List.mem_singleton.mpr rfl)))
    have pf:∀ b∈fp,∀ o,s5.heap.get? b=some o->s8.heap.get? b=some o:=fun b hb o e=>(I8.pin (b,o) (List.mem_append_right _ (List.mem_append_right _ (fY hb e)))).1
    refine ⟨I8.pins_of fun p hp=>absurd hp (by simp),T.keep _ _ _ st5 pf,fun b hb=>?_,pD.2.1,pD.1,pf⟩
    obtain ⟨o,e,d⟩:=T.obj _ _ st5 b hb
    exact (I8.pin (b,o) (List.mem_append_right _ (List.mem_append_right _ (fY hb e)))).2.1
   cases okb with
   | false =>
    obtain ⟨b1,b2,b3,b4,b5,_⟩:=back I7
    obtain ⟨m',hm,w7⟩:=q7
    exact ⟨m',hm,i+1,ys,us,k,σ6,H7,b1,b2,b3,b4,b5,rv3,w7⟩
   | true =>
    have he':=he _ s7 σ6 H7 _ I7 q7
    rw [eP,ew,eA,eE,eN] at he'
    show wpAny _ _ (eval elt _) _ _ s7
    refine thn he' fun xv s8 ⟨y,H8,I8,r8,m',hm,w8⟩=>?_
    obtain ⟨b1,b2,b3,b4,b5,b6⟩:=back I8
    refine append_at (hsz:=by rw [zA8,<- rv3.length];exact Nat.le_of_lt hsz) b5 fun h9 hs9 hD9=>?_
    have I9:Inv X' [] σ6 H8 { s8 with heap:=h9 }:=b1.turned (t':=s8.toks) (fun b o hb e=>hs9.extBut b o hb e) b4 (by rw [eL];exact hDC) (.inr (by rw [eS,hDD];exact zA3 _)) cellD fun p hp=>by
     rw [zAn] at hp
     exact pnD p hp
    refine ⟨m',hm,i+1,ys++[y],us++[xv],k+1,σ6,H8,I9,T.keep _ _ _ b2 fun b hb o e=>hs9.extBut b o (fpC b hb).2 e,b3,b4,?_,rv3.append (.cons r8 .nil),w8⟩
    show h9.get? D=_
    rw [hD9,List.push_toArray]
 refine codeAny_compStart_list (loop _ rfl) ?_
 exact T.self _ 0 _ _ _ (T.keep _ _ _ st fun b _ o e=>old b o e) (loop _ rfl)

def vL (wi:TI)(src:List (Option Nat))(g:TG)(tt:TT)(te:TE):TE:=fun σ H Q=>wi σ H fun J H1=>j9 J g tt te (fun ys H'=>∀ D,H' D=none->Q (.ref D) (upd H' D (.lst ys))) (capσ σ src) H1
section
variable {X:Cx}{tg iter elt:Expr}{ifs:List Expr}{scope:Scope}{pos:Pos}{Nc:List Str}{wi:TI}{g:TG}{tt:TT}{te:TE}
theorem bZ (Nc:List Str)(src:List (Option Nat))(hc:X.calm=true)(hi:PI X tg iter wi)
  (hb:∀ C fp pins s₂ H₂,PG (cxC X scope Nc C fp pins s₂ H₂) tg g/\PTs (cxC X scope Nc C fp pins s₂ H₂) ifs tt/\PE (cxC X scope Nc C fp pins s₂ H₂) elt te)
  (hcaps:∀ C,Caps X (compEnvC scope (fJ X.env.cells scope.names []) C X.env) Nc src) (S:CScope X scope)
  (hs:∀ x,foldedSetIterable iter X.env x=pure x:=by intro _;rfl):PE X (.ListComp elt [⟨tg,iter,ifs,0⟩] scope pos) (vL wi src g tt te):=by
 intro pins s σ H Q I h
 rw [eval_ListComp]
 refine wpAny_comprehension_free (use:=none) rfl hs (vK S.hfree) S.kind S.hnames ?_
 refine thn (hi pins s σ H _ I h) fun v s1 h1=>thn h1 fun itv s2 h2=>?_
 obtain ⟨it,fp,tn,J,H2,e,I2,T,st2,f2,hW⟩:=h2
 subst e
 refine pG (RR:=fun acc C=>compPost (model X.prog X.w) X.A X.xe none (EP X pins σ Q) acc C) hc S hcaps hb I2 T st2 f2 hW ?_
 intro D C s' ys H' m fin nD J' hn fC
 obtain ⟨f0,f1,_,f3,f4,f5⟩:=fC
 refine ⟨m,hn,fun h'' hs''=>?_⟩
 exact ⟨.ref D,_,J'.turned (t':=s'.toks) (fun b o hb e=>hs''.extBut b o hb e) f0 f1 f3 f4 f5,rfl,fin D nD⟩
def En (wi:TI)(src:List (Option Nat))(g:TG)(tt:TT)(te:TE)(i:Nat):TS:=fun D σ H=>vL wi src g tt te σ H fun v H'=>D.nx (σ.set i (some v)) H'
theorem jb {i:Nat}{x:Str}{pos' spos:Pos}(Nc:List Str)(src:List (Option Nat))(hc:X.calm=true)(hN:X.N.Nodup)(hi':X.N[i]?=some x)(hx:Loc X.env.scope x)(hi:PI X tg iter wi)
  (hb:∀ C fp pins s₂ H₂,PG (cxC X scope Nc C fp pins s₂ H₂) tg g/\PTs (cxC X scope Nc C fp pins s₂ H₂) ifs tt/\PE (cxC X scope Nc C fp pins s₂ H₂) elt te)
  (hcaps:∀ C,Caps X (compEnvC scope (fJ X.env.cells scope.names []) C X.env) Nc src) (S:CScope X scope)
  (hsw:swapsWith (.ListComp elt [⟨tg,iter,ifs,0⟩] scope pos) (some (.Name x pos')) spos.line X.env=pure true:=by rfl)
  (hf:X.fn x=true\/X.env.scope.names.lookup x=some .local:=by first | exact .inl rfl | exact .inr rfl | assumption)
  (hs:∀ x,foldedSetIterable iter X.env x=pure x:=by intro _;rfl):PS X (.Assign [.Name x pos'] (.ListComp elt [⟨tg,iter,ifs,0⟩] scope pos) spos) (En wi src g tt te i):=by
 intro pins s σ H D I h
 rw [exec_Assign_Name_used _ _ _ _ hsw]
 refine wpAny_bind (wpAny_standAt (wpAny_bind ?_))
 show wpAny _ _ (do let _ <- comprehension (.ListComp elt [⟨tg,iter,ifs,0⟩] scope pos) scope X.env _ (newList []) false (eval iter X.env) (some (assign (.Name x pos') X.env))) _ _ s
 refine wpAny_bind (thn (wpAny_comprehension_free (use:=some (assign (.Name x pos') X.env)) (Q:=fun _ s'=>∃ σ' H',Inv X pins σ' H' s'/\D.nx σ' H') rfl hs (vK S.hfree) S.kind S.hnames ?_) fun _ s' hq=>wpAny_pure (wpAny_pure hq))
 refine thn (hi pins s σ H _ I h) fun v s1 h1=>thn h1 fun itv s2 h2=>?_
 obtain ⟨it,fp,tn,J,H2,e,I2,T,st2,f2,hW⟩:=h2
 subst e
 refine pG (RR:=fun acc C=>compPost (model X.prog X.w) X.A X.xe (some (assign (.Name x pos') X.env)) (fun _ s'=>∃ σ' H',Inv X pins σ' H' s'/\D.nx σ' H') acc C) hc S hcaps hb I2 T st2 f2 hW ?_
 intro A C s' ys H' m fin nD J' hn fC
 obtain ⟨f0,f1,f2',f3,f4,f5⟩:=fC
 refine wpAny_assign_Name (oU J' hN hi' hx (v:=.ref A) rfl (fun s'' J'' hsb=>?_) hf)
 have hn2:∃ m',s''.heap.Ns C m':=by
  obtain ⟨a,sb,ha⟩:=hsb
  have hne:C≠a:=by
   rcases ha with z | z
   ·rw [z];exact f1
   ·exact fun q=>f4 x a z q.symm
  exact ⟨m,hn.sameBut sb hne⟩
 obtain ⟨m',hn2⟩:=hn2
 refine ⟨m',hn2,fun h'' hs''=>?_⟩
 exact ⟨_,_,J''.turned (t':=s''.toks) (fun b o hb e=>hs''.extBut b o hb e) f0 f1 f3 f4 f5,fin A nD⟩
end

end L2

namespace L2
open PySem PySem.Spec PyProof.Rows
section
variable {X:Cx}
theorem gH:fj X (.builtin "isinstance") (fun xs H Q=>∃ x t n b,xs=[x,.ty n]/\TyOf X.K H x t/\PySem.W.kitOne X.K t (.type n)=some b/\Q (.bl b) H):=by
 intro pins s σ H xs us Q I r h
 obtain ⟨x,t,n,b,rfl,ty,e,q⟩:=h
 obtain ⟨u,c,rfl,ru,rc⟩:=vals2 r
 obtain rfl:c=Value.type n:=rc
 exact xj I ru ty e fun tk=>⟨.bl b,H,I.tok _,rfl,q⟩
theorem rY {prog:Program}{w:World}{A:Around}(bs:List Bool):TruthOf prog w A (fun i v=>∃ b,bs[i]?=some b/\v=Value.bool b) (fun i=>(bs[i]?).getD false):=by
 intro i v s Q E hP hQ
 obtain ⟨b,hb,rfl⟩:=hP
 dsimp only at hQ
 rw [hb] at hQ
 exact wpAny_truthy_bool hQ
theorem all_range (bs:List Bool):(List.range bs.length).all (fun i=>(bs[i]?).getD false)=bs.all id:=by
 apply Bool.eq_iff_iff.mpr
 rw [List.all_eq_true,List.all_eq_true]
 constructor
 ·intro h b hb
  obtain ⟨i,hi,e⟩:=List.getElem_of_mem hb
  have:=h i (List.mem_range.mpr hi)
  rw [zA0 hi,e] at this
  exact this
 ·intro h i hi
  have hi:=List.mem_range.mp hi
  rw [zA0 hi]
  exact h _ (zAh hi)
theorem mF:∀ {bs:List Bool} {us:List Value},Vals (bs.map V.bl) us->us=bs.map Value.bool
 | [],_,.nil=>rfl
 | _::bs,_,.cons r t=>by
  rw [mF (bs:=bs) t,show _=Value.bool _ from r]
  rfl
theorem dM (hc:X.calm=true):fj X (.builtin "all") (fun xs H Q=>∃ (p:Addr) (bs:List Bool),xs=[.ref p]/\SqL X.K H p (bs.map V.bl)/\Q (.bl (bs.all id)) H):=by
 intro pins s σ H xs us Q I r h
 obtain ⟨p,bs,rfl,hq,q⟩:=h
 obtain ⟨u,rfl,ru⟩:=vals1 r
 cases ru
 obtain ⟨its,rv,pl,hz⟩:=I.list hq
 have ei:=mF rv
 subst ei
 have hlt:p < s.heap.objs.size:=by obtain ⟨_,e,_⟩:=pl.isList;exact Heap.lt_size e
 refine call_all_walk (wpAny_pyIter_list pl.isList ?_)
 have W:=Walks.list (prog:=X.prog) (w:=X.w) (A:=X.A.in1) (I.ok.hd hc) s.heap.objs.size p (Nat.ne_of_lt hlt) (bs.map Value.bool).toArray
 refine ⟨_,_,_,_,_,_,_,rfl,{ sub:=W.sub,frame:=W.frame,item:=fun i s Q E hi st hQ=>W.item i s Q E hi st fun v h' tk hP=>hQ v h' tk ?_,done:=W.done,self:=W.self },⟨⟨_,Heap.get?_push_size _ rfl,rfl,rfl⟩,pl.isList.push _⟩,rY bs,fun h' tk k=>?_⟩
 ·have hP':(bs.map Value.bool).toArray[i]?=some v:=hP
  rw [List.getElem?_toArray,zAb] at hP'
  cases e:bs[i]? with
  | none=>rw [e] at hP';cases hP'
  | some b=>rw [e] at hP';exact ⟨b,rfl,(zAl hP').symm⟩
 ·have hsz:(bs.map Value.bool).toArray.size=bs.length:=by simp
  rw [hsz,all_range]
  refine ⟨.bl _,H,?_,rfl,q⟩
  refine I.kept (h':=h') (t':=tk) fun b o e=>k b o ?_ (Heap.get?_push_of_some _ e)
  intro z
  have:b=s.heap.objs.size:=by simpa using z
  exact absurd (Heap.lt_size e) (by rw [this];exact Nat.lt_irrefl _)
end
theorem jG {K:PySem.W.Frag}:PySem.W.kitOne K (.type "NoneType") (.type "int")=some false:=by kernel_rfl
theorem jc {K:PySem.W.Frag}:PySem.W.kitOne K (.type "NoneType") (.type "bool")=some false:=by kernel_rfl
theorem iK {K:PySem.W.Frag}:PySem.W.kitOne K (.type "NoneType") (.type "tuple")=some false:=by kernel_rfl
theorem qD {K:PySem.W.Frag}:PySem.W.kitOne K (.type "bool") (.type "int")=some true:=by kernel_rfl
theorem o9 {K:PySem.W.Frag}:PySem.W.kitOne K (.type "bool") (.type "bool")=some true:=by kernel_rfl
theorem mG {K:PySem.W.Frag}:PySem.W.kitOne K (.type "bool") (.type "tuple")=some false:=by kernel_rfl
theorem rZ {K:PySem.W.Frag}:PySem.W.kitOne K (.type "int") (.type "int")=some true:=by kernel_rfl
theorem qF {K:PySem.W.Frag}:PySem.W.kitOne K (.type "int") (.type "bool")=some false:=by kernel_rfl
theorem oh {K:PySem.W.Frag}:PySem.W.kitOne K (.type "int") (.type "tuple")=some false:=by kernel_rfl
theorem su {K:PySem.W.Frag}:PySem.W.kitOne K (.type "str") (.type "int")=some false:=by kernel_rfl
theorem qG {K:PySem.W.Frag}:PySem.W.kitOne K (.type "str") (.type "bool")=some false:=by kernel_rfl
theorem ou {K:PySem.W.Frag}:PySem.W.kitOne K (.type "str") (.type "tuple")=some false:=by kernel_rfl
theorem qH {K:PySem.W.Frag}:PySem.W.kitOne K (.type "list") (.type "int")=some false:=by kernel_rfl
theorem oA {K:PySem.W.Frag}:PySem.W.kitOne K (.type "list") (.type "bool")=some false:=by kernel_rfl
theorem mH {K:PySem.W.Frag}:PySem.W.kitOne K (.type "list") (.type "tuple")=some false:=by kernel_rfl
theorem oE {K:PySem.W.Frag}:PySem.W.kitOne K (.type "tuple") (.type "int")=some false:=by kernel_rfl
theorem mJ {K:PySem.W.Frag}:PySem.W.kitOne K (.type "tuple") (.type "bool")=some false:=by kernel_rfl
theorem lz {K:PySem.W.Frag}:PySem.W.kitOne K (.type "tuple") (.type "tuple")=some true:=by kernel_rfl
theorem qI {K:PySem.W.Frag}:PySem.W.kitOne K (.type "dict") (.type "int")=some false:=by kernel_rfl
theorem oF {K:PySem.W.Frag}:PySem.W.kitOne K (.type "dict") (.type "bool")=some false:=by kernel_rfl
theorem mK {K:PySem.W.Frag}:PySem.W.kitOne K (.type "dict") (.type "tuple")=some false:=by kernel_rfl
end L2

namespace L2
open PySem PySem.Spec PyProof.Rows

section
variable {κ:Type}[DecidableEq κ]
def cX (kvs:List (κ×V))(k:κ):Option V:=(kvs.find? fun kv=>decide (kv.1=k)).map (·.2)
def putK (kvs:List (κ×V))(k:κ)(v:V):List (κ×V) :=
 if (kvs.any fun kv=>decide (kv.1=k))=true then kvs.map (fun kv=>if kv.1=k then (kv.1,v) else kv) else kvs++[(k,v)]
theorem cH {p:κ×V}{r:List (κ×V)}{k:κ}(e:p.1=k):cX (p::r) k=some p.2:=by simp [cX,List.find?_cons,e]
theorem cJ {p:κ×V}{r:List (κ×V)}{k:κ}(e:¬ p.1=k):cX (p::r) k=cX r k:=by simp [cX,List.find?_cons,e]
theorem jd (k:κ):∀ kvs:List (κ×V),(kvs.any fun kv=>decide (kv.1=k))=(cX kvs k).isSome
 | []=>rfl
 | p::r=>by
  rw [List.any_cons]
  by_cases e:p.1=k
  ·simp only [cH e,decide_eq_true e,Bool.true_or,Option.isSome_some]
  ·rw [cJ e,decide_eq_false e,Bool.false_or];exact jd k r
theorem sy (k j:κ)(y:V):∀ kvs:List (κ×V),cX (kvs.map fun kv=>if kv.1=k then (kv.1,y) else kv) j=(cX kvs j).map fun x=>if j=k then y else x
 | []=>rfl
 | p::r=>by
  have ih:=sy k j y r
  rw [zAk]
  by_cases h:p.1=k
  ·rw [if_pos h]
   by_cases e:p.1=j
   ·rw [cH (p:=(p.1,y)) e,cH e,Option.map_some,if_pos (e.symm.trans h)]
   ·rw [cJ (p:=(p.1,y)) e,cJ e,ih]
  ·rw [if_neg h]
   by_cases e:p.1=j
   ·rw [cH (p:=p) e,cH e,Option.map_some,if_neg (fun z=>h (e.trans z))]
   ·rw [cJ (p:=p) e,cJ e,ih]
theorem pH (k j:κ)(y:V):∀ kvs:List (κ×V),cX kvs k=none->cX (kvs++[(k,y)]) j=if j=k then some y else cX kvs j
 | [],_=>by
  by_cases e:k=j
  ·rw [if_pos e.symm];exact cH (p:=(k,y)) e
  ·rw [if_neg (fun z=>e z.symm)];exact cJ (p:=(k,y)) e
 | p::r,hn=>by
  rw [List.cons_append]
  have hk:¬ p.1=k:=fun z=>by rw [cH z] at hn;cases hn
  rw [cJ hk] at hn
  have ih:=pH k j y r hn
  by_cases e:p.1=j
  ·rw [cH e,cH e,if_neg (fun z=>hk (e.trans z))]
  ·rw [cJ e,cJ e,ih]
theorem dN (kvs:List (κ×V))(k j:κ)(y:V):cX (putK kvs k y) j=if j=k then some y else cX kvs j:=by
 unfold putK
 by_cases a:(kvs.any fun kv=>decide (kv.1=k))=true
 ·rw [if_pos a,sy]
  rw [jd] at a
  by_cases e:j=k
  ·obtain ⟨x,hx⟩:=Option.isSome_iff_exists.mp a
   rw [if_pos e,e,hx,Option.map_some,if_pos rfl]
  ·rw [if_neg e]
   cases cX kvs j with
   | none=>rfl
   | some x=>rw [Option.map_some,if_neg e]
 ·rw [if_neg a]
  refine pH k j y kvs ?_
  rw [jd] at a
  cases q:cX kvs k with
  | none=>rfl
  | some x=>rw [q] at a;exact (a rfl).elim
theorem cF (kvs:List (κ×V))(k:κ)(v:V):(putK kvs k v).length<=kvs.length+1:=by
 unfold putK
 split
 ·rw [zA1];lia
 ·rw [zA2,zAe,List.length_nil];lia
theorem RelO.isSome_eq {o:Option V}{u:Option Value}(r:RelO o u):o.isSome=u.isSome:=by
 cases o with
 | none=>cases u with
  | none=>rfl
  | some _=>exact (show False from r).elim
 | some _=>cases u with
  | none=>exact (show False from r).elim
  | some _=>rfl
theorem RelO.getD {o:Option V}{u:Option Value}{d:V}{d':Value}(r:RelO o u)(rd:RelV d d'):RelV (o.getD d) (u.getD d'):=by
 cases o with
 | none=>cases u with
  | none=>exact rd
  | some _=>exact (show False from r).elim
 | some _=>cases u with
  | none=>exact (show False from r).elim
  | some _=>exact r

theorem KV.val {kvs:List (κ×V)}{vs:List (κ×Value)}(r:KV kvs vs)(k:κ):RelO (cX kvs k) (valueAt vs k):=by
 unfold KV at r
 induction r with
 | nil=>exact True.intro
 | @cons p q ps qs h t ih =>
  obtain ⟨h1,h2⟩:=h
  by_cases e:p.1=k
  ·have e':q.1=k:=h1.symm.trans e
   have b:valueAt (q::qs) k=some q.2:=by simp [valueAt,List.find?_cons,e']
   rw [cH e,b];exact h2
  ·have e':¬ q.1=k:=fun z=>e (h1.trans z)
   have b:valueAt (q::qs) k=valueAt qs k:=by simp [valueAt,List.find?_cons,e']
   rw [cJ e,b];exact ih
theorem KV.any {kvs:List (κ×V)}{vs:List (κ×Value)}(r:KV kvs vs)(k:κ):(kvs.any fun kv=>decide (kv.1=k))=vs.any fun kv=>decide (kv.1=k):=by
 unfold KV at r
 induction r with
 | nil=>rfl
 | cons h t ih=>rw [List.any_cons,List.any_cons,ih,h.1]
theorem KV.repl {kvs:List (κ×V)}{vs:List (κ×Value)}(r:KV kvs vs)(k:κ){y:V}{u:Value}(ry:RelV y u) :
  KV (kvs.map fun kv=>if kv.1=k then (kv.1,y) else kv) (vs.map fun kv=>if kv.1=k then (kv.1,u) else kv):=by
 unfold KV at r ⊢
 induction r with
 | nil=>exact .nil
 | @cons p q ps qs h t ih =>
  rw [zAk,zAk]
  refine .cons ?_ ih
  obtain ⟨h1,h2⟩:=h
  by_cases e:p.1=k
  ·rw [if_pos e,if_pos (h1.symm.trans e)];exact ⟨h1,ry⟩
  ·rw [if_neg e,if_neg (fun z=>e (h1.trans z))];exact ⟨h1,h2⟩
theorem KV.put {kvs:List (κ×V)}{vs:List (κ×Value)}(r:KV kvs vs)(k:κ){y:V}{u:Value}(ry:RelV y u):KV (putK kvs k y) (stored vs k u):=by
 unfold putK stored
 rw [r.any k]
 by_cases e:(vs.any fun kv=>decide (kv.1=k))=true
 ·rw [if_pos e,if_pos e];exact r.repl k ry
 ·rw [if_neg e,if_neg e];exact Paired.snoc r ⟨rfl,ry⟩
theorem KV.length {kvs:List (κ×V)}{vs:List (κ×Value)}(r:KV kvs vs):kvs.length=vs.length:=Paired.length r
end


theorem sE {P:Program}{w:World}{k:Key}{u:Value}(r:RelV (kV k) u):(bW P w).is k u=true:=by
 cases k with
 | inl i=>obtain ⟨t,e⟩:=(show ∃ t,u=Value.int i t from r);subst e;exact rG P w i t
 | inr x=>obtain ⟨t,e⟩:=(show ∃ t,u=Value.str x t from r);subst e;exact rH P w x t
theorem pI {P:Program}{w:World}:∀ {ks:List Key} {us:List Value},Vals (ks.map kV) us->ItemsAre (bW P w) ks us
 | [],_,r=>by rw [List.map_nil] at r;cases r;exact .nil
 | k::ks,_,r=>by
  rw [zAk] at r
  cases r with
  | cons h t=>exact .cons (sE h) (pI t)

abbrev KT (H:Hp):List (List Key×V)->List (List Key×Addr×Value)->Prop:=Paired fun p q=>p.1=q.1/\H q.2.1=some (.tup (p.1.map kV))/\RelV p.2 q.2.2
theorem KT.val {H:Hp}{kvs:List (List Key×V)}{xs:List (List Key×Addr×Value)}(r:KT H kvs xs)(k:List Key):RelO (cX kvs k) ((atKey xs k).map (·.2)):=by
 induction r with
 | nil=>exact True.intro
 | @cons p q ps qs h t ih =>
  obtain ⟨h1,_,h2⟩:=h
  by_cases e:p.1=k
  ·have e':q.1=k:=h1.symm.trans e
   have b:atKey (q::qs) k=some q.2:=by simp [atKey,List.find?_cons,e']
   rw [cH e,b];exact h2
  ·have e':¬ q.1=k:=fun z=>e (h1.trans z)
   have b:atKey (q::qs) k=atKey qs k:=by simp [atKey,List.find?_cons,e']
   rw [cJ e,b];exact ih
theorem KT.repl {H:Hp}{kvs:List (List Key×V)}{xs:List (List Key×Addr×Value)}(r:KT H kvs xs)(k:List Key){y:V}{u:Value}(ry:RelV y u) :
  KT H (kvs.map fun kv=>if kv.1=k then (kv.1,y) else kv) (xs.map (putAt k u)):=by
 induction r with
 | nil=>exact .nil
 | @cons p q ps qs h t ih =>
  rw [zAk,zAk]
  refine .cons ?_ ih
  obtain ⟨h1,h2,h3⟩:=h
  unfold putAt
  by_cases e:p.1=k
  ·rw [if_pos e,if_pos (h1.symm.trans e)];exact ⟨h1,h2,ry⟩
  ·rw [if_neg e,if_neg (fun z=>e (h1.trans z))];exact ⟨h1,h2,h3⟩
theorem KT.put {H:Hp}{kvs:List (List Key×V)}{xs:List (List Key×Addr×Value)}(r:KT H kvs xs)(k:List Key){b:Addr}{y:V}{u:Value}(hb:H b=some (.tup (k.map kV)))(ry:RelV y u) :
  KT H (putK kvs k y) (storedH xs k b u):=by
 have e:(kvs.any fun kv=>decide (kv.1=k))=(atKey xs k).isSome:=by
  rw [jd,(r.val k).isSome_eq,Option.isSome_map]
 unfold putK storedH
 rw [e]
 by_cases q:(atKey xs k).isSome=true
 ·rw [if_pos q,if_pos q];exact r.repl k ry
 ·rw [if_neg q,if_neg q];exact Paired.snoc r ⟨rfl,hb,ry⟩
theorem KT.keeps {H H':Hp}{kvs:List (List Key×V)}{xs:List (List Key×Addr×Value)}(r:KT H kvs xs)(ht:∀ b ys,H b=some (.tup ys)->H' b=some (.tup ys)):KT H' kvs xs :=
 Paired.mapP r fun _ _ z=>⟨z.1,ht _ _ z.2.1,z.2.2⟩

section
variable {P:Program}{w:World}{H:Hp}{h:Heap}{a:Addr}
theorem Dk {u:HO}(ok:HOk P w H h)(e:Rd H a u):ObjOk P w H h a u:=e.ok ok
theorem sG {kvs:List (Key×V)}(ok:HOk P w H h)(e:Rd H a (.dK kvs)):kvs.length<=sizeLine/\(a == sysModules)=false/\∃ vs,KV kvs vs/\h.DictOf (bW P w) a vs :=
 show ObjOk P w H h a (.dK kvs) from Dk ok e
theorem Dl {kvs:List (Key×V)}(ok:HOk P w H h)(e:H a=some (.dK kvs)):kvs.length<=sizeLine/\(a == sysModules)=false/\∃ vs,KV kvs vs/\h.DictOf (bW P w) a vs:=sG ok (.inl e)
theorem qJ {ks:List Key}(ok:HOk P w H h)(e:H a=some (.tup (ks.map kV))):(tupleKind (bW P w)).is h ks a:=by
 obtain ⟨_,its,r,o,h1,h2,n,h3⟩:=(show ObjOk P w H h a (.tup (ks.map kV)) from ok a _ e)
 exact ⟨o,its.toArray,n,h1,h2,h3,by simpa using pI r⟩
theorem sI {kvs:List (List Key×V)}(ok:HOk P w H h)(e:Rd H a (.dT kvs)):kvs.length<=sizeLine/\(a == sysModules)=false /\
  ∃ xs,KT H kvs xs/\h.DictOfH (tupleKind (bW P w)) a xs:=by
 obtain ⟨z,y,xs,r,o,es,ep,h1,h2,h3,h4,h5⟩:=(show ObjOk P w H h a (.dT kvs) from Dk ok e)
 refine ⟨z,y,xs,r,o,es,ep,h1,h2,h3,h4,fun x hx=>?_,h5⟩
 have all:∀ {l:List (List Key×V)} {m:List (List Key×Addr×Value)},KT H l m->∀ x∈m,(tupleKind (bW P w)).is h x.1 x.2.1:=by
  intro l m q
  induction q with
  | nil=>intro x hx;exact nomatch hx
  | @cons p q ps qs hq t ih =>
   intro x hx
   rcases zAo.mp hx with e | hx
   ·subst e
    exact qJ ok (by rw [<- hq.1];exact hq.2.1)
   ·exact ih x hx
 exact all r x hx
theorem Gh {kvs:List (List Key×V)}(ok:HOk P w H h)(e:H a=some (.dT kvs)):kvs.length<=sizeLine/\(a == sysModules)=false /\
  ∃ xs,KT H kvs xs/\h.DictOfH (tupleKind (bW P w)) a xs:=sI ok (.inl e)
end

def DGet (H:Hp)(a:Addr)(y:V)(r:Option V):Prop :=
 (∃ kvs k,Rd H a (.dK kvs)/\y=kV k/\r=cX kvs k)\/∃ kvs k b,Rd H a (.dT kvs)/\y=.ref b/\H b=some (.tup (k.map kV))/\r=cX kvs k
def DPut (H:Hp)(a:Addr)(y v:V)(H':Hp):Prop :=
 (∃ kvs k,H a=some (.dK kvs)/\y=kV k/\kvs.length < sizeLine/\H'=upd H a (.dK (putK kvs k v))) \/
 ∃ kvs k b,H a=some (.dT kvs)/\y=.ref b/\H b=some (.tup (k.map kV))/\kvs.length < sizeLine/\H'=upd H a (.dT (putK kvs k v))
theorem DGet.k {H:Hp}{a:Addr}{kvs:List (Key×V)}{k:Key}(e:H a=some (.dK kvs)):DGet H a (kV k) (cX kvs k):=.inl ⟨kvs,k,.inl e,rfl,rfl⟩
theorem DGet.t {H:Hp}{a b:Addr}{kvs:List (List Key×V)}{k:List Key}(e:H a=some (.dT kvs))(eb:H b=some (.tup (k.map kV))):DGet H a (.ref b) (cX kvs k):=.inr ⟨kvs,k,b,.inl e,rfl,eb,rfl⟩
theorem DPut.k {H:Hp}{a:Addr}{kvs:List (Key×V)}{k:Key}{v:V}(e:H a=some (.dK kvs))(hl:kvs.length < sizeLine):DPut H a (kV k) v (upd H a (.dK (putK kvs k v))):=.inl ⟨kvs,k,e,rfl,hl,rfl⟩
theorem DPut.t {H:Hp}{a b:Addr}{kvs:List (List Key×V)}{k:List Key}{v:V}(e:H a=some (.dT kvs))(eb:H b=some (.tup (k.map kV)))(hl:kvs.length < sizeLine) :
  DPut H a (.ref b) v (upd H a (.dT (putK kvs k v))):=.inr ⟨kvs,k,b,e,rfl,eb,hl,rfl⟩


section
variable {X:Cx}{pins:List (Addr×Obj)}{σ:St}{H:Hp}{s:Shared}{a:Addr}{y v:V}{u r:Value}{o:Option V}{A:Around}{E:Value->Shared->Prop}

theorem Inv.big (I:Inv X pins σ H s):sysModules < s.heap.objs.size:=by
 have h:mainGlobals < s.heap.objs.size:=(I.mod.glob.keeps I.bk).lt
 exact Nat.lt_trans (by decide) h

theorem xF {Q:Value->Shared->Prop}(hu:A.units+1 < cLine)(I:Inv X pins σ H s)(g:DGet H a y (some v))(ry:RelV y u)(h:∀ w' s',Inv X pins σ H s'->RelV v w'->Q w' s') :
  wpAny (model X.prog X.w) A (getItem (.ref a) u) Q E s:=by
 rcases g with ⟨kvs,k,e,ey,l⟩ | ⟨kvs,k,b,e,ey,eb,l⟩
 ·subst ey
  obtain ⟨z,hd,vs,rel,dd⟩:=sG I.hok e
  obtain ⟨w',hw,rw'⟩:=RelO.some_of (v:=v) (o:=valueAt vs k) (by rw [l];exact rel.val k)
  exact wpAny_getItem_of (sE ry) dd.mapOf hw (h w' _ (I.tok _) rw')
 ·subst ey
  cases (show u=Value.ref b from ry)
  obtain ⟨z,hd,xs,rel,dd⟩:=sI I.hok e
  obtain ⟨w',hw,rw'⟩:=RelO.some_of (v:=v) (o:=(atKey xs k).map (·.2)) (by rw [l];exact rel.val k)
  obtain ⟨p,hp,hp2⟩:=Option.map_eq_some_iff.mp hw
  refine wpAny_getItem_heap (tupleKind_room_in1 hu) (qJ I.hok eb) dd hp ?_
  rw [hp2]
  exact h w' _ (I.tok _) rw'
theorem qK {h':Heap}{t':Nat}{ob:HO}(I:Inv X pins σ H s)(mu:Mut (H a))(hs:Heap.SameBut a s.heap h')(he:∃ q,h'.get? a=some q)(new:ObjOk X.prog X.w (upd H a ob) h' a ob) :
  Inv X pins σ (upd H a ob) { s with heap:=h',toks:=t' } :=
 I.write (x:=a) (e:=a) mu (.inl rfl) (fun b q hb z=>(hs.2 b hb).trans z) he new
theorem yQ {P:Program}{w:World}{H':Hp}{h':Heap}{kvs:List (Key×V)}{vs:List (Key×Value)}(z:kvs.length<=sizeLine)(hd:(a == sysModules)=false)(rel:KV kvs vs)(dd:h'.DictOf (bW P w) a vs) :
  ObjOk P w H' h' a (.dK kvs):=⟨z,hd,vs,rel,dd⟩
theorem xG {H':Hp}{Q:Unit->Shared->Prop}(hu:A.units+1 < cLine)(I:Inv X pins σ H s)(g:DPut H a y v H')(ry:RelV y u)(rv:RelV v r)(h:∀ s',Inv X pins σ H' s'->Q () s') :
  wpAny (model X.prog X.w) A (setItem (.ref a) u r) Q E s:=by
 rcases g with ⟨kvs,k,e,ey,l,eH⟩ | ⟨kvs,k,b,e,ey,eb,l,eH⟩
 ·subst ey eH
  obtain ⟨z,hd,vs,rel,dd⟩:=Dl I.hok e
  have hz:vs.length<=sizeLine:=by rw [<- rel.length];exact z
  have hl:(putK kvs k v).length<=sizeLine:=by have:=cF kvs k v;lia
  refine wpAny_setItem_pairs (hsz:=hz) (sE ry) dd fun h' dd' hs=>h _ ?_
  have he:∃ q,h'.get? a=some q:=let ⟨q,_,_,hq,_⟩:=dd';⟨q,hq⟩
  exact qK I (by rw [e];exact True.intro) hs he (yQ hl hd (rel.put k rv) dd')
 ·subst ey eH
  cases (show u=Value.ref b from ry)
  obtain ⟨z,hd,xs,rel,dd⟩:=Gh I.hok e
  have hz:xs.length<=sizeLine:=by rw [<- Paired.length rel];exact z
  have hl:(putK kvs k v).length<=sizeLine:=by have:=cF kvs k v;lia
  refine wpAny_setItem_heap (hsz:=hz) (tupleKind_room_in1 hu) (qJ I.hok eb) dd fun h' dd' hs=>h _ ?_
  obtain ⟨q,es,ep,hq,h2,h3,h4,_,h5⟩:=dd'
  refine qK I (by rw [e];exact True.intro) hs ⟨q,hq⟩ ⟨hl,hd,_,(rel.put k eb rv).keeps fun c ys ec=>?_,q,es,ep,hq,h2,h3,h4,h5⟩
  rw [aD (Fy ec e (fun z=>nomatch z))]
  exact ec
end

section
variable {X:Cx}{pins:List (Addr×Obj)}{σ:St}{H:Hp}{s:Shared}{a:Addr}{kvs:List (Key×V)}{k:Key}{u:Value}{A:Around}{E:Value->Shared->Prop}
end


def Gi (i:Expr):Prop:=∀ ov iv,subscripted i false ov iv=operate [ov,iv] (getItem ov iv)
theorem Br {prog:Program}{w:World}{A:Around}{E:Value->Shared->Prop}{s:Shared}{env:Env}{value slice:Expr}{pos:Pos}{T id:String}{Q:Value->Shared->Prop}
  (hl:typeLookup (.type T) "__getitem__" = pure (some (.builtin id))) (hs:Gi slice)
  (h:wpAny (model prog w) A (eval value env) (fun o s₁=>wpAny (model prog w) A (eval slice env) (fun i s₂=>s₂.TypeIs o T/\wpAny (model prog w) A (getItem o i) Q E s₂) E s₁) E s) :
  wpAny (model prog w) A (eval (.Subscript value slice pos) env) Q E s:=by
 refine Subscript_ (wpAny_mono h (fun o s₁ h₁=>wpAny_mono h₁ (fun i s₂ h₂=>?_) fun _ _ x=>x) fun _ _ x=>x)
 obtain ⟨hT,h₂⟩:=h₂
 unfold subscriptTail
 refine wpAny_bind ?_
 rw [getitemInPython_of_ne hT.not_modules]
 refine wpAny_bind (wpAny_specialOf hT hl ?_)
 have fin:wpAny (model prog w) A (subscripted slice false o i) (fun r s₃=>wpAny (model prog w) A (letTemporaryGo value o r >>= fun _=>pure r) Q E s₃) E s₂:=by
  rw [hs o i]
  exact wpAny_operating (wpAny_mono h₂ (fun r s₃ h₃=>wpAny_bind (wpAny_letTemporaryGo (wpAny_pure h₃))) fun _ _ x=>x)
 first
  | exact wpAny_pure (wpAny_bind fin)
  | exact wpAny_bind (wpAny_pure (wpAny_bind fin))
  | exact wpAny_bind fin

theorem sJ {X:Cx}{pins:List (Addr×Obj)}{σ:St}{H:Hp}{s:Shared}{a:Addr}{y:V}{o:Option V}(I:Inv X pins σ H s)(g:DGet H a y o):s.TypeIs (.ref a) "dict" := by
 rcases g with ⟨kvs,k,e,_,_⟩ | ⟨kvs,k,b,e,_,_,_⟩
 ·obtain ⟨_,_,vs,_,dd⟩:=sG I.hok e
  exact dd.typeIs
 ·obtain ⟨_,_,xs,_,dd⟩:=sI I.hok e
  exact dd.typeIs
def Gj (td ty:TE):TE:=fun σ H Q=>td σ H fun x H1=>ty σ H1 fun y H2=>∃ a v,x=.ref a/\DGet H2 a y (some v)/\Q v H2
def Gk (td ty tv:TE):TS:=fun D σ H=>tv σ H fun v H1=>td σ H1 fun x H2=>ty σ H2 fun y H3=>∃ a H4,x=.ref a/\DPut H3 a y v H4/\D.nx σ H4
section
variable {X:Cx}{o i e value:Expr}{pos pos' tpos:Pos}{td ty tv:TE}
theorem qL (hu:X.A.units+1 < cLine)(ho:PE X o td)(hi:PE X i ty)(hs:Gi i):PE X (.Subscript o i pos) (Gj td ty):=by
 intro pins s σ H Q I h
 refine Br PySem.F.slot_dict_getitem.lookup hs (thn (ho pins s σ H _ I h) fun u s1 ⟨x,H1,I1,rx,q1⟩=>thn (hi pins s1 σ H1 _ I1 q1) fun iv s2 ⟨y,H2,I2,ry,a,v,ex,g,q2⟩=>?_)
 subst ex
 obtain rfl:u=Value.ref a:=rx
 exact ⟨sJ I2 g,xF hu I2 g ry fun w' s3 I3 rw'=>⟨v,H2,I3,rw',q2⟩⟩
theorem qM (hu:X.A.units+1 < cLine)(ho:PE X o td)(hi:PE X i ty)(hv:PE X value tv)(hs:swapsWith value (some (.Subscript o i pos')) pos.line X.env=pure false) :
  PS X (.Assign [.Subscript o i pos'] value pos) (Gk td ty tv):=by
 intro pins s σ H D I h
 refine wpAny_Assign_Subscript (thn (hv pins s σ H _ I h) fun r s1 ⟨v,H1,I1,rv,q1⟩=>thn (ho pins s1 σ H1 _ I1 q1) fun u s2 ⟨x,H2,I2,rx,q2⟩=>thn (hi pins s2 σ H2 _ I2 q2) fun iv s3 ⟨y,H3,I3,ry,a,H4,ex,g,q3⟩=>?_) hs
 subst ex
 obtain rfl:u=Value.ref a:=rx
 exact xG hu I3 g ry rv fun s4 I4=>⟨σ,H4,I4,q3⟩
end


theorem yR {P:Program}{w:World}{H:Hp}(h:Heap)(hb:sysModules < h.objs.size):ObjOk P w H (h.push { cls:=.type "dict",data:=.dict #[] }) h.objs.size (.dK []) :=
 ⟨zAp _,beq_eq_false_iff_ne.mpr (Ne.symm (Nat.ne_of_lt hb)),[],.nil,Heap.DictOf.new h⟩
theorem yS {P:Program}{w:World}{H:Hp}(h:Heap)(hb:sysModules < h.objs.size):ObjOk P w H (h.push { cls:=.type "dict",data:=.dict #[] }) h.objs.size (.dT []) :=
 ⟨zAp _,beq_eq_false_iff_ne.mpr (Ne.symm (Nat.ne_of_lt hb)),[],.nil,_,#[],0,Heap.get?_push_size _ rfl,⟨rfl,rfl,rfl⟩,rfl,rfl,List.nodup_nil⟩
def Eo:TE:=fun _ H Q=>∀ p,H p=none->Q (.ref p) (upd H p (.dT []))
section
variable {X:Cx}{pos:Pos}
theorem yU:PE X (.Dict [] [] pos) Eo:=fun pins s σ H Q I h =>
 wpAny_Dict_empty ⟨.ref s.heap.objs.size,_,I.laid (a:=s.heap.objs.size) (o:=.dT []) (t':=s.toks) (fun _ _ q=>Heap.get?_push_of_some _ q) (zA3 _) (yS s.heap I.big),rfl,h _ (I.hok.fresh (zA3 _))⟩
end

def uH:List (TE×TE)->St->Hp->(List (V×V)->Hp->Prop)->Prop
 | [],_,H,Q=>Q [] H
 | (tk,tv)::r,σ,H,Q=>tk σ H fun x H1=>tv σ H1 fun y H2=>uH r σ H2 fun ps H3=>Q ((x,y)::ps) H3
abbrev VV:List (V×V)->List (Value×Value)->Prop:=Paired fun p q=>RelV p.1 q.1/\RelV p.2 q.2
def PPs (X:Cx)(pos:Pos)(keys:List (Option Expr))(values:List Expr)(trs:List (TE×TE)):Prop :=
 ∀ (pins:List (Addr×Obj)) (s:Shared) (σ:St) (H:Hp) (Q:List (V×V)->Hp->Prop),Inv X pins σ H s->uH trs σ H Q ->
  wpAny (model X.prog X.w) X.A (evalPairs (pairTrees keys values X.env pos)) (fun vs s'=>∃ ps H',Inv X pins σ H' s'/\VV ps vs/\Q ps H') X.xe s
theorem Bs {X:Cx}{pos:Pos}:PPs X pos [] [] []:=fun pins s σ H Q I h=>pairTrees_nil_walk ⟨[],H,I,.nil,h⟩
theorem yV {X:Cx}{pos:Pos}{k v:Expr}{ks:List (Option Expr)}{vs:List Expr}{tk tv:TE}{trs:List (TE×TE)}(hk:PE X k tk)(hv:PE X v tv)(hr:PPs X pos ks vs trs) :
  PPs X pos (some k::ks) (v::vs) ((tk,tv)::trs):=fun pins s σ H Q I h =>
 pairTrees_cons_walk (thn (hk pins s σ H _ I h) fun u s1 ⟨x,H1,I1,rx,q1⟩=>thn (hv pins s1 σ H1 _ I1 q1) fun w2 s2 ⟨y,H2,I2,ry,q2⟩ =>
  thn (hr pins s2 σ H2 _ I2 q2) fun ws s3 ⟨ps,H3,I3,rel,q3⟩=>⟨(x,y)::ps,H3,I3,.cons ⟨rx,ry⟩ rel,q3⟩)

def gJ (kvs more:List (Key×V)):List (Key×V):=more.foldl (fun acc kv=>putK acc kv.1 kv.2) kvs
theorem KV.merge:∀ {more:List (Key×V)} {rs:List (Key×Value)} {kvs:List (Key×V)} {vs:List (Key×Value)},KV more rs->KV kvs vs->KV (gJ kvs more) (merged vs rs):=by
 intro more rs kvs vs r
 unfold KV at r
 induction r generalizing kvs vs with
 | nil=>intro q;exact q
 | @cons p q ps qs h t ih =>
  intro r0
  have e:KV (putK kvs p.1 p.2) (stored vs q.1 q.2):=by
   have:=r0.put p.1 h.2
   rw [<- h.1];exact this
  exact ih e
theorem iD:∀ (more kvs:List (Key×V)),(gJ kvs more).length<=kvs.length+more.length
 | [],kvs=>by show kvs.length<=kvs.length+0;lia
 | p::r,kvs=>by
  have h1:=iD r (putK kvs p.1 p.2)
  have h2:=cF kvs p.1 p.2
  show (gJ (putK kvs p.1 p.2) r).length<=_
  rw [zAe];lia
theorem mL {P:Program}{w:World}:∀ {kvs:List (Key×V)} {ws:List (Value×Value)},VV (kvs.map fun kv=>(kV kv.1,kv.2)) ws->∃ rs,Carries (bW P w) ws rs/\KV kvs rs
 | [],_,r=>by rw [List.map_nil] at r;cases r;exact ⟨[],True.intro,.nil⟩
 | p::kvs,_,r=>by
  rw [zAk] at r
  cases r with
  | @cons a b as bs h t =>
   obtain ⟨rs,c,q⟩:=mL (P:=P) (w:=w) t
   obtain ⟨b1,b2⟩:=b
   exact ⟨(p.1,b2)::rs,⟨sE h.1,rfl,c⟩,.cons ⟨rfl,h.2⟩ q⟩
def Gm (trs:List (TE×TE)):TE:=fun σ H Q=>∀ p,H p=none->uH trs σ (upd H p (.dK [])) fun ps H2=>H2 p=some (.dK [])/\∃ kvs:List (Key×V),ps=kvs.map (fun kv=>(kV kv.1,kv.2))/\kvs.length<=15/\Q (.ref p) (upd H2 p (.dK (gJ [] kvs)))
theorem Bt {X:Cx}{pos:Pos}{keys:List (Option Expr)}{values:List Expr}{trs:List (TE×TE)}(h:PPs X pos keys values trs)(hall:keys.all (·.isSome)=true)(hl:keys.length=values.length)(h0:keys≠[])
  (h15:keys.length<=15):PE X (.Dict keys values pos) (Gm trs):=by
 intro pins s σ H Q I q
 have hn:=I.hok.fresh (zA3 s.heap.objs.size)
 have I1:=I.laid (a:=s.heap.objs.size) (o:=.dK []) (h':=s.heap.push { cls:=.type "dict",data:=.dict #[] }) (t':=s.toks) (fun _ _ q=>Heap.get?_push_of_some _ q) (zA3 _) (yR s.heap I.big)
 refine wpAny_Dict_walk (knd:=bW X.prog X.w) hall hl h0 h15 (thn (h pins _ σ _ _ I1 (q _ hn)) fun ws s2 ⟨ps,H2,I2,rel,e,kvs,ep,lk,q2⟩=>?_)
 subst ep
 obtain ⟨rs,c,rk⟩:=mL (P:=X.prog) (w:=X.w) rel
 obtain ⟨z,hd,vs0,r0,dd⟩:=Dl I2.hok e
 cases r0
 refine ⟨rs,c,dd,fun h' dd' hs=>⟨.ref s.heap.objs.size,_,?_,rfl,q2⟩⟩
 have hz:(gJ [] kvs).length<=sizeLine:=by
  have h1:=iD kvs []
  rw [List.length_nil] at h1
  rw [sizeLine_eq];lia
 have he:∃ q,h'.get? s.heap.objs.size=some q:=let ⟨q,_,_,hq,_⟩:=dd';⟨q,hq⟩
 exact qK I2 (by rw [e];exact True.intro) hs he (yQ hz hd (rk.merge .nil) dd')


structure M2 (X:Cx)(o:Expr)(m:Str)(apos:Pos)(e f:Expr)(cpos:Pos):Prop where
 base:attributeBase o m X.env (eval o X.env)=eval o X.env
 few:((backTo cpos (starEach [e,f] X.env)).all (fun x=>!x.1) && (backToKw cpos (keywordEach [] X.env)).all (fun x=>x.1.isSome)
  && decide (([e,f]:List Expr).length+([]:List Keyword).length+(if ([]:List Keyword).isEmpty then 0 else 1) < 30))=true
 line:(apos.endLine == cpos.line)=true
 trees:backTo cpos (starEach [e,f] X.env)=[(false,eval e X.env),(false,eval f X.env)]

def IsD (H:Hp)(a:Addr):Prop:=(∃ kvs,Rd H a (.dK kvs))\/∃ kvs,Rd H a (.dT kvs)
theorem Ep {X:Cx}{pins:List (Addr×Obj)}{σ:St}{H:Hp}{s:Shared}{a:Addr}(I:Inv X pins σ H s)(d:IsD H a) :
  s.TypeIs (.ref a) "dict" /\ (∀ b,Value.ref a=.ref b->∃ ob,s.heap.get? b=some ob/\ob.dict=none)/\(a == sysModules)=false:=by
 rcases d with ⟨kvs,e⟩ | ⟨kvs,e⟩
 ·obtain ⟨_,hd,vs,_,dd⟩:=sG I.hok e
  refine ⟨dd.typeIs,fun b q=>?_,hd⟩
  cases q
  obtain ⟨ob,_,_,h1,h2,_⟩:=dd
  exact ⟨ob,h1,h2.2.1⟩
 ·obtain ⟨_,hd,xs,_,dd⟩:=sI I.hok e
  refine ⟨dd.typeIs,fun b q=>?_,hd⟩
  cases q
  obtain ⟨ob,_,_,h1,h2,_⟩:=dd
  exact ⟨ob,h1,h2.2.1⟩

section
variable {X:Cx}{pins:List (Addr×Obj)}{σ:St}{H:Hp}{s:Shared}{a:Addr}{y d:V}{u r:Value}{o:Option V}{A:Around}{E:Value->Shared->Prop}
theorem Er {Q:Value->Shared->Prop}(hu:A.units+1 < cLine)(I:Inv X pins σ H s)(g:DGet H a y o)(ry:RelV y u)(rd:RelV d r)(h:∀ w' s',Inv X pins σ H s'->RelV (o.getD d) w'->Q w' s') :
  wpAny (model X.prog X.w) A (call (.builtin "dict.get") [.ref a,u,r]) Q E s:=by
 rcases g with ⟨kvs,k,e,ey,l⟩ | ⟨kvs,k,b,e,ey,eb,l⟩
 ·subst ey
  obtain ⟨z,hd,vs,rel,dd⟩:=sG I.hok e
  refine call_meetsIn PySem.F.slot_dict_get dd.typeIs PySem.F.entry_dict_get (PySem.F.args_dict_get_3 _ _ _) (meets_dict_get_default (bW X.prog X.w) a (sE ry) hd r) ⟨_,dd.mapOf,h _ _ (I.tok _) ?_⟩
  rw [l]
  exact (rel.val k).getD rd
 ·subst ey
  cases (show u=Value.ref b from ry)
  obtain ⟨z,hd,xs,rel,dd⟩:=sI I.hok e
  refine call_meetsIn PySem.F.slot_dict_get dd.typeIs PySem.F.entry_dict_get (PySem.F.args_dict_get_3 _ _ _) (meetsH_dict_get_default (tupleKind (bW X.prog X.w)) a b hd r) ⟨tupleKind_room_in1 hu,k,xs,qJ I.hok eb,dd,h _ _ (I.tok _) ?_⟩
  rw [l]
  exact (rel.val k).getD rd
end

def Es (td ty tx:TE):TE:=fun σ H Q=>td σ H fun x H1=>∃ a,x=.ref a/\IsD H1 a/\ty σ H1 fun y H2=>tx σ H2 fun z H3=>∃ o,DGet H3 a y o/\Q (o.getD z) H3
section
variable {X:Cx}{o e f:Expr}{apos cpos:Pos}{td ty tx:TE}
theorem sO (hu:X.A.units+1 < cLine)(ho:PE X o td)(he:PE X e ty)(hf:PE X f tx)(m:M2 X o "get" apos e f cpos):PE X (.Call (.Attribute o "get" apos) [e,f] [] cpos) (Es td ty tx):=by
 intro pins s σ H Q I h
 refine wpAny_Call_method m.base m.few m.line PySem.F.plainAttrs_dict PySem.F.slot_dict_get PySem.F.type_dict_get (thn (ho pins s σ H _ I h) fun u s1 ⟨x,H1,I1,rx,a,ex,d,q1⟩=>?_)
 subst ex
 obtain rfl:u=Value.ref a:=rx
 obtain ⟨t1,t2,_⟩:=Ep I1 d
 refine ⟨t1,t2,?_⟩
 rw [m.trees]
 refine Calls.callWith_builtin rfl (Calls.evalArgs_plain (Calls.spliced_cons (thn (he pins s1 σ H1 _ I1 q1) fun iv s2 ⟨y,H2,I2,ry,q2⟩ =>
  Calls.spliced_cons (thn (hf pins s2 σ H2 _ I2 q2) fun fv s3 ⟨z,H3,I3,rz,ov,g,q3⟩=>Calls.spliced_nil ?_))))
 exact Er hu I3 g ry rz fun w' s4 I4 rw'=>⟨_,H3,I4,rw',q3⟩
end

section
variable {X:Cx}{pins:List (Addr×Obj)}{σ:St}{H:Hp}{s:Shared}{a:Addr}{kvs:List (Key×V)}{A:Around}{E:Value->Shared->Prop}
end


section
variable {X:Cx}{pins:List (Addr×Obj)}{σ:St}{H:Hp}{s:Shared}{a:Addr}{y:V}{u:Value}{A:Around}{E:Value->Shared->Prop}
end
end L2


namespace L2
open PySem PySem.Spec PyProof.Rows
def Bu:Key->PyData
 | .inl i=>.int i
 | .inr x=>.str x
mutual
inductive IsTh (S:Addr->Prop)(H:Hp):V->PyData->Prop
 | non:IsTh S H .non .none
 | bl (b:Bool):IsTh S H (.bl b) (.bool b)
 | int (i:Int):IsTh S H (.int i) (.int i)
 | str (x:Str):IsTh S H (.str x) (.str x)
 | lst {a:Addr} {xs:List V} {ds:List PyData} (hs:S a) (e:H a=some (.lst xs)) (r:IsThs S H xs ds):IsTh S H (.ref a) (.list ds)
 | tup {a:Addr} {xs:List V} {ds:List PyData} (e:H a=some (.tup xs)) (r:IsThs S H xs ds):IsTh S H (.ref a) (.tuple ds)
 | dct {a:Addr} {ks:List (Key×Int)} (hs:S a) (e:H a=some (.dK (ks.map fun p=>(p.1,V.int p.2)))):IsTh S H (.ref a) (.dict (ks.map fun p=>(Bu p.1,.int p.2)))
inductive IsThs (S:Addr->Prop)(H:Hp):List V->List PyData->Prop
 | nil:IsThs S H [] []
 | cons {v:V} {d:PyData} {vs:List V} {ds:List PyData} (h:IsTh S H v d) (t:IsThs S H vs ds):IsThs S H (v::vs) (d::ds)
end
section
variable {S S':Addr->Prop}{H H':Hp}
theorem IsThs.length:∀ {vs:List V} {ds:List PyData},IsThs S H vs ds->vs.length=ds.length
 | _,_,.nil=>rfl
 | _,_,.cons _ t=>by rw [zAe,zAe,IsThs.length t]
theorem IsThs.get:∀ {vs:List V} {ds:List PyData} {i:Nat} {v:V},IsThs S H vs ds->vs[i]?=some v->∃ d,ds[i]?=some d/\IsTh S H v d
 | _,_,_,_,.nil,e=>by simp at e
 | _,_,0,_,.cons h _,e=>by simp at e;subst e;exact ⟨_,rfl,h⟩
 | _,_,i+1,v,.cons _ t,e=>by
  obtain ⟨d,h1,h2⟩:=IsThs.get (i:=i) (v:=v) t (by simpa using e)
  exact ⟨d,by simpa using h1,h2⟩
theorem IsThs.append:∀ {vs ws:List V} {ds es:List PyData},IsThs S H vs ds->IsThs S H ws es->IsThs S H (vs++ws) (ds++es)
 | _,_,_,_,.nil,s=>s
 | _,_,_,_,.cons h t,s=>.cons h (IsThs.append t s)
theorem IsThs.ints:∀ (ns:List Int),IsThs S H (ns.map V.int) (ns.map PyData.int)
 | []=>.nil
 | n::ns=>.cons (.int n) (IsThs.ints ns)
mutual
theorem IsTh.keep (ht:∀ b xs,H b=some (.tup xs)->H' b=some (.tup xs))(hs:∀ b o,S b->H b=some o->H' b=some o)(hS:∀ b o,S b->H b=some o->S' b):∀ {v:V} {d:PyData},IsTh S H v d->IsTh S' H' v d
 | _,_,.non=>.non
 | _,_,.bl b=>.bl b
 | _,_,.int i=>.int i
 | _,_,.str x=>.str x
 | _,_,.lst s e r=>.lst (hS _ _ s e) (hs _ _ s e) (IsThs.keep ht hs hS r)
 | _,_,.tup e r=>.tup (ht _ _ e) (IsThs.keep ht hs hS r)
 | _,_,.dct s e=>.dct (hS _ _ s e) (hs _ _ s e)
theorem IsThs.keep (ht:∀ b xs,H b=some (.tup xs)->H' b=some (.tup xs))(hs:∀ b o,S b->H b=some o->H' b=some o)(hS:∀ b o,S b->H b=some o->S' b):∀ {vs:List V} {ds:List PyData},IsThs S H vs ds->IsThs S' H' vs ds
 | _,_,.nil=>.nil
 | _,_,.cons h t=>.cons (IsTh.keep ht hs hS h) (IsThs.keep ht hs hS t)
end
def tyD:PyData->String
 | .none=>"NoneType"
 | .bool _=>"bool"
 | .int _=>"int"
 | .str _=>"str"
 | .list _=>"list"
 | .tuple _=>"tuple"
 | .dict _=>"dict"
theorem IsTh.ty {K:PySem.W.Frag}{v:V}{d:PyData}(h:IsTh S H v d):TyOf K H v (.type (tyD d)):=by
 cases h with
 | non=>exact .non
 | bl b=>exact .bl b
 | int i=>exact .int i
 | str x=>exact .str x
 | lst s e r=>exact .lst e
 | tup e r=>exact .tup e
 | dct s e=>exact .dK e
def mO:PyData->Bool
 | .int _=>true
 | .bool _=>true
 | _=>false
def lF:PyData->Bool
 | .bool _=>true
 | _=>false
def mQ:PyData->Bool
 | .tuple _=>true
 | _=>false
theorem Bv {K:PySem.W.Frag}(d:PyData):PySem.W.kitOne K (.type (tyD d)) (.type "int")=some (mO d):=by
 cases d
 ·exact jG
 ·exact qD
 ·exact rZ
 ·exact su
 ·exact qH
 ·exact oE
 ·exact qI
theorem yW {K:PySem.W.Frag}(d:PyData):PySem.W.kitOne K (.type (tyD d)) (.type "bool")=some (lF d):=by
 cases d
 ·exact jc
 ·exact o9
 ·exact qF
 ·exact qG
 ·exact oA
 ·exact mJ
 ·exact oF
theorem Bw {K:PySem.W.Frag}(d:PyData):PySem.W.kitOne K (.type (tyD d)) (.type "tuple")=some (mQ d):=by
 cases d
 ·exact iK
 ·exact mG
 ·exact oh
 ·exact ou
 ·exact mH
 ·exact lz
 ·exact mK
end
mutual
def sz:PyData->Nat
 | .none=>1
 | .bool _=>1
 | .int _=>1
 | .str _=>1
 | .list xs=>1+szs xs
 | .tuple xs=>1+szs xs
 | .dict kvs=>1+4 * kvs.length
def szs:List PyData->Nat
 | []=>0
 | x::xs=>sz x+szs xs
end
end L2

namespace L2
open PySem PySem.Spec PyProof.Rows
section
variable {X:Cx}{pins:List (Addr×Obj)}{σ:St}{H:Hp}{s:Shared}{S:Addr->Prop}
theorem mR {P:Program}{w:World}:∀ {ks:List (Key×Int)} {vs:List (Key×Value)} {es:List DictEntry},KV (ks.map fun p=>(p.1,V.int p.2)) vs->Pairs (bW P w) es vs ->
  (∃ as,ReadsAll s.heap (es.map (·.key)) ((ks.map fun p=>(Bu p.1,PyData.int p.2)).map (·.1)) as/\as=[])/\∃ as,ReadsAll s.heap (es.map (·.val)) ((ks.map fun p=>(Bu p.1,PyData.int p.2)).map (·.2)) as/\as=[]
 | [],vs,es,r,p=>by
  cases r
  cases p
  exact ⟨⟨_,.nil,rfl⟩,⟨_,.nil,rfl⟩⟩
 | (k,n)::ks,vs,es,r,p=>by
  cases r with
  | @cons a b l1 l2 h t =>
   cases p with
   | @cons e kv es' kvs' h1 h2 h3 =>
    obtain ⟨⟨_,i1,rfl⟩,⟨_,i2,rfl⟩⟩:=mR (ks:=ks) t h3
    obtain ⟨q1,q2⟩:=h
    have h1':lR b.1 e.key=true:=h1
    rw [<- q1] at h1'
    obtain ⟨tv,ev2⟩:∃ t,b.2=Value.int n t:=q2
    rw [ev2] at h2
    refine ⟨⟨_,?_,rfl⟩,⟨_,?_,rfl⟩⟩
    ·show ReadsAll s.heap (e.key::es'.map (·.key)) (Bu k::_) ([]++[])
     rcases cg h1' with ⟨i,tk,ei,ev⟩ | ⟨x,tk,ei,ev⟩
     ·have ei:k=Sum.inl i:=ei
      rw [ev,ei]
      exact .cons (.int _ _) i1
     ·have ei:k=Sum.inr x:=ei
      rw [ev,ei]
      exact .cons (.str _ _) i1
    ·show ReadsAll s.heap (e.val::es'.map (·.val)) (PyData.int n::_) ([]++[])
     rw [h2]
     exact .cons (.int _ _) i2
mutual
theorem IsTh.reads (I:Inv X pins σ H s):∀ {v:V} {d:PyData} {u:Value},IsTh S H v d->RelV v u->∃ as,Reads s.heap u d as/\∀ a∈as,S a
 | _,_,_,.non,r=>by cases (show _=Value.none from r);exact ⟨[],.none,fun _ h=>nomatch h⟩
 | _,_,_,.bl b,r=>by cases (show _=Value.bool b from r);exact ⟨[],.bool b,fun _ h=>nomatch h⟩
 | _,_,_,.int i,r=>by obtain ⟨t,rfl⟩:=r;exact ⟨[],.int i t,fun _ h=>nomatch h⟩
 | _,_,_,.str x,r=>by obtain ⟨t,rfl⟩:=r;exact ⟨[],.str x t,fun _ h=>nomatch h⟩
 | _,_,_,@IsTh.lst _ _ a xs ds hs e t,r=>by
  cases (show _=Value.ref a from r)
  obtain ⟨_,its,n,rv,ho⟩:=(show ObjOk X.prog X.w H s.heap a (.lst xs) from I.hok a _ e)
  obtain ⟨as,h1,h2⟩:=IsThs.reads I t rv
  refine ⟨a::as,.list ho rfl rfl (by simpa using h1),fun b hb=>?_⟩
  rcases zAo.mp hb with z | z
  ·rw [z];exact hs
  ·exact h2 b z
 | _,_,_,@IsTh.tup _ _ a xs ds e t,r=>by
  cases (show _=Value.ref a from r)
  obtain ⟨_,its,rv,o,ho,hc,n,hd⟩:=(show ObjOk X.prog X.w H s.heap a (.tup xs) from I.hok a _ e)
  obtain ⟨as,h1,h2⟩:=IsThs.reads I t rv
  exact ⟨as,.tuple ho hc hd (by simpa using h1),h2⟩
 | _,_,_,@IsTh.dct _ _ a ks hs e,r=>by
  cases (show _=Value.ref a from r)
  obtain ⟨_,_,vs,rel,o,es,ep,ho,hx,hd,_,hp,_⟩:=(show ObjOk X.prog X.w H s.heap a (.dK _) from I.hok a _ e)
  obtain ⟨⟨_,i1,rfl⟩,⟨_,i2,rfl⟩⟩:=mR (s:=s) rel hp
  refine ⟨a::[]++[],.dict ho hx.1 hd i1 i2,fun b hb=>?_⟩
  rw [show b=a by simpa using hb]
  exact hs
theorem IsThs.reads (I:Inv X pins σ H s):∀ {vs:List V} {ds:List PyData} {us:List Value},IsThs S H vs ds->Vals vs us->∃ as,ReadsAll s.heap us ds as/\∀ a∈as,S a
 | _,_,_,.nil,r=>by cases r;exact ⟨[],.nil,fun _ h=>nomatch h⟩
 | _,_,_,.cons h t,r=>by
  cases r with
  | cons r1 r2 =>
   obtain ⟨as,h1,h2⟩:=IsTh.reads I h r1
   obtain ⟨bs,h3,h4⟩:=IsThs.reads I t r2
   exact ⟨as++bs,.cons h1 h3,fun b hb=>(zA6.mp hb).elim (h2 b) (h4 b)⟩
end
end
section
variable {X:Cx}
end
end L2

namespace L2
open PySem PySem.Spec PyProof.Rows
section
variable {prog:Program}{w:World}{A:Around}{E:Value->Shared->Prop}{s:Shared}
theorem Et {j t:Addr}{i:Nat}{its:Array Value}{x:Value}{Q:Value->Shared->Prop}(hj:s.heap.IsTupleIter j t i)(ht:s.heap.IsTuple t its)(hx:its[i]?=some x)
  (hQ:∀ h',h'.IsTupleIter j t (i+1)->Heap.SameBut j s.heap h'->Q x { s with heap:=h' }):wpAny (model prog w) A (Builtin.SmallTypes.nextOf (.ref j)) Q E s:=by
 obtain ⟨o,ho,hc,hd⟩:=id hj
 obtain ⟨p,hp,_,m,hm⟩:=ht
 unfold Builtin.SmallTypes.nextOf
 refine wpAny_bind (wpAny_callSpecial?_slot (name:=Str.ofString "__next__") hj.typeIs F.slot_tuple_iterator_next (wpAny_call_entry F.slot_tuple_iterator_next hj.typeIs F.entry_tuple_iterator_next ?_ (F.args_tuple_iterator_next_1 _)))
 show wpAny _ _ (field (.ref j) 0 >>= _) _ _ s
 refine wpAny_bind (wpAny_field ho hd (x:=.ref t) rfl ?_)
 show wpAny _ _ (if (Value.ref t == Value.none)=true then _ else _) _ _ s
 rw [if_neg (show ¬ ((Value.ref t == Value.none)=true) by intro z;exact zAg z)]
 show wpAny _ _ (field (.ref j) 1 >>= _) _ _ s
 refine wpAny_bind (wpAny_field ho hd (x:=.int i 0) rfl (wpAny_bind (wpAny_seqItems hp hm ?_)))
 simp only [Int.toNat_natCast,hx]
 refine wpAny_bind (wpAny_setField ho hd (by simp) (wpAny_pure ⟨x,rfl,wpAny_pure (hQ _ ⟨_,Heap.get?_update_self _ ho (Obj.isFreed_of_fields (Obj.data_mapFields hd _)),(Obj.cls_mapFields ..).trans hc,by
  rw [Obj.data_mapFields hd]
  simp [rawInt]⟩ (Heap.SameBut.update ..))⟩))
theorem mU {j t:Addr}{i:Nat}{its:Array Value}{Q:Value->Shared->Prop}(hh:A.handled=none)(hj:s.heap.IsTupleIter j t i)(ht:s.heap.IsTuple t its)(hx:its[i]?=none)
  (hE:∀ h' e,Heap.ExtBut j s.heap h'->(∃ o,h'.get? e=some o/\o.cls=.type "StopIteration")->E (.ref e) { s with heap:=h' }):wpAny (model prog w) A (Builtin.SmallTypes.nextOf (.ref j)) Q E s:=by
 obtain ⟨o,ho,hc,hd⟩:=id hj
 obtain ⟨p,hp,_,m,hm⟩:=ht
 unfold Builtin.SmallTypes.nextOf
 refine wpAny_bind (wpAny_callSpecial?_slot (name:=Str.ofString "__next__") hj.typeIs F.slot_tuple_iterator_next (wpAny_call_entry F.slot_tuple_iterator_next hj.typeIs F.entry_tuple_iterator_next ?_ (F.args_tuple_iterator_next_1 _)))
 show wpAny _ _ (field (.ref j) 0 >>= _) _ _ s
 refine wpAny_bind (wpAny_field ho hd (x:=.ref t) rfl ?_)
 show wpAny _ _ (if (Value.ref t == Value.none)=true then _ else _) _ _ s
 rw [if_neg (show ¬ ((Value.ref t == Value.none)=true) by intro z;exact zAg z)]
 show wpAny _ _ (field (.ref j) 1 >>= _) _ _ s
 refine wpAny_bind (wpAny_field ho hd (x:=.int i 0) rfl (wpAny_bind (wpAny_seqItems hp hm ?_)))
 simp only [Int.toNat_natCast,hx]
 refine wpAny_bind (wpAny_rule (wpAny_bind (wpAny_setField ho hd (by simp) ?_)))
 show wpAny _ _ (newExc (.type "StopIteration") [] >>= _) _ _ _
 refine wpAny_bind ?_
 simp only [newExc,newTuple]
 refine wpAny_bind (wpAny_newObj_type (wpAny_bind (m:=firstArgMember _ _) (wpAny_of_eq (a:=Value.none) (by first | rfl | (simp only [firstArgMember];rfl)) (wpAny_newObj_type ?_ (by size_fits)))) (by size_fits))
 simp only [raiseNew]
 refine wpAny_bind (wpAny_handled ?_)
 first
  | rw [show A.in1.handled=none from hh]
  | rw [hh]
 exact wpAny_bind (wpAny_pure (wpAny_throw (hE _ _ (((Heap.SameBut.update ..).extBut.push _).push _) ⟨_,Heap.get?_push_size _ rfl,rfl⟩)))

end

abbrev zA (h:Heap)(t:Addr):Heap:=h.push { cls:=.type "tuple_iterator",data:=.fields #[.ref t,.int 0 0] }
section
variable {X:Cx}
end
end L2

namespace L2
open PySem PySem.Spec PyProof.Rows
theorem IsTh.same {S:Addr->Prop}{H H':Hp}{v:V}{d:PyData}(h:IsTh S H v d)(s:Same H H'):IsTh S H' v d:=h.keep (fun b xs e=>s b _ e) (fun b o _ e=>s b o e) fun _ _ z _=>z
theorem IsThs.same {S:Addr->Prop}{H H':Hp}{v:List V}{d:List PyData}(h:IsThs S H v d)(s:Same H H'):IsThs S H' v d:=h.keep (fun b xs e=>s b _ e) (fun b o _ e=>s b o e) fun _ _ z _=>z
theorem Same.upd {H:Hp}{D:Addr}{o:HO}(h:H D=none):Same H (upd H D o):=fun b u e=>by rw [aD (aF e h)];exact e
theorem Same.updR {H H':Hp}{D:Addr}{o:HO}(s:Same H H')(h:H' D=none):Same H (L2.upd H' D o):=s.trans (Same.upd h)
theorem kW {K:PySem.W.Frag}{S:Addr->Prop}{te:TE}{a:Addr}{xs:List V}{ds:List PyData}(f:PyData->Bool){σ0:St}{j:Nat}{H0:Hp}{Fin:List V->Hp->Prop}(hT:H0 a=some (.tup xs))(th:IsThs S H0 xs ds)(hl:xs.length < sizeLine)
  (hte:∀ v d H Q,d∈ds->Same H0 H->IsTh S H v d->(∀ H',Same H H'->Q (.bl (f d)) H')->te (σ0.set j (some v)) H Q)
  (fin:∀ H',Same H0 H'->Fin (ds.map fun d=>V.bl (f d)) H'):j9 (Itt K a) (bK j) qz te Fin σ0 H0:=by
 have hlen:=th.length
 refine ⟨fun i m ys σ H=>m=xs.length - i/\i<=xs.length/\ys=(ds.take i).map (fun d=>V.bl (f d))/\(∀ o,σ.set j o=σ0.set j o)/\Same H0 H,⟨_,rfl,zAp _,rfl,fun _=>rfl,Same.refl _⟩,?_⟩
 rintro i m ys σ H ⟨rfl,hi,rfl,hσ,hs⟩
 have sq:SqT K H a xs:=SqT.of (hs _ _ hT)
 refine ⟨by rw [zA1,zAd];lia,?_⟩
 by_cases hlt:i < xs.length
 ·refine .inr ⟨⟨xs,xs[i],sq,by simp [hlt]⟩,fun x H' y=>?_⟩
  obtain ⟨e,y⟩:=y
  subst e
  have hx:=y xs sq
  obtain ⟨d,hd,ht⟩:=(th.same hs).get hx
  show te (σ.set j (some x)) H' _
  rw [hσ]
  refine hte x d H' _ (List.mem_of_getElem? hd) hs ht fun H2 s2=>⟨xs.length - (i+1),by lia,rfl,hlt,?_,fun o=>by rw [List.set_set],hs.trans s2⟩
  rw [zAj,hd]
  simp
 ·have e:i=xs.length:=by lia
  subst e
  refine .inl ⟨⟨xs,sq,zA3 _⟩,?_⟩
  rw [hlen,zAm]
  exact fin H hs
theorem sS {ds:List PyData}{f:PyData->Bool}:ds.map (fun d=>V.bl (f d))=(ds.map f).map V.bl:=by rw [zAr];rfl
theorem yX {ds:List PyData}{f:PyData->Bool}:(ds.map f).all id=ds.all f:=by rw [List.all_map];rfl
section
variable {X:Cx}{es:List Expr}{t:TA}{pos:Pos}
end

section
variable {X:Cx}{a b c d:Expr}{ta tb tc td:TE}{pos:Pos}
def vM (r r' r'':R2)(ta tb tc td:TE):TE:=fun σ H Q=>ta σ H fun x H1=>tb σ H1 fun y H2=>r x y H2 fun z H3=>∃ k,z=.bl k /\
 (if k=true then tc σ H3 fun x2 H4=>r' y x2 H4 fun z2 H5=>∃ k2,z2=.bl k2/\(if k2=true then td σ H5 fun x3 H6=>r'' x2 x3 H6 Q else Q (.bl false) H5) else Q (.bl false) H3)
theorem xH {o1 o2 o3:CmpOp}{r r' r'':R2}(h1:OpR X (compareOp o1) r)(h2:OpR X (compareOp o2) r')(h3:OpR X (compareOp o3) r'')(ha:PE X a ta)(hb:PE X b tb)(hc:PE X c tc)(hd:PE X d td)
  (hm:lastMarks [o1,o2,o3] [b,c,d]=false:=by with_unfolding_all rfl):PE X (.Compare a [o1,o2,o3] [b,c,d] pos) (vM r r' r'' ta tb tc td):=by
 intro pins s σ H Q I h
 refine Compare_chain (thn (ha pins s σ H _ I h) fun v s1 ⟨x,H1,I1,r1,q1⟩=>chain_link (thn (hb pins s1 σ H1 _ I1 q1) fun u s2 ⟨y,H2,I2,r2,q2⟩ =>
  thn (h1 pins s2 σ H2 x y v u _ I2 r1 r2 q2) fun g s3 ⟨z,H3,I3,r3,k,e,q3⟩=>?_)) hm
 subst e
 cases r3
 refine wpAny_truthy_bool ?_
 cases k with
 | false=>exact ite_ff ⟨.bl false,H3,I3,rfl,q3⟩
 | true =>
  refine ite_tt (chain_link (thn (hc pins s3 σ H3 _ I3 q3) fun w' s4 ⟨z',H4,I4,r4,q4⟩=>thn (h2 pins s4 σ H4 y z' u w' _ I4 r2 r4 q4) fun g2 s5 ⟨z5,H5,I5,r5,k2,e2,q5⟩=>?_))
  subst e2
  cases r5
  refine wpAny_truthy_bool ?_
  cases k2 with
  | false=>exact ite_ff ⟨.bl false,H5,I5,rfl,q5⟩
  | true=>exact ite_tt (chain_last (thn (hd pins s5 σ H5 _ I5 q5) fun w6 s6 ⟨z6,H6,I6,r6,q6⟩=>h3 pins s6 σ H6 z' z6 w' w6 Q I6 r4 r6 q6))
end

def Ev (σ:St)(H:Hp)(t:TE)(v:V):Prop:=∀ Q:VK,Q v H->t σ H Q
section
variable {σ:St}{H:Hp}{ta tb tc td:TE}
theorem eF {v:V}:Ev σ H (tC v) v:=fun _ h=>h
theorem dw {i:Nat}{v:V}(h:σ[i]?=some (some v)):Ev σ H (wV i) v:=fun _ q=>⟨v,h,q⟩
theorem bV {p q:Int->Int->Bool}{i j k:Int}(a:Ev σ H ta (.int i))(b:Ev σ H tb (.int j))(c:Ev σ H tc (.int k)) :
  Ev σ H (uq (rI0 fun i j=>.bl (p i j)) (rI0 fun i j=>.bl (q i j)) ta tb tc) (.bl (p i j && q j k)):=fun Q h=>a _ (b _ ⟨i,j,rfl,rfl,_,rfl,by
 cases e:p i j with
 | false =>
  rw [e] at h
  exact bD h
 | true =>
  rw [e] at h
  exact cj (c _ ⟨j,k,rfl,rfl,h⟩)⟩)
theorem xJ {p q r:Int->Int->Bool}{i j k l:Int}(a:Ev σ H ta (.int i))(b:Ev σ H tb (.int j))(c:Ev σ H tc (.int k))(d:Ev σ H td (.int l)) :
  Ev σ H (vM (rI0 fun i j=>.bl (p i j)) (rI0 fun i j=>.bl (q i j)) (rI0 fun i j=>.bl (r i j)) ta tb tc td) (.bl (p i j && (q j k && r k l))):=fun Q h=>a _ (b _ ⟨i,j,rfl,rfl,_,rfl,by
 cases e:p i j with
 | false =>
  rw [e] at h
  exact bD h
 | true =>
  rw [e] at h
  refine cj (c _ ⟨j,k,rfl,rfl,_,rfl,?_⟩)
  cases e2:q j k with
  | false =>
   rw [e2] at h
   exact bD h
  | true =>
   rw [e2] at h
   exact cj (d _ ⟨k,l,rfl,rfl,h⟩)⟩)
theorem gK {b c:Bool}(x:Ev σ H ta (.bl b))(y:b=true->Ev σ H tb (.bl c)):Ev σ H (Dc ta tb) (.bl (b && c)):=fun Q h=>x _ ⟨b,rfl,by
 cases e:b with
 | false =>
  rw [e] at h
  exact bD h
 | true =>
  rw [e] at h
  exact cj (y e _ h)⟩
end
end L2

namespace L2
open PySem PySem.Spec PyProof.Rows
structure Plain (e:Expr):Prop where
 eq:∀ (es:List Expr) (env:Env),starEach (e::es) env=(false,eval e env)::starEach es env
theorem gM {c j p}:Plain (.Constant c j p):=⟨fun _ _=>rfl⟩
theorem iM {x p}:Plain (.Name x p):=⟨fun _ _=>rfl⟩
theorem gO {es k p}:Plain (.Tuple es k p):=⟨fun _ _=>rfl⟩
theorem iQ {es p}:Plain (.List es p):=⟨fun _ _=>rfl⟩
theorem iR {f as ks p}:Plain (.Call f as ks p):=⟨fun _ _=>rfl⟩
theorem plain_bin {a o b p}:Plain (.BinOp a o b p):=⟨fun _ _=>rfl⟩
theorem mV {o a p}:Plain (.UnaryOp o a p):=⟨fun _ _=>rfl⟩
theorem jH {a b p}:Plain (.Subscript a b p):=⟨fun _ _=>rfl⟩
theorem iT {a b c p}:Plain (.ListComp a b c p):=⟨fun _ _=>rfl⟩
theorem jJ {a b c p}:Plain (.Compare a b c p):=⟨fun _ _=>rfl⟩
section
variable {X:Cx}{e:Expr}{es:List Expr}{te:TE}{t:TA}
theorem az (ha:PE X e te)(hr:PA X es t)(hp:Plain e:=by first | exact iM | exact gM | exact iR | exact gO | exact iQ | exact plain_bin | exact jH | exact mV | exact plain_dict | exact iT | exact jJ):PA X (e::es) (kh te t) :=
 aQ ha hr (hp.eq _ _)
end

structure AA (X:Cx)(es:List Expr)(t:TA):Prop where
 run:PA X es t
section
variable {X:Cx}{e:Expr}{es:List Expr}{te:TE}{t:TA}{pos:Pos}
theorem dX:AA X [] qw:=⟨aj⟩
theorem qN (ha:PE X e te)(hr:AA X es t)(hp:Plain e:=by first | exact iM | exact gM | exact iR | exact gO | exact iQ | exact plain_bin | exact jH | exact mV | exact plain_dict | exact iT | exact jJ):AA X (e::es) (kh te t) :=
 ⟨aQ ha hr.run (hp.eq _ _)⟩
theorem lG {x1}(h:AA X es t):PE X (.Tuple es x1 pos) (Bg t):=bH h.run
theorem vN (h:AA X es t):PE X (.List es pos) (Eg t):=cC h.run
end
inductive IsInts:List Expr->List Int->Prop
 | nil:IsInts [] []
 | cons {i:Int} {j:Nat} {p:Pos} {es:List Expr} {is:List Int}:IsInts es is->IsInts (.Constant (.int i) j p::es) (i::is)
def Gn (is:List Int):TA:=fun _ H Q=>Q (is.map V.int) H
theorem gj {X:Cx}:∀ {es:List Expr} {is:List Int},IsInts es is->PA X es (Gn is)
 | _,_,.nil=>fun _ _ _ _ H Q I h=>Calls.spliced_nil ⟨[],H,I,.nil,h⟩
 | _,_,@IsInts.cons i j p es is r=>by
  have h:=az (X:=X) (aA (i:=i) (j:=j) (pos:=p)) (gj r)
  exact h
theorem dJ {X:Cx}{es:List Expr}{k:Nat}{pos:Pos}{t:TGs}{K:PySem.W.Frag}{n:Nat}(hK:X.K=K)(hc:X.calm=true)(h:PGs X es t)(hn:(assignEach es X.env).length=n:=by rfl)(hst:(assignEach es X.env).findIdx? (·.1)=none:=by rfl) :
  PG X (.Tuple es k pos) (lq K n t):=by
 subst hK
 exact bU hc h hn hst
structure BE (X:Cx)(e:Expr)(t:TE):Prop where
 run:PE X e t
section
variable {X:Cx}{e:Expr}{es:List Expr}{te:TE}{t:TA}{pos:Pos}
theorem je (ha:BE X e te)(hr:AA X es t)(hp:Plain e:=by first | exact iM | exact gM | exact iR | exact gO | exact iQ | exact plain_bin | exact jH | exact mV | exact plain_dict | exact iT | exact jJ):AA X (e::es) (kh te t):=qN ha.run hr hp
theorem Dm (h:BE X e te):PE X e te:=h.run
theorem Eu {i:Int}{j}:BE X (.Constant (.int i) j pos) (tC (.int i)):=⟨aA⟩
theorem Gp {b:Bool}{j}:BE X (.Constant (.bool b) j pos) (tC (.bl b)):=⟨gD⟩
theorem uI {x1}(h:AA X es t):BE X (.Tuple es x1 pos) (Bg t):=⟨bH h.run⟩
theorem uJ (h:AA X es t):BE X (.List es pos) (Eg t):=⟨cC h.run⟩
end
structure BS (X:Cx)(st:Stmt)(t:TS):Prop where
 run:PS X st t
structure BSs (X:Cx)(sts:List Stmt)(t:TS):Prop where
 run:PSs X sts t
section
variable {X:Cx}{st:Stmt}{rest:List Stmt}{t u:TS}{pos:Pos}
theorem vO (h:BSs X rest t):PSs X rest t:=h.run
theorem aP (h1:BS X st t)(h2:BSs X rest u):BSs X (st::rest) (Bb t u):=⟨aB h1.run h2.run⟩
theorem cZ (h1:BS X st t):BSs X [st] t:=⟨aH h1.run⟩
theorem d7 {i:Nat}{x:Str}{e:Expr}{te:TE}{pos':Pos}(hN:X.N.Nodup)(hi:X.N[i]?=some x)(hx:Loc X.env.scope x)(he:BE X e te)(hs:swapsWith e (some (.Name x pos')) pos.line X.env=pure false:=by rfl)(hf:X.fn x=true\/X.env.scope.names.lookup x=some .local:=by first | exact .inl rfl | exact .inr rfl | assumption) :
  BS X (.Assign [.Name x pos'] e pos) (Bc te (bK i)):=⟨bf hN hi hx he.run hs hf⟩
theorem mW {e:Expr}{te:TE}(he:BE X e te):BS X (.Return (some e) pos) (DW te):=⟨aU he.run⟩
theorem Dn {op:Operator}{r:R2}{a b:Expr}{ta tb:TE}(ho:OpR X (binaryOp op) r)(ha:BE X a ta)(hb:BE X b tb):BE X (.BinOp a op b pos) (tOp r ta tb):=⟨aV ho ha.run hb.run⟩
theorem Do {r:R2}{a b:Expr}{ta tb:TE}(hr:IxR X r)(ha:BE X a ta)(hb:BE X b tb)(hs:vJ b):BE X (.Subscript a b pos) (tOp r ta tb):=⟨aZ hr ha.run hb.run hs⟩
end
end L2

namespace L2
open PySem PySem.Spec PyProof.Rows
section
variable {X:Cx}{es:List Expr}{t:TA}{pos:Pos}
end
section
variable {S:Addr->Prop}{σ:St}{H:Hp}
end
section
variable {D:Ends}{σ:St}{H:Hp}{t u:TS}{te:TE}{ta:TA}{g:TG}{Q:VK}
theorem cz (h:D.nx σ H):Dd D σ H:=h
theorem aG (h:t { D with nx:=u D } σ H):Bb t u D σ H:=h
theorem ir (h:∀ c:St->Hp->Prop,(∀ σ' H',u D σ' H'->c σ' H')->t { D with nx:=c } σ H):Bb t u D σ H:=h (u D) fun _ _ z=>z
theorem aX (h:te σ H fun x H1=>g x σ H1 D.nx):Bc te g D σ H:=h
theorem uK (h:te σ H D.rt):DW te D σ H:=h
theorem aM {i:Nat}{v:V}{R:St->Hp->Prop}(h:R (σ.set i (some v)) H):bK i v σ H R:=h
end
end L2

namespace K74
open PySem L2
def top (i:Nat):Stmt:=PySem.Challenge.pw_woolyears_k74_whole_a_keeper_is_its_book.main.body.getD i (.Pass ⟨0,0,0,0⟩)
def cQ (d:PyData):Bool:=mO d && !lF d
def items:PyData->List PyData
 | .tuple ds=>ds
 | _=>[]
def intOf:PyData->Int
 | .int i=>i
 | _=>0
def bB (d:PyData)(f m:Int):Bool:=mQ d && (decide (f<=(items d).length) && decide (((items d).length:Int)<=m))
def bu (d:PyData)(n:Int):Bool:=bB d n n && (items d).all cQ
def kY (d:PyData):Bool:=bu d 3 && (items d).all fun x=>decide (0<=intOf x) && decide (intOf x<=999)
def gP (d:PyData):Bool:=bB d 1 20 && (items d).all kY
def at_ (d:PyData)(i:Nat):Int:=intOf ((items d).getD i .none)
def jK (a b c d e f:Int):Bool :=
 (decide (0<=a) && decide (a < 8)) && ((decide (0<=b) && decide (b < 3)) && ((decide (0<=c) && (decide (c<=d) && decide (d<=19))) && ((decide (1<=e) && decide (e<=99)) && (decide (0<=f) && decide (f<=1000000)))))
def gQ (d:PyData):Bool:=bu d 6 && jK (at_ d 0) (at_ d 1) (at_ d 2) (at_ d 3) (at_ d 4) (at_ d 5)
def dY (d:PyData):Bool:=bB d 0 10 && (items d).all gQ
theorem nd1 (x:Str):([x]:List Str).Nodup:=by simp
theorem uL (d:PyData):1<=sz d:=by cases d <;> simp [sz]
theorem jf:∀ (ds:List PyData),ds.length<=szs ds
 | []=>zAp _
 | d::ds=>by
  have:=jf ds
  have:=uL d
  simp only [List.length_cons,szs]
  lia
theorem jg:∀ {ds:List PyData} {d:PyData},d∈ds->sz d<=szs ds
 | x::ds,d,h=>by
  simp only [szs]
  rcases zAo.mp h with e | e
  ·rw [e];lia
  ·have:=jg e
   lia
theorem jh {ds:List PyData}{d:PyData}(h:d∈ds)(hz:sz (.tuple ds)<=4000):sz d<=4000:=by
 have:=jg h
 simp only [sz] at hz
 lia
theorem f9 {S:Addr->Prop}{H:Hp}{xs:List V}{ds:List PyData}(r:IsThs S H xs ds)(hz:sz (.tuple ds)<=4000):xs.length < sizeLine:=by
 have:=jf ds
 have:=r.length
 simp only [sz] at hz
 rw [sizeLine_eq]
 lia
def spT (f:PyData->Bool):Sp:=fun vs H Q _=>∃ S v d,vs=[v]/\IsTh S H v d/\sz d<=4000/\∀ H',Same H H'->Q (.bl (f d)) H'
inductive SpT1I (f:PyData->Int->Bool)(vs:List V)(H:Hp)(Q:VK):Prop
 | mk:∀ S v d n,(vs=[v,.int n])->(IsTh S H v d)->(sz d<=4000)->(∀ H',Same H H'->Q (.bl (f d n)) H')->SpT1I f vs H Q
def yZ (f:PyData->Int->Bool):Sp:=fun vs H Q _=>SpT1I f vs H Q
def lA (f:PyData->Int->Int->Bool):Sp:=fun vs H Q _=>∃ S v d n m,vs=[v,.int n,.int m]/\IsTh S H v d/\sz d<=4000/\∀ H',Same H H'->Q (.bl (f d n m)) H'
structure Mg (mg:Str->Option Value):Prop where
 isinstance:mg "isinstance" = none
 int:mg "int" = none
 bool:mg "bool" = none
 tuple:mg "tuple" = none
 len:mg "len" = none
 all:mg "all" = none
theorem boot_int:bootBuiltins "int" = some (.type "int"):=by decide +kernel
theorem boot_bool:bootBuiltins "bool" = some (.type "bool"):=by decide +kernel
theorem boot_tuple:bootBuiltins "tuple" = some (.type "tuple"):=by decide +kernel
theorem boot_isinstance:bootBuiltins "isinstance" = some (.builtin "isinstance"):=by decide +kernel
theorem boot_all:bootBuiltins "all" = some (.builtin "all"):=by decide +kernel
theorem d9 {K:PySem.W.Frag}{S:Addr->Prop}{te:TE}{src:List (Option Nat)}{i j:Nat}{σ:St}{H:Hp}{Q:VK}{a:Addr}{xs:List V}{ds:List PyData}(f:PyData->Bool)(hσ:σ[i]?=some (some (.ref a)))(ea:H a=some (.tup xs))(r:IsThs S H xs ds)(hl:xs.length < sizeLine)
  (hte:∀ v d H1 Q1,d∈ds->Same H H1->IsTh S H1 v d->(∀ H',Same H1 H'->Q1 (.bl (f d)) H')->te ((capσ σ src).set j (some v)) H1 Q1) (q:∀ H',Same H H'->Q (.bl (ds.all f)) H') :
  tCB (fun xs H Q=>∃ (p:Addr) (bs:List Bool),xs=[.ref p]/\SqL K H p (bs.map V.bl)/\Q (.bl (bs.all id)) H) (kh (vL (Eb K (wV i)) src (bK j) qz te) qw) σ H Q:=by
 refine ⟨_,hσ,a,rfl,⟨xs,SqT.of ea⟩,kW (j:=j) f ea r hl hte fun H2 s2 D hD=>⟨D,ds.map f,rfl,?_,?_⟩⟩
 ·rw [<- sS]
  exact SqL.of ao
 ·rw [yX]
  exact q _ (s2.updR hD)
structure Nums (mg:Str->Option Value):Prop where
 sorts:∃ t,mg "SORTS" = some (.int 3 t)
 holders:∃ t,mg "HOLDERS" = some (.int 8 t)
 year:∃ t,mg "LAST_YEAR" = some (.int 19 t)
 clips:∃ t,mg "MOST_CLIPS" = some (.int 20 t)
 proms:∃ t,mg "MOST_PROMISES" = some (.int 10 t)
 wool:∃ t,mg "MOST_WOOL" = some (.int 999 t)
 sacks:∃ t,mg "MOST_SACKS" = some (.int 99 t)
 price:∃ t,mg "MOST_PRICE" = some (.int 1000000 t)
theorem jL {d:PyData}{n:Int}(h:bu d n=true):bB d n n=true/\∀ x∈items d,cQ x=true:=by
 unfold bu at h
 rw [zAc] at h
 exact ⟨h.1,List.all_eq_true.mp h.2⟩
theorem jM {S:Addr->Prop}{H:Hp}{v:V}{d:PyData}(h:IsTh S H v d)(e:cQ d=true):∃ i,v=.int i/\d=.int i:=by
 cases h with
 | int i=>exact ⟨i,rfl,rfl⟩
 | _=>cases e
theorem ji {α:Type}{n:Nat}{l:List α}(h:l.length=n+1):∃ a t,l=a::t/\t.length=n:=by
 cases l with
 | nil=>cases h
 | cons a t=>exact ⟨a,t,rfl,Nat.succ.inj h⟩
theorem Gq {α:Type}{l:List α}(h:l.length=5):∃ a b c d e,l=[a,b,c,d,e]:=by
 obtain ⟨a,l1,e1,h1⟩:=ji h
 obtain ⟨b,l2,e2,h2⟩:=ji h1
 obtain ⟨c,l3,e3,h3⟩:=ji h2
 obtain ⟨d,l4,e4,h4⟩:=ji h3
 obtain ⟨e,l5,e5,h5⟩:=ji h4
 exact ⟨a,b,c,d,e,by rw [e1,e2,e3,e4,e5,List.length_eq_zero_iff.mp h5]⟩
theorem Gr {α:Type}{l:List α}(h:l.length=6):∃ a b c d e f,l=[a,b,c,d,e,f]:=by
 obtain ⟨a,l1,e1,h1⟩:=ji h
 obtain ⟨b,c,d,e,f,e2⟩:=Gq h1
 exact ⟨a,b,c,d,e,f,by rw [e1,e2]⟩
theorem fP {S:Addr->Prop}{H:Hp}{xs:List V}{d:PyData}{ds:List PyData}(r:IsThs S H xs (d::ds))(e:cQ d=true):∃ i t,xs=.int i::t/\d=.int i/\IsThs S H t ds:=by
 cases r with
 | cons h1 r =>
  obtain ⟨i,rfl,rfl⟩:=jM h1 e
  exact ⟨i,_,rfl,rfl,r⟩
theorem mX {S:Addr->Prop}{H:Hp}{xs:List V}{d:PyData}{ds:List PyData}(r:IsThs S H xs (d::ds)):∃ v t,xs=v::t/\IsTh S H v d/\IsThs S H t ds:=by
 cases r with
 | cons h1 r=>exact ⟨_,_,rfl,h1,r⟩
theorem xK {S:Addr->Prop}{H:Hp}{xs:List V}{ds:List PyData}(r:IsThs S H xs ds)(hl:ds.length=3):∃ v0 v1 v2 d0 d1 d2,xs=[v0,v1,v2]/\ds=[d0,d1,d2]/\IsTh S H v0 d0/\IsTh S H v1 d1/\IsTh S H v2 d2:=by
 obtain ⟨d0,l1,e1,h1⟩:=ji hl
 obtain ⟨d1,l2,e2,h2⟩:=ji h1
 obtain ⟨d2,l3,e3,h3⟩:=ji h2
 have e:ds=[d0,d1,d2]:=by rw [e1,e2,e3,List.length_eq_zero_iff.mp h3]
 subst e
 obtain ⟨v0,t0,f0,i0,r0⟩:=mX r
 obtain ⟨v1,t1,f1,i1,r1⟩:=mX r0
 obtain ⟨v2,t2,f2,i2,r2⟩:=mX r1
 cases r2
 exact ⟨v0,v1,v2,d0,d1,d2,by rw [f0,f1,f2],rfl,i0,i1,i2⟩
theorem za {S:Addr->Prop}{H:Hp}{xs:List V}{ds:List PyData}(r:IsThs S H xs ds)(hl:ds.length=6)(hw:∀ x∈ds,cQ x=true) :
  ∃ i1 i2 i3 i4 i5 i6:Int,xs=[.int i1,.int i2,.int i3,.int i4,.int i5,.int i6]/\ds=[.int i1,.int i2,.int i3,.int i4,.int i5,.int i6]:=by
 obtain ⟨d1,d2,d3,d4,d5,d6,rfl⟩:=Gr hl
 obtain ⟨i1,t1,e1,rfl,r1⟩:=fP r (hw _ (by simp))
 obtain ⟨i2,t2,e2,rfl,r2⟩:=fP r1 (hw _ (by simp))
 obtain ⟨i3,t3,e3,rfl,r3⟩:=fP r2 (hw _ (by simp))
 obtain ⟨i4,t4,e4,rfl,r4⟩:=fP r3 (hw _ (by simp))
 obtain ⟨i5,t5,e5,rfl,r5⟩:=fP r4 (hw _ (by simp))
 obtain ⟨i6,t6,e6,rfl,r6⟩:=fP r5 (hw _ (by simp))
 cases r6
 exact ⟨i1,i2,i3,i4,i5,i6,by rw [e1,e2,e3,e4,e5,e6],rfl⟩
theorem xM {ds:List PyData}{n m:Int}(h:bB (.tuple ds) n m=true):n<=(ds.length:Int)/\(ds.length:Int)<=m:=by
 have h:(true && (decide (n<=(ds.length:Int)) && decide ((ds.length:Int)<=m)))=true:=h
 rw [Bool.true_and,zAc] at h
 exact ⟨of_decide_eq_true h.1,of_decide_eq_true h.2⟩
def Cal (P:Program)(w:World)(K:PySem.W.Frag)(mg:Str->Option Value)(base:Heap)(k:Nat)(x:Str)(ps:List Str)(sp:Sp):Prop :=
 ∃ f fd,FnOk P w K mg base CX0 k f fd ps sp/\mg x=some (.ref f)/\PySem.W.keepIn K (.ref f)=true/\Binds K fd ps []
theorem aK {X:Cx}{k j:Nat}{x:Str}{ps:List Str}{sp:Sp}{p pos:Pos}{e:Expr}{es:List Expr}{t:TA}(c:Cal X.prog X.w X.K X.mg X.base j x ps sp)(hr:Room k X.A)(hjk:j<=k)(hg:Gl X x)(ha:PA X (e::es) t)
  (hdb:(x == ("__debug__" : Str))=false:=by decide) (he:starEach (e::es) X.env=(false,eval e X.env)::starEach es X.env:=by rfl) (hpl:(backTo pos (starEach es X.env)).any (·.1)=false:=by rfl) :
  PE X (.Call (.Name x p) (e::es) [] pos) (yI sp [] E0 t):=by
 obtain ⟨f,fd,F,hm,hk,hb⟩:=c
 exact vB F (hr.mono hjk) hg hm hk hb .nil rR ha hdb he hpl
section
variable {P:Program}{w:World}{K:PySem.W.Frag}{mg:Str->Option Value}{base:Heap}
theorem sc1:FnScope ["thing"] ["thing"] (aJ (top 15)):=⟨rfl,rfl,rfl,by decide +kernel,rfl,by decide +kernel,by decide +kernel⟩
theorem sU {f:Addr}{fd:FuncData}(F:Fun K "is_whole" "is_whole" (top 15) f fd)(T:Mg mg):FnOk P w K mg base CX0 1 f fd ["thing"] (spT cQ):=by
 refine F.ok sc1 (fun vs H Q E h=>?_) (fun cdv A outer s H vs Q E hr h=>?_)
 ·obtain ⟨S,v,d,rfl,_⟩:=h
  rfl
 ·obtain ⟨S,v,d,rfl,th,hz,q⟩:=h
  refine ⟨_,aH (aU (cD (aO gH rfl T.isinstance boot_isinstance (aQ (pv 0) (aQ (qj rfl T.int boot_int (v:=.ty "int") rfl) aj)))
   (dR (DR (aO gH rfl T.isinstance boot_isinstance (aQ (pv 0) (aQ (qj rfl T.bool boot_bool (v:=.ty "bool") rfl) aj))))))),?_⟩
  refine ⟨_,rfl,v,_,"int",mO d,rfl,th.ty,Bv d,_,rfl,?_⟩
  have fin:=q H (Same.refl H)
  unfold cQ at fin
  cases e:mO d with
  | false =>
   rw [e] at fin
   exact bD fin
  | true =>
   rw [e] at fin
   exact cj ⟨_,rfl,v,_,"bool",lF d,rfl,th.ty,yW d,_,rfl,fin⟩
theorem sc2:FnScope ["thing","fewest","most"] ["thing","fewest","most"] (aJ (top 17)):=⟨rfl,rfl,rfl,by decide +kernel,rfl,by decide +kernel,by decide +kernel⟩
theorem mY {f:Addr}{fd:FuncData}(F:Fun K "is_tuple_of" "is_tuple_of" (top 17) f fd)(T:Mg mg):FnOk P w K mg base CX0 1 f fd ["thing","fewest","most"] (lA bB):=by
 refine F.ok sc2 (fun vs H Q E h=>?_) (fun cdv A outer s H vs Q E hr h=>?_)
 ·obtain ⟨S,v,d,n,m,rfl,_⟩:=h
  rfl
 ·obtain ⟨S,v,d,n,m,rfl,th,hz,q⟩:=h
  refine ⟨_,aH (aU (cD (aO gH rfl T.isinstance boot_isinstance (aQ (pv 0) (aQ (qj rfl T.tuple boot_tuple (v:=.ty "tuple") rfl) aj)))
   (dR (cO bO bO (pv 1) (aO bj rfl T.len PySem.boot_len (aQ (pv 0) aj)) (pv 2))))),?_⟩
  refine ⟨_,rfl,v,_,"tuple",mQ d,rfl,th.ty,Bw d,_,rfl,?_⟩
  have fin:=q H (Same.refl H)
  unfold bB at fin
  cases e:mQ d with
  | false =>
   rw [e] at fin
   exact bD fin
  | true =>
   rw [e] at fin
   refine cj ?_
   cases th with
   | @tup a xs ds ea r =>
    have hl:=r.length
    refine ⟨_,rfl,_,rfl,a,xs,rfl,.inr (SqT.of ea),_,_,rfl,rfl,_,rfl,?_⟩
    rw [hl]
    have fin:Q (.bl (true && (decide (n<=(ds.length:Int)) && decide ((ds.length:Int)<=m)))) H:=fin
    cases e1:decide (n<=(ds.length:Int)) with
    | false =>
     rw [e1] at fin
     exact bD fin
    | true =>
     rw [e1] at fin
     exact cj ⟨_,rfl,_,_,rfl,rfl,fin⟩
   | _=>cases e
theorem sc3:FnScope ["thing","many"] ["thing","many"] (aJ (top 18)):=⟨rfl,rfl,rfl,by decide +kernel,rfl,by decide +kernel,by decide +kernel⟩
theorem oG {f:Addr}{fd:FuncData}(F:Fun K "are_wholes" "are_wholes" (top 18) f fd)(T:Mg mg)(c1:Cal P w K mg base 1 "is_whole" ["thing"] (spT cQ))(c2:Cal P w K mg base 1 "is_tuple_of" ["thing","fewest","most"] (lA bB)) :
  FnOk P w K mg base CX0 2 f fd ["thing","many"] (yZ bu):=by
 refine F.ok sc3 (fun vs H Q E h=>?_) (fun cdv A outer s H vs Q E hr h=>?_)
 ·obtain ⟨S,v,d,n,rfl,_⟩:=h
  rfl
 ·obtain ⟨S,v,d,n,rfl,th,hz,q⟩:=h
  refine ⟨_,aH (aU (cD (aK c2 hr (zA3 _) rfl (aQ (pv 0) (aQ (pv 1) (aQ (pv 1) aj))))
   (dR (aO (dM rfl) rfl T.all boot_all (aQ (bZ ["part"] [none] rfl (dU (pv 0))
    (fun C fp pins s₂ H₂=>⟨au (i:=0) (nd1 _) rfl (Or.inl rfl),bT,aK c1 hr (zA3 _) rfl (aQ (pv 0) aj)⟩) (fun C=>trivial) ⟨rfl,rfl,rfl,rfl⟩) aj))))),?_⟩
  refine ⟨_,rfl,_,rfl,_,rfl,S,v,d,n,n,rfl,th,hz,fun H1 s1=>⟨_,rfl,?_⟩⟩
  have th1:=th.same s1
  cases e:bB d n n with
  | false =>
   refine bD ?_
   have fin:=q H1 s1
   unfold bu at fin
   rw [e] at fin
   exact fin
  | true =>
   refine cj ?_
   cases th1 with
   | @tup a xs ds ea r =>
    have ew:bu (.tuple ds) n=ds.all cQ:=by unfold bu;rw [e];rfl
    refine d9 cQ rfl ea r (f9 r hz) (fun v d H2 Q2 hm s2 t2 q2=>⟨_,rfl,S,v,d,rfl,t2,jh hm hz,q2⟩) fun H2 s2=>?_
    rw [<- ew]
    exact q _ (s1.trans s2)
   | _=>cases e
theorem sc13:FnScope ["thing"] ["thing"] (aJ (top 29)):=⟨rfl,rfl,rfl,by decide +kernel,rfl,by decide +kernel,by decide +kernel⟩
theorem uM {f:Addr}{fd:FuncData}(F:Fun K "is_clip" "is_clip" (top 29) f fd)(T:Mg mg)(N:Nums mg)(c1:Cal P w K mg base 2 "are_wholes" ["thing","many"] (yZ bu)) :
  FnOk P w K mg base CX0 3 f fd ["thing"] (spT kY):=by
 refine F.ok sc13 (fun vs H Q E h=>?_) (fun cdv A outer s H vs Q E hr h=>?_)
 ·obtain ⟨S,v,d,rfl,_⟩:=h
  rfl
 ·obtain ⟨S,v,d,rfl,th,hz,q⟩:=h
  obtain ⟨t3,e3⟩:=N.sorts
  obtain ⟨t9,e9⟩:=N.wool
  refine ⟨_,aH (aU (cD (aK c1 hr (zA3 _) rfl (aQ (pv 0) (aQ (bR (v:=.int 3) rfl e3 ⟨_,rfl⟩) aj)))
   (dR (aO (dM rfl) rfl T.all boot_all (aQ (bZ ["sacks"] [none] rfl (dU (pv 0))
    (fun C fp pins s₂ H₂=>⟨au (i:=0) (nd1 _) rfl (Or.inl rfl),bT,cO bO bO aA (pv 0) (bR (v:=.int 999) rfl e9 ⟨_,rfl⟩)⟩) (fun C=>trivial) ⟨rfl,rfl,rfl,rfl⟩) aj))))),?_⟩
  refine ⟨_,rfl,S,v,d,3,rfl,th,hz,fun H1 s1=>⟨_,rfl,?_⟩⟩
  have th1:=th.same s1
  have fin:=fun H' (s:Same H H')=>q H' s
  unfold kY at fin
  cases e:bu d 3 with
  | false =>
   rw [e] at fin
   exact bD (fin _ s1)
  | true =>
   rw [e] at fin
   refine cj ?_
   obtain ⟨e1,e2⟩:=jL e
   cases th1 with
   | @tup a xs ds ea r =>
    refine d9 (fun x=>decide (0<=intOf x) && decide (intOf x<=999)) rfl ea r (f9 r hz) (fun v d H2 Q2 hm s2 t2 q2=>?_) fun H2 s2=>fin _ (s1.trans s2)
    obtain ⟨i,rfl,rfl⟩:=jM t2 (e2 d hm)
    refine ⟨_,rfl,_,_,rfl,rfl,_,rfl,?_⟩
    have q3:=q2 H2 (Same.refl _)
    show if decide ((0:Int)<=i)=true then _ else _
    cases e5:decide ((0:Int)<=i) with
    | false =>
     refine bD ?_
     have q3:Q2 (.bl (decide ((0:Int)<=i) && decide (i<=999))) H2:=q3
     rw [e5] at q3
     exact q3
    | true =>
     refine cj ⟨_,_,rfl,rfl,?_⟩
     have q3:Q2 (.bl (decide ((0:Int)<=i) && decide (i<=999))) H2:=q3
     rw [e5] at q3
     exact q3
   | _=>cases e1
theorem sc14:FnScope ["thing"] ["thing"] (aJ (top 30)):=⟨rfl,rfl,rfl,by decide +kernel,rfl,by decide +kernel,by decide +kernel⟩
theorem qO {f:Addr}{fd:FuncData}(F:Fun K "are_clips" "are_clips" (top 30) f fd)(T:Mg mg)(N:Nums mg)(c1:Cal P w K mg base 3 "is_clip" ["thing"] (spT kY))(c2:Cal P w K mg base 1 "is_tuple_of" ["thing","fewest","most"] (lA bB)) :
  FnOk P w K mg base CX0 4 f fd ["thing"] (spT gP):=by
 refine F.ok sc14 (fun vs H Q E h=>?_) (fun cdv A outer s H vs Q E hr h=>?_)
 ·obtain ⟨S,v,d,rfl,_⟩:=h
  rfl
 ·obtain ⟨S,v,d,rfl,th,hz,q⟩:=h
  obtain ⟨t3,e3⟩:=N.clips
  refine ⟨_,aH (aU (cD (aK c2 hr (by decide) rfl (aQ (pv 0) (aQ aA (aQ (bR (v:=.int 20) rfl e3 ⟨_,rfl⟩) aj))))
   (dR (aO (dM rfl) rfl T.all boot_all (aQ (bZ ["part"] [none] rfl (dU (pv 0))
    (fun C fp pins s₂ H₂=>⟨au (i:=0) (nd1 _) rfl (Or.inl rfl),bT,aK c1 hr (by decide) rfl (aQ (pv 0) aj)⟩) (fun C=>trivial) ⟨rfl,rfl,rfl,rfl⟩) aj))))),?_⟩
  refine ⟨_,rfl,S,v,d,1,20,rfl,th,hz,fun H1 s1=>⟨_,rfl,?_⟩⟩
  have th1:=th.same s1
  have fin:=fun H' (s:Same H H')=>q H' s
  unfold gP at fin
  cases e:bB d 1 20 with
  | false =>
   rw [e] at fin
   exact bD (fin _ s1)
  | true =>
   rw [e] at fin
   refine cj ?_
   cases th1 with
   | @tup a xs ds ea r=>exact d9 kY rfl ea r (f9 r hz) (fun v d H2 Q2 hm s2 t2 q2=>⟨_,rfl,S,v,d,rfl,t2,jh hm hz,q2⟩) fun H2 s2=>fin _ (s1.trans s2)
   | _=>cases e
theorem sc15:FnScope ["thing","holder","sort","first","last","sacks","price"] ["thing"] (aJ (top 31)):=⟨rfl,rfl,rfl,by decide +kernel,rfl,by decide +kernel,by decide +kernel⟩
theorem oH {f:Addr}{fd:FuncData}(F:Fun K "is_promise" "is_promise" (top 31) f fd)(T:Mg mg)(N:Nums mg)(c1:Cal P w K mg base 2 "are_wholes" ["thing","many"] (yZ bu)) :
  FnOk P w K mg base CX0 3 f fd ["thing"] (spT gQ):=by
 refine F.ok sc15 (fun vs H Q E h=>?_) (fun cdv A outer s H vs Q E hr h=>?_)
 ·obtain ⟨S,v,d,rfl,_⟩:=h
  rfl
 ·obtain ⟨S,v,d,rfl,th,hz,q⟩:=h
  obtain ⟨t1,e1⟩:=N.holders
  obtain ⟨t2,e2⟩:=N.sorts
  obtain ⟨t3,e3⟩:=N.year
  obtain ⟨t4,e4⟩:=N.sacks
  obtain ⟨t5,e5⟩:=N.price
  refine ⟨_,aB (cu (bY (cN (aK c1 hr (zA3 _) rfl (aQ (pv 0) (aQ aA aj))))) (aH (aU gD)) bh)
   (aB (cB (pv 0) (bU rfl (aq (au (i:=1) sc15.nd rfl (Or.inl rfl)) (aq (au (i:=2) sc15.nd rfl (Or.inl rfl)) (aq (au (i:=3) sc15.nd rfl (Or.inl rfl))
    (aq (au (i:=4) sc15.nd rfl (Or.inl rfl)) (aq (au (i:=5) sc15.nd rfl (Or.inl rfl)) (aq (au (i:=6) sc15.nd rfl (Or.inl rfl)) aY))))))))
   (aH (aU (cD (cO bO mq aA (pv 1) (bR (v:=.int 8) rfl e1 ⟨_,rfl⟩)) (cD (cO bO mq aA (pv 2) (bR (v:=.int 3) rfl e2 ⟨_,rfl⟩))
    (cD (xH bO bO bO aA (pv 3) (pv 4) (bR (v:=.int 19) rfl e3 ⟨_,rfl⟩)) (cD (cO bO bO aA (pv 5) (bR (v:=.int 99) rfl e4 ⟨_,rfl⟩))
     (dR (cO bO bO aA (pv 6) (bR (v:=.int 1000000) rfl e5 ⟨_,rfl⟩)))))))))),?_⟩
  refine ⟨_,rfl,S,v,d,6,rfl,th,hz,fun H1 s1=>⟨_,rfl,?_⟩⟩
  have th1:=th.same s1
  have fin:=fun H' (s:Same H H')=>q H' s
  unfold gQ at fin
  cases e:bu d 6 with
  | false =>
   rw [e] at fin
   exact cj (fin _ s1)
  | true =>
   rw [e] at fin
   refine bD ?_
   obtain ⟨z1,z2⟩:=jL e
   cases th1 with
   | @tup a xs ds ea r =>
    have hl:ds.length=6:=by
     have:=xM z1
     lia
    obtain ⟨i1,i2,i3,i4,i5,i6,rfl,rfl⟩:=za r hl z2
    refine ⟨_,rfl,a,_,rfl,SqT.of ea,rfl,_,_,rfl,_,_,rfl,_,_,rfl,_,_,rfl,_,_,rfl,_,_,rfl,rfl,?_⟩
    refine gK (bV eF (dw rfl) eF) (fun _=>gK (bV eF (dw rfl) eF) fun _=>gK (xJ eF (dw rfl) (dw rfl) eF) fun _=>gK (bV eF (dw rfl) eF) fun _=>bV eF (dw rfl) eF) _ ?_
    exact fin H1 s1
   | _=>cases z1
theorem Ir:FnScope ["thing"] ["thing"] (aJ (top 32)):=⟨rfl,rfl,rfl,by decide +kernel,rfl,by decide +kernel,by decide +kernel⟩
theorem lB {f:Addr}{fd:FuncData}(F:Fun K "are_promises" "are_promises" (top 32) f fd)(T:Mg mg)(N:Nums mg)(c1:Cal P w K mg base 3 "is_promise" ["thing"] (spT gQ))(c2:Cal P w K mg base 1 "is_tuple_of" ["thing","fewest","most"] (lA bB)) :
  FnOk P w K mg base CX0 4 f fd ["thing"] (spT dY):=by
 refine F.ok Ir (fun vs H Q E h=>?_) (fun cdv A outer s H vs Q E hr h=>?_)
 ·obtain ⟨S,v,d,rfl,_⟩:=h
  rfl
 ·obtain ⟨S,v,d,rfl,th,hz,q⟩:=h
  obtain ⟨t3,e3⟩:=N.proms
  refine ⟨_,aH (aU (cD (aK c2 hr (by decide) rfl (aQ (pv 0) (aQ aA (aQ (bR (v:=.int 10) rfl e3 ⟨_,rfl⟩) aj))))
   (dR (aO (dM rfl) rfl T.all boot_all (aQ (bZ ["part"] [none] rfl (dU (pv 0))
    (fun C fp pins s₂ H₂=>⟨au (i:=0) (nd1 _) rfl (Or.inl rfl),bT,aK c1 hr (by decide) rfl (aQ (pv 0) aj)⟩) (fun C=>trivial) ⟨rfl,rfl,rfl,rfl⟩) aj))))),?_⟩
  refine ⟨_,rfl,S,v,d,0,10,rfl,th,hz,fun H1 s1=>⟨_,rfl,?_⟩⟩
  have th1:=th.same s1
  have fin:=fun H' (s:Same H H')=>q H' s
  unfold dY at fin
  cases e:bB d 0 10 with
  | false =>
   rw [e] at fin
   exact bD (fin _ s1)
  | true =>
   rw [e] at fin
   refine cj ?_
   cases th1 with
   | @tup a xs ds ea r=>exact d9 gQ rfl ea r (f9 r hz) (fun v d H2 Q2 hm s2 t2 q2=>⟨_,rfl,S,v,d,rfl,t2,jh hm hz,q2⟩) fun H2 s2=>fin _ (s1.trans s2)
   | _=>cases e
end
end K74

namespace K74
open PySem L2
def oJ (d:PyData)(lo hi:Int):Bool:=cQ d && (decide (lo<=intOf d) && decide (intOf d<=hi))
section
variable {P:Program}{w:World}{K:PySem.W.Frag}{mg:Str->Option Value}{base:Heap}
end
end K74


namespace K74
open PySem L2
def dD (H:Hp)(st:Addr):Prop:=∃ a b:Int,H st=some (.lst [.int a,.int b])/\0<=a/\0<=b/\b < 4294967296
def But (st:Addr)(H H':Hp):Prop:=∀ b o,H b=some o->b≠st->H' b=some o
inductive SpCellI (K:PySem.W.Frag)(vs:List V)(H:Hp)(Q:VK):Prop
 | mk:∀ (a:Addr) (ns:List Int) (k:Int),(vs=[.ref a,.int k])->(SqL K H a (ns.map V.int))->(0<=k)->(∀ i,Q (.int i) H)->SpCellI K vs H Q
def zb (K:PySem.W.Frag):Sp:=fun vs H Q _=>SpCellI K vs H Q
inductive SpStateI (K:PySem.W.Frag)(vs:List V)(H:Hp)(Q:VK):Prop
 | mk:∀ (a:Addr) (ns:List Int) (k:Int),(vs=[.ref a,.int k])->(SqL K H a (ns.map V.int))->(0<=k)->(∀ (p:Addr) (x y:Int),H p=none->0<=x->0<=y->y < 4294967296->Q (.ref p) (upd H p (.lst [.int x,.int y])))->SpStateI K vs H Q
def vP (K:PySem.W.Frag):Sp:=fun vs H Q _=>SpStateI K vs H Q
inductive SpTakeI (vs:List V)(H:Hp)(Q:VK):Prop
 | mk:∀ (st:Addr) (n:Int),(vs=[.ref st,.int n])->(dD H st)->(1<=n)->(n < 1073741824)->(∀ r a' b':Int,0<=r->r < n->0<=a'->0<=b'->b' < 4294967296->Q (.int r) (upd H st (.lst [.int a',.int b'])))->SpTakeI  vs H Q
def jN:Sp:=fun vs H Q _=>SpTakeI  vs H Q
section
variable {P:Program}{w:World}{K:PySem.W.Frag}{mg:Str->Option Value}{base:Heap}
theorem Iu:FnScope ["_law_script","_law_k"] ["_law_script","_law_k"] (aJ (top 69)):=⟨rfl,rfl,rfl,by decide +kernel,rfl,by decide +kernel,by decide +kernel⟩
theorem Bx {f:Addr}{fd:FuncData}(F:Fun K "_law_cell_at" "_law_cell_at" (top 69) f fd)(T:Mg mg):FnOk P w K mg base CX0 1 f fd ["_law_script","_law_k"] (zb K):=by
 refine F.ok Iu (fun vs H Q E h=>?_) (fun cdv A outer s H vs Q E hr h=>?_)
 ·obtain ⟨a,ns,k,rfl,_⟩:=h
  rfl
 ·obtain ⟨a,ns,k,rfl,hS,h0,q⟩:=h
  refine ⟨_,aB (cu (bJ mq (pv 1) (aO bj rfl T.len PySem.boot_len (aQ (pv 0) aj)) (bI _)) (aH (aU (aZ bF (pv 0) (pv 1) (fun _ _=>rfl)))) bh) (aH (aU aA)),?_⟩
  refine ⟨_,rfl,_,rfl,a,_,rfl,.inl hS,_,_,rfl,rfl,_,rfl,?_⟩
  refine Bq (fun c=>?_) (fun _=>q 0)
  have c:=of_decide_eq_true c
  rw [zA1] at c
  have hk:k.toNat < ns.length:=by lia
  refine ⟨_,rfl,_,rfl,a,_,k,.int ns[k.toNat],rfl,rfl,hS,?_,q _⟩
  have e:(ns.map V.int)[k.toNat]?=some (.int ns[k.toNat]):=by rw [zAb,zA0 hk];rfl
  have:=gh e
  rw [show ((k.toNat:Nat):Int)=k by lia] at this
  exact this
theorem sc19:FnScope ["_law_script","_law_k","_law_cell"] ["_law_script","_law_k"] (aJ (top 70)):=⟨rfl,rfl,rfl,by decide +kernel,rfl,by decide +kernel,by decide +kernel⟩
theorem zc {f:Addr}{fd:FuncData}(F:Fun K "_law_state" "_law_state" (top 70) f fd)(c1:Cal P w K mg base 1 "_law_cell_at" ["_law_script","_law_k"] (zb K)):FnOk P w K mg base CX0 2 f fd ["_law_script","_law_k"] (vP K):=by
 refine F.ok sc19 (fun vs H Q E h=>?_) (fun cdv A outer s H vs Q E hr h=>?_)
 ·obtain ⟨a,ns,k,rfl,_⟩:=h
  rfl
 ·obtain ⟨a,ns,k,rfl,hS,h0,q⟩:=h
  refine ⟨_,aB (bf (i:=2) sc19.nd rfl (Or.inl rfl) (aK c1 hr (zA3 _) rfl (aQ (pv 0) (aQ (pv 1) aj))))
   (aB (cu (bJ vz (pv 2) (aV uo aA aA) (bI _)) (aH (aU (cC (az (aV dW (pv 2) (aV uo aA aA)) (az (aV bM (aV fZ (pv 2) aA) aA) aj))))) bh)
   (aH (aU (cC (az aA (az (aV bM (aV fZ (pv 2) aA) aA) aj)))))),?_⟩
  refine ⟨_,rfl,_,rfl,a,ns,k,rfl,hS,h0,fun c=>?_⟩
  refine ⟨_,rfl,_,_,rfl,rfl,⟨by decide,by decide,by decide⟩,_,_,rfl,rfl,_,rfl,?_⟩
  refine Bq (fun hc=>?_) (fun _=>?_)
  ·have hc:=of_decide_eq_true hc
   refine ⟨_,rfl,_,_,rfl,rfl,⟨by decide,by decide,by decide⟩,_,_,rfl,rfl,_,rfl,_,_,rfl,rfl,(by show (0:Int) < 2147483629;decide),_,_,rfl,rfl,(by show 2<=sizeLine;decide),fun p hp=>?_⟩
   refine q p _ _ hp ?_ ?_ ?_
   ·show 0<=c - (10:Int) ^ 18
    have hc:(10:Int) ^ 18<=c:=hc
    lia
   ·show 0<=c % 2147483629+1
    lia
   ·show c % 2147483629+1 < 4294967296
    lia
  ·refine ⟨_,rfl,_,_,rfl,rfl,(by show (0:Int) < 2147483647;decide),_,_,rfl,rfl,(by show 2<=sizeLine;decide),fun p hp=>?_⟩
   refine q p _ _ hp (Int.le_refl 0) ?_ ?_
   ·show 0<=c % 2147483647+1
    lia
   ·show c % 2147483647+1 < 4294967296
    lia
theorem sc20:FnScope ["_law_state_here","_law_many","_law_found","_law_stirred"] ["_law_state_here","_law_many"] (aJ (top 71)):=⟨rfl,rfl,rfl,by decide +kernel,rfl,by decide +kernel,by decide +kernel⟩
theorem By {f:Addr}{fd:FuncData}(F:Fun K "_law_take" "_law_take" (top 71) f fd):FnOk P w K mg base CX0 1 f fd ["_law_state_here","_law_many"] jN:=by
 refine F.ok sc20 (fun vs H Q E h=>?_) (fun cdv A outer s H vs Q E hr h=>?_)
 ·obtain ⟨st,n,rfl,_⟩:=h
  rfl
 ·obtain ⟨st,n,rfl,⟨a,b,es,ha,hb,hb2⟩,h1,h2,q⟩:=h
  refine ⟨_,aB (cu (bJ rN (aZ bF (pv 0) aA (fun _ _=>rfl)) aA (bI _))
    (aB (bf (i:=2) sc20.nd rfl (Or.inl rfl) (aV fZ (aZ bF (pv 0) aA (fun _ _=>rfl)) (pv 1)))
     (aB (cB (aV qu (aZ bF (pv 0) aA (fun _ _=>rfl)) (pv 1)) (qm (pv 0) aA set_list)) (aH (aU (pv 2))))) bh)
   (aB (cB (aV fZ (aV bM (aV gG (aZ bF (pv 0) aA (fun _ _=>rfl)) aA) aA) aA) (qm (pv 0) aA set_list))
   (aB (bf (i:=3) sc20.nd rfl (Or.inl rfl) (aV fZ (aV bM (aV bM (aV gG (aZ bF (pv 0) aA (fun _ _=>rfl)) (aZ bF (pv 0) aA (fun _ _=>rfl))) (aV gG aA (aZ bF (pv 0) aA (fun _ _=>rfl)))) aA) aA))
   (aB (bf (i:=3) sc20.nd rfl (Or.inl rfl) (aV fZ (aV bM (aV bM (aV gG (pv 3) (pv 3)) (aV gG aA (pv 3))) aA) aA))
   (aH (aU (aV fZ (aV qu (pv 3) aA) (pv 1))))))),?_⟩
  refine ⟨_,rfl,st,_,0,.int a,rfl,rfl,SqL.of es,rfl,_,_,rfl,rfl,_,rfl,?_⟩
  refine Bq (fun hc=>?_) (fun _=>?_)
  ·refine ⟨_,rfl,st,_,0,.int a,rfl,rfl,SqL.of es,rfl,_,rfl,_,_,rfl,rfl,(by show 0 < n;lia),?_⟩
   refine ⟨_,rfl,st,_,0,.int a,rfl,rfl,SqL.of es,rfl,_,rfl,_,_,rfl,rfl,⟨by lia,h2⟩,_,rfl,st,_,0,0,rfl,rfl,es,rfl,_,rfl,?_⟩
   exact q (a % n) (a / n) b (Int.emod_nonneg a (by lia)) (Int.emod_lt_of_pos a (by lia)) (Int.ediv_nonneg ha (by lia)) hb hb2
  ·refine ⟨_,rfl,st,_,1,.int b,rfl,rfl,SqL.of es,rfl,_,_,rfl,rfl,.inl ⟨by lia,by lia⟩,_,_,rfl,rfl,_,_,rfl,rfl,(by show (0:Int) < 2147483647;decide),_,rfl,st,_,1,1,rfl,rfl,es,rfl,?_⟩
   have hm0:0<=(b * 48271+29) % 2147483647:=Int.emod_nonneg _ (by decide)
   have hm1:(b * 48271+29) % 2147483647 < 2147483647:=Int.emod_lt_of_pos _ (by decide)
   obtain ⟨m,hm⟩:∃ m,m=(b * 48271+29) % 2147483647:=⟨_,rfl⟩
   rw [<- hm] at hm0 hm1
   have eL:([V.int a,V.int b].set 1 ((fun i j:Int=>V.int (i % j)) (b * 48271+29) 2147483647))=[V.int a,V.int m]:=by rw [hm];rfl
   rw [eL]
   have es':upd H st (.lst [.int a,.int m]) st=some (.lst [.int a,.int m]):=ao
   refine ⟨_,rfl,st,_,1,.int m,rfl,rfl,SqL.of es',rfl,_,rfl,st,_,1,.int m,rfl,rfl,SqL.of es',rfl,_,_,rfl,rfl,.inl ⟨by lia,by lia⟩,_,rfl,st,_,1,.int m,rfl,rfl,SqL.of es',rfl,_,_,rfl,rfl,.inl ⟨by decide,by decide⟩,_,_,rfl,rfl,_,_,rfl,rfl,_,_,rfl,rfl,(by show (0:Int) < 2147483629;decide),?_⟩
   have hx0:0<=(m * m+39373 * m+7) % 2147483629:=Int.emod_nonneg _ (by decide)
   have hx1:(m * m+39373 * m+7) % 2147483629 < 2147483629:=Int.emod_lt_of_pos _ (by decide)
   refine ⟨_,rfl,_,rfl,_,_,rfl,rfl,.inl ⟨Int.lt_of_lt_of_le (by decide) hx0,Int.lt_trans hx1 (by decide)⟩,_,rfl,_,_,rfl,rfl,.inl ⟨by decide,by decide⟩,_,_,rfl,rfl,_,_,rfl,rfl,_,_,rfl,rfl,(by show (0:Int) < 2147483587;decide),?_⟩
   refine ⟨_,rfl,_,_,rfl,rfl,⟨by decide,by decide⟩,_,rfl,_,_,rfl,rfl,(by show 0 < n;lia),?_⟩
   exact q _ a m (Int.emod_nonneg _ (by lia)) (Int.emod_lt_of_pos _ (by lia)) ha hm0 (by lia)
end
end K74





namespace K74
open PySem L2
theorem sV {X:Cx}{K:PySem.W.Frag}(hK:X.K=K):IxR X (Ge K):=by
 subst hK
 exact bF
theorem Iv:(["_law_sort","_law_state_here","_law_wide"]:List Str).Nodup:=by decide +kernel
section
variable {P:Program}{w:World}{K:PySem.W.Frag}{mg:Str->Option Value}{base:Heap}
theorem sc21:FnScope ["_law_state_here","_law_most","_law_wide","_law_found","_law_turn"] ["_law_state_here","_law_most"] (aJ (top 72)):=⟨rfl,rfl,rfl,by decide +kernel,rfl,by decide +kernel,by decide +kernel⟩
end
end K74

namespace K74
open PySem L2
structure Mk3 (st p3:Addr)(xs:List V)(ds:List PyData)(H H':Hp):Prop where
 bt:But st H H'
 sa:dD H' st
 e3:H' p3=some (.lst xs)
 ts:IsThs (fun _=>False) H' xs ds
theorem Mk3.take {st p3:Addr}{xs:List V}{ds:List PyData}{H H':Hp}(g:Mk3 st p3 xs ds H H')(np:p3≠st){a b:Int}(h1:0<=a)(h2:0<=b)(h3:b < 4294967296):Mk3 st p3 xs ds H (upd H' st (.lst [.int a,.int b])):=by
 refine ⟨fun b' o' e' ne=>?_,⟨a,b,ao,h1,h2,h3⟩,by rw [aD np];exact g.e3,g.ts.keep (fun c l e=>?_) (fun _ _ z _=>z.elim) fun _ _ z _=>z.elim⟩
 ·rw [aD ne]
  exact g.bt b' o' e' ne
 ·obtain ⟨x,y,e7,_⟩:=g.sa
  have:c≠st:=fun z=>by
   rw [z,e7] at e
   cases e
  rw [aD this]
  exact e
theorem Mk3.new {st p3 p:Addr}{xs:List V}{ds:List PyData}{H H':Hp}{o:HO}(g:Mk3 st p3 xs ds H H')(hp:H' p=none):Mk3 st p3 xs ds H (upd H' p o):=by
 obtain ⟨x,y,e7,k⟩:=g.sa
 exact ⟨fun b' o' e' ne=>Same.upd hp _ _ (g.bt b' o' e' ne),⟨x,y,Same.upd hp _ _ e7,k⟩,Same.upd hp _ _ g.e3,g.ts.same (Same.upd hp)⟩
section
variable {P:Program}{w:World}{K:PySem.W.Frag}{mg:Str->Option Value}{base:Heap}
theorem boot_min:bootBuiltins "min" = some (.builtin "min"):=by decide +kernel
theorem sc22:FnScope ["_law_state_here","_law_most","_law_years","_law_found","_law_wide","_law_turn","_law_first","_law_last","_law_price","_law_holder"] ["_law_state_here","_law_most","_law_years"] (aJ (top 73)):=⟨rfl,rfl,rfl,by decide +kernel,rfl,by decide +kernel,by decide +kernel⟩
end
end K74

namespace K74
open PySem L2
structure Dr (st:Addr)(H H':Hp):Prop where
 bt:But st H H'
 sa:dD H' st
theorem But.refl {st:Addr}{H:Hp}:But st H H:=fun _ _ e _=>e
theorem Dr.same {st:Addr}{H H1 H2:Hp}(g:Dr st H H1)(s:Same H1 H2):Dr st H H2:=by
 obtain ⟨a,b,e,k⟩:=g.sa
 exact ⟨fun b' o' e' ne=>s _ _ (g.bt b' o' e' ne),a,b,s _ _ e,k⟩
theorem Dr.trans {st:Addr}{H H1 H2:Hp}(g:Dr st H H1)(g':Dr st H1 H2):Dr st H H2:=⟨fun b' o' e' ne=>g'.bt _ _ (g.bt b' o' e' ne) ne,g'.sa⟩
theorem Dr.take {st:Addr}{H H1:Hp}(g:Dr st H H1){a b:Int}(h1:0<=a)(h2:0<=b)(h3:b < 4294967296):Dr st H (upd H1 st (.lst [.int a,.int b])) :=
 ⟨fun b' o' e' ne=>by rw [aD ne];exact g.bt b' o' e' ne,a,b,ao,h1,h2,h3⟩
theorem Dr.new {st p:Addr}{o:HO}{H H1:Hp}(g:Dr st H H1)(hp:H1 p=none):Dr st H (upd H1 p o):=g.same (Same.upd hp)
theorem Dr.ne {st p:Addr}{H H1:Hp}(g:Dr st H H1)(hp:H1 p=none):p≠st:=fun z=>by
 obtain ⟨a,b,e,_⟩:=g.sa
 rw [z,e] at hp
 cases hp
section
variable {P:Program}{w:World}{K:PySem.W.Frag}{mg:Str->Option Value}{base:Heap}
end
end K74

namespace L2
open PySem PySem.Spec PyProof.Rows
theorem xN {prog:Program}{w:World}{A:Around}(hh:A.handled=none)(it t:Addr)(hne:t≠it)(its:Array Value) :
  Draws prog w A it [it,t] its.size (fun i v=>its[i]?=some v) (fun i h=>h.IsTupleIter it t i/\h.IsTuple t its) where
 live:=fun _ _ st=>let ⟨o,ho,_⟩:=st.1;⟨o,ho⟩
 frame:=fun _ _ _ st hk=>by
  obtain ⟨⟨o,h1,r1⟩,⟨o2,h2,r2⟩⟩:=st
  exact ⟨⟨o,hk it (by simp) o h1,r1⟩,⟨o2,hk t (by simp) o2 h2,r2⟩⟩
 item:=fun i s Q E hi st hQ=>by
  refine Et st.1 st.2 (x:=its[i]) (by simp [hi]) fun h' h1 h2=>hQ _ h' s.toks (by simp [hi]) ⟨h1,?_⟩ h2
  obtain ⟨o,e,r⟩:=st.2
  exact ⟨o,h2.extBut _ _ hne e,r⟩
 done:=fun s Q E st hE=>mU hh st.1 st.2 (by simp) hE
theorem mZ (t:Addr)(its:Array Value) :
  Meets (Builtin.«enumerate.__new__» ⟨[.type "enumerate",.ref t],[]⟩) (fun _ R s=>s.heap.IsTuple t its /\
   R (.ok (.ret (.ref (zA s.heap t).objs.size))) { s with heap:=(zA s.heap t).push { cls:=.type "enumerate",data:=.fields #[.none,.bool false,.ref s.heap.objs.size,rawInt 0,.none,.none] } }) :=
 .of_wp fun prog w A R s h=>by
  obtain ⟨hp,g,d,tk,os⟩:=s
  obtain ⟨ht,h⟩:=h
  have hsub:=sub_enumerate
  have hT:Heap.IsTuple (Shared.heap ⟨hp,g,d,tk,os⟩) t its:=ht
  wp_walk
  refine wpAny_stack_any fun st=>wpAny_pure ?_
  split
  ·rename_i c _ _ _ _ _
   cases (c == Value.type "enumerate")
   ·wp_walk using wpAny_pyIter_tuple hT
    exact ⟨_,rfl,h⟩
   ·wp_walk using wpAny_pyIter_tuple hT
    exact ⟨_,rfl,h⟩
  ·wp_walk using wpAny_pyIter_tuple hT
   exact ⟨_,rfl,h⟩
theorem oK {prog:Program}{w:World}{A:Around}{E:Value->Shared->Prop}{s:Shared}{t:Addr}{its:Array Value}{Q:Value->Shared->Prop}(ht:s.heap.IsTuple t its)
  (h:∀ h',IsEnum h' (s.heap.objs.size+1) s.heap.objs.size 0 .none->h'.IsTupleIter s.heap.objs.size t 0->(∀ c o,s.heap.get? c=some o->h'.get? c=some o)->Q (.ref (s.heap.objs.size+1)) { s with heap:=h' }) :
  wpAny (model prog w) A (call (.type "enumerate") [.ref t]) Q E s:=by
 refine callType_new F.called_enumerate (by decide) (F.typeCall_enumerate_1 _) (F.newCall_enumerate_1 _) (fun obj=>F.args_object_init_2 obj _) F.entry_enumerate_new (mZ t its) ⟨ht,?_⟩
 have e1:(zA s.heap t).objs.size=s.heap.objs.size+1:=Heap.size_push ..
 have g2:=Heap.get?_push_size (zA s.heap t) (o:={ cls:=.type "enumerate",data:=.fields #[.none,.bool false,.ref s.heap.objs.size,rawInt 0,.none,.none] }) rfl
 have g1:=Heap.get?_push_of_some { cls:=.type "enumerate",data:=.fields #[.none,.bool false,.ref s.heap.objs.size,rawInt 0,.none,.none] } (Heap.get?_push_size s.heap (o:={ cls:=.type "tuple_iterator",data:=.fields #[.ref t,.int 0 0] }) rfl)
 show _/\_
 rw [e1] at g2 ⊢
 exact ⟨⟨_,g2,rfl⟩,h _ g2 ⟨_,g1,rfl,rfl⟩ fun c o x=>Heap.get?_push_of_some _ (Heap.get?_push_of_some _ x)⟩
def Ite (K:PySem.W.Frag)(a:Addr):It :=
 ⟨fun i H=>∃ xs x,SqT K H a xs/\xs[i]?=some x,
  fun i H v H'=>∃ T,H T=none/\v=.ref T/\∀ xs,SqT K H a xs->∃ x,xs[i]?=some x/\H'=upd H T (.tup [.int i,x]),
  fun i H=>∃ xs,SqT K H a xs/\xs.length<=i⟩
def tne (e it a:Addr)(i:Nat)(h:Heap):Prop:=(∃ old,IsEnum h e it i old)/\h.IsTupleIter it a i
theorem jO {P:Program}{w:World}{K:PySem.W.Frag}{es:List Expr}{k:Nat}{pos:Pos}{e it a:Addr}(nei:e≠it)(nea:e≠a)(nai:a≠it) :
  Turn P w K (.Tuple es k pos) (Ite K a) [e,it] e (tne e it a) where
 mem:=by simp
 obj:=fun i h st c hc=>by
  obtain ⟨⟨old,s1⟩,⟨o4,s4,c4,d4⟩⟩:=st
  simp only [List.mem_cons,List.not_mem_nil,or_false] at hc
  rcases hc with z | z <;> subst z
  ·exact ⟨_,s1,fun v q=>by cases q⟩
  ·exact ⟨_,s4,fun v q=>by rw [d4] at q;cases q⟩
 keep:=fun i h h' st kp=>by
  obtain ⟨⟨old,s1⟩,s4⟩:=st
  exact ⟨⟨old,kp e (by simp) _ s1⟩,s4.at fun o z=>kp it (by simp) o z⟩
 item:=by
  intro X hP hw hK hc i pins s σ H E I hf st hg
  subst hP hw hK
  obtain ⟨⟨old,s1⟩,s4⟩:=st
  obtain ⟨xs,x,hxs,hx⟩:=hg
  obtain ⟨its,rv,p,_⟩:=I.tuple hxs
  obtain ⟨ux,hux,rx⟩:=rv.get hx
  have hlt:i < its.toArray.size:=by
   have:=(zAa.mp hux).1
   simpa using this
  have D:=xN (prog:=X.prog) (w:=X.w) (A:=X.A.in1) (I.ok.hd hc) it a nai its.toArray
  refine wpAny_pyNext_enum_itemD D s1 ⟨s4,p⟩ hlt nei (by simp [nei,nea]) fun u h1 tk hu g1 g3 g5 g6 kp=>?_
  have eu:u=ux:=by
   have hu:its.toArray[i]?=some u:=hu
   rw [List.getElem?_toArray,hux] at hu
   exact (zAl hu).symm
  subst eu
  refine ⟨_,rfl,?_⟩
  refine wpAny_letOwnedTupleGo_enum g1 fun h2 e1 sb=>?_
  have live:∀ c,c∈[e,it]->∃ o,s.heap.get? c=some o:=fun c hc'=>by
   simp only [List.mem_cons,List.not_mem_nil,or_false] at hc'
   rcases hc' with q | q <;> subst q
   ·exact ⟨_,s1⟩
   ·exact let ⟨o,h,_⟩:=s4;⟨o,h⟩
  have ne:∀ c,c∈[e,it]->c≠s.heap.objs.size:=fun c hc' z=>by
   obtain ⟨o,ho⟩:=live c hc'
   exact absurd (Heap.lt_size ho) (by rw [z];exact Nat.lt_irrefl _)
  have hT:H s.heap.objs.size=none:=I.hok.fresh (zA3 _)
  have kept:∀ c o,c ∉ [e,it]->s.heap.get? c=some o->h2.get? c=some o:=fun c o hc' z =>
   sb.extBut _ _ (fun q=>hc' (by simp [q])) (kp c o (fun q=>hc' (by simp [q])) (fun q=>hc' (by simp [q])) z)
  have trk:∀ c o,H c=some o->c ∉ [e,it]:=fun c o z hc'=>by
   have:=(hf c hc').1
   rw [z] at this;cases this
  have newT:h2.get? s.heap.objs.size=some { cls:=.type "tuple",data:=.seq #[.int i tk,u] }:=sb.extBut _ _ (Ne.symm (ne e (by simp))) g5
  have hok2:HOk X.prog X.w (upd H s.heap.objs.size (.tup [.int i,x])) h2:=fun c o z=>by
   by_cases hb:c=s.heap.objs.size
   ·subst hb
    rw [ao] at z
    cases z
    exact ⟨by show 2<=sizeLine;decide,[.int i tk,u],.cons ⟨tk,rfl⟩ (.cons rx .nil),_,newT,rfl,_,rfl⟩
   ·rw [aD hb] at z
    refine (I.hok c o z).stay (fun d v hd q=>kept d v ?_ q) (fun d q=>by rw [aD (aF q hT)];exact q) fun d l q=>by rw [aD (aF q hT)];exact q
    rcases hd with e' | e'
    ·rw [e'];exact trk c o z
    ·exact trk d _ e'
  have I2:Inv X pins σ (upd H s.heap.objs.size (.tup [.int i,x])) { s with heap:=h2,toks:=tk+1 }:=by
   refine I.step (g':=s.gens) (d':=s.drawn) (t':=tk+1) (ch:=[e,it]) (fun c hc'=>?_) (fun c o _ _ hn z _=>kept c o hn z) (fun c o _ _ hn z _=>⟨o.slots,kept c o hn z⟩)
    (fun c o _ z n=>by rw [aD (Nat.ne_of_lt (Heap.lt_size z))];exact n) (fun c o hn z=>⟨o,kept c o hn z⟩) (fun c l z=>by rw [aD (aF z hT)];exact z) (fun c o l z=>by rw [aD (aF z hT)];exact z)
    (fun c l z=>⟨#[],by rw [aD (aF z hT),z];simp⟩) (fun m hm=>?_) hok2 I.bare
   ·obtain ⟨f0,f1,f2,f3,f4,f5⟩:=hf c hc'
    exact ⟨f3,f1,f4,f5⟩
   ·obtain ⟨o,es',ep,ho,r⟩:=hm
    refine ⟨o,es',ep,kept _ o (fun hc'=>?_) ho,r⟩
    exact (hf _ hc').2.1 rfl
  refine ⟨.ref s.heap.objs.size,_,I2,rfl,⟨s.heap.objs.size,hT,rfl,fun xs' e1'=>⟨x,?_,rfl⟩⟩,⟨⟨u,?_⟩,?_⟩,fun c hc'=>?_⟩
  ·rw [I.tuple_inj e1' hxs];exact hx
  ·have:=e1
   rw [show (((i+1:Nat):Int))=(i:Int)+1 by lia]
   exact this
  ·exact g3.1.extBut sb.extBut nei.symm
  ·rw [aD (ne c hc')]
   exact (hf c hc').1
 done:=by
  intro X hP hw hK hc i pins s σ H E I hf st hg
  subst hP hw hK
  obtain ⟨⟨old,s1⟩,s4⟩:=st
  obtain ⟨xs,hxs,hlen⟩:=hg
  obtain ⟨its,rv,p,_⟩:=I.tuple hxs
  have hl:=rv.length
  have hT:s.TypeIs (.ref e) "enumerate" := ⟨_,s1,rfl⟩
  have fin:∀ h',Heap.ExtBut it s.heap h'->Inv X pins σ H { s with heap:=h' }:=fun h' kp=>by
   obtain ⟨f0,f1,f2,f3,f4,f5⟩:=hf it (by simp)
   exact I.turned (t':=s.toks) (fun b o hb z=>kp b o hb z) f0 f1 f3 f4 f5
  unfold pyNext
  refine wpAny_bind (wpAny_attempt (wpAny_callSpecial?_slot (name:=Str.ofString "__next__") hT F.slot_enumerate_next (wpAny_call_entry F.slot_enumerate_next hT F.entry_enumerate_next ?_ (F.args_enumerate_next_1 _))))
  show wpAny _ _ (field (.ref e) 2 >>= _) _ _ _
  refine wpAny_bind (wpAny_field s1 rfl (x:=.ref it) rfl ?_)
  refine wpAny_bind (mU (I.ok.hd hc) s4 (show s.heap.IsTuple a its.toArray from p) (by simp;lia) fun h' x he' hx'=>?_)
  obtain ⟨o,ho,hcx⟩:=hx'
  refine wpAny_bind (wpAny_isInstance (T:="StopIteration") (b:=true) ⟨o,ho,hcx⟩ isSubtype_stop (wpAny_pure ⟨rfl,fin h' he'⟩))
 self:=fun _ _ _ _ _ st h=>wpAny_pyIter_enum st.1.choose_spec h
section
variable {X:Cx}
def zf (K:PySem.W.Frag)(t:TA):TI:=fun σ H R=>t σ H fun vs H1=>∃ a xs,vs=[.ref a]/\SqT K H1 a xs/\R (Ite K a) H1
theorem pi_enum {es:List Expr}{k:Nat}{tp:Pos}{a:Expr}{ta:TA}{p pos:Pos}(hg:Gl X "enumerate")(hm:X.mg "enumerate" = none)(ha:PA X [a] ta)(hs:starEach [a] X.env=[(false,eval a X.env)]:=by rfl) :
  PI X (.Tuple es k tp) (.Call (.Name "enumerate" p) [a] [] pos) (zf X.K ta):=by
 intro pins s σ H R I h
 refine Call_ (gF I hg hm boot_enumerate (PyProof.Rows.callWith_type1 (thn (ha pos pins s σ H _ I h) fun us s1 ⟨vs,H1,I1,r1,q1⟩=>?_) hs rfl))
 obtain ⟨x,xs,e,hx,q⟩:=q1
 subst e
 obtain ⟨u,rfl,ru⟩:=vals1 r1
 cases ru
 obtain ⟨its,_,p1,_⟩:=I1.tuple hx
 refine oK (show s1.heap.IsTuple x its.toArray from p1) fun h' z1 z4 kp=>?_
 refine wpAny_pyIter_enum z1 ?_
 have lx:x < s1.heap.objs.size:=by obtain ⟨_,e,_⟩:=(show s1.heap.IsTuple x its.toArray from p1);exact Heap.lt_size e
 refine ⟨_,_,_,_,H1,rfl,I1.kept (t':=s1.toks) kp,jO (e:=s1.heap.objs.size+1) (it:=s1.heap.objs.size) (a:=x) (Nat.succ_ne_self _) (Nat.ne_of_gt (Nat.lt_succ_of_lt lx)) (Nat.ne_of_lt lx),⟨⟨_,z1⟩,z4⟩,fun c hc=>?_,q⟩
 have hle:s1.heap.objs.size<=c:=by
  simp only [List.mem_cons,List.not_mem_nil,or_false] at hc
  rcases hc with q | q <;> subst q
  ·exact Nat.le_add_right _ 1
  ·exact zA3 _
 exact I1.fpOk hle (I1.hok.fresh hle)
end
theorem jj {K:PySem.W.Frag}{a:Addr}{xs:List V}{g:TG}{tb:TS}{D:Ends}{σ:St}{H:Hp}(Pv:Nat->St->Hp->Prop)(h0:Pv 0 σ H)(hl:∀ i σ H,i<=xs.length->Pv i σ H->SqT K H a xs)
  (hs:∀ i x σ H T,xs[i]?=some x->Pv i σ H->H T=none->g (.ref T) σ (upd H T (.tup [.int i,x])) fun σ2 H2=>tb { D with nx:=Pv (i+1),ct:=Pv (i+1),bk:=D.nx } σ2 H2) (hd:∀ σ H,Pv xs.length σ H->D.nx σ H) :
  ∃ W:Nat->Nat->St->Hp->Prop,(∃ m,W 0 m σ H)/\∀ i m σ H,W i m σ H ->
   ((Ite K a).stop i H/\D.nx σ H)\/((Ite K a).go i H/\∃ N:St->Hp->Prop,(∀ σ' H',N σ' H'->∃ m',m' < m/\W (i+1) m' σ' H')/\∀ x H',(Ite K a).yld i H x H'->g x σ H' fun σ2 H2=>tb { D with nx:=N,ct:=N,bk:=D.nx } σ2 H2):=by
 refine ⟨fun i m σ H=>m=xs.length - i/\i<=xs.length/\Pv i σ H,⟨xs.length,by simp,Nat.zero_le _,h0⟩,?_⟩
 rintro i m σ H ⟨rfl,hi,p⟩
 have q:=hl i σ H hi p
 by_cases hlt:i < xs.length
 ·refine .inr ⟨⟨xs,xs[i],q,by simp [hlt]⟩,Pv (i+1),fun σ' H' p'=>⟨xs.length - (i+1),by lia,rfl,hlt,p'⟩,fun x H' y=>?_⟩
  obtain ⟨T,nT,rfl,y⟩:=y
  obtain ⟨x,ex,rfl⟩:=y xs q
  exact hs i x σ H T ex p nT
 ·have e:i=xs.length:=by lia
  subst e
  exact .inl ⟨⟨xs,q,zA3 _⟩,hd σ H p⟩
end L2

namespace L2
open PySem PySem.Spec PyProof.Rows
section
variable {X:Cx}
theorem oM (hc:X.calm=true):fj X (.builtin "min") (fun xs H Q=>∃ (p:Addr) (ns:List Int),xs=[.ref p]/\SqL X.K H p (ns.map V.int)/\ns≠[]/\∀ M,M∈ns->(∀ a∈ns,M<=a)->Q (.int M) H):=by
 intro pins s σ H xs us Q I r h
 obtain ⟨p,ns,rfl,hq,hne,q⟩:=h
 obtain ⟨u,rfl,ru⟩:=vals1 r
 cases ru
 obtain ⟨its,rv,pl,hz⟩:=I.list hq
 have hi:IntsAre its ns:=intsAre_of rv
 obtain ⟨zs,ez⟩:=(hi.allInts:AllInts its.toArray).items
 have en:numsOf its=ns:=hi.numsOf
 have hl:s.heap.IsList p (intItems zs):=ez ▸ pl.isList
 have hpos:0 < zs.size:=by
  have e1:(intItems zs).size=its.length:=by rw [<- ez,zA8]
  have e2:=rv.length
  rw [zA1] at e2
  have e3:0 < ns.length:=List.length_pos_iff.mpr hne
  simp only [intItems,Array.size_map] at e1
  lia
 have hn:numsOf (intItems zs).toList=ns:=by rw [<- ez];exact en
 refine min_intList (I.ok.hd hc) hl hpos fun v h' tk hv hk=>?_
 obtain ⟨t,rfl⟩:=intItems_at hv
 obtain ⟨h1,h2⟩:=argBest_lt (numAt zs) (zs.size - 1)
 rw [nums_intItems] at hn
 refine ⟨.int _,H,I.kept (t':=tk) hk,⟨t,rfl⟩,q _ ?_ fun a ha=>?_⟩
 ·rw [<- hn,numAt_eq]
  exact getD_mem (by rw [zA1,zA9];lia)
 ·rw [<- hn] at ha
  obtain ⟨j,hj,rfl⟩:=mem_getD ha
  rw [zA1,zA9] at hj
  rw [<- numAt_eq]
  exact h2 j (by lia)
inductive RCatT0I (K:PySem.W.Frag)(x:V)(y:V)(H:Hp)(Q:VK):Prop
 | mk:∀ a b ys,(x=.ref a)->(y=.ref b)->(SqT K H a [])->(SqT K H b ys)->(Q (.ref b) H)->RCatT0I K x y H Q
def Ew (K:PySem.W.Frag):R2:=fun x y H Q=>RCatT0I K x y H Q
open Builtin in
theorem zg (l b:Addr)(its:Array Value)(n m:Nat)(dd dd2:Option Addr)(sl sl2:Array (Option Value)) :
  Meets (Builtin.«tuple.__add__» ⟨[.ref l,.ref b],[]⟩) (fun _ R s=>s.heap.get? l=some { cls:=.type "tuple",dict:=dd,data:=.seq #[] n,slots:=sl }/\s.heap.get? b=some { cls:=.type "tuple",dict:=dd2,data:=.seq its m,slots:=sl2 }/\R (.ok (.ret (.ref b))) s):=by
 refine .of_wp fun prog w A R s h=>?_
 obtain ⟨hp,g,d,tk,os⟩:=s
 obtain ⟨hl,hb,h⟩:=h
 have f2:=PySem.AutoSeq1.sub_tuple_tuple
 wp_walk
 exact ⟨_,rfl,h⟩
theorem zj:OpR X (binaryOp .Add) (Ew X.K):=by
 intro pins s σ H x y v u Q I rx ry h
 obtain ⟨a,b,ys,rfl,rfl,ha,hb,q⟩:=h
 cases rx
 cases ry
 obtain ⟨its,r1,p1,_⟩:=I.tuple ha
 obtain ⟨its2,r2,p2,_⟩:=I.tuple hb
 have e:its=[]:=r1.zero
 subst e
 obtain ⟨⟨cls,dd,data,sl⟩,ho,hc,n,hd⟩:=id p1
 obtain ⟨⟨cls2,dd2,data2,sl2⟩,ho2,hc2,n2,hd2⟩:=id p2
 simp only at hc hd hc2 hd2
 subst hc hd hc2 hd2
 exact concat_meets ⟨_,ho,rfl⟩ ⟨_,ho2,rfl⟩ noFill_tuple_add seq_tuple_add PySem.F.slot_tuple_add PySem.F.entry_tuple_add (PySem.F.args_tuple_add_2 _ _) (zg a b its2.toArray n n2 dd dd2 sl sl2) ⟨ho,ho2,.ref b,H,I,rfl,q⟩
theorem zm:OpR X (binaryOp .Add) (fun x y H Q=>∃ a b xs ys,x=.ref a/\y=.ref b/\SqT X.K H a xs/\SqT X.K H b ys/\ys≠[]/\xs.length+ys.length<=sizeLine/\(xs=[]->Q (.ref b) H)/\(xs≠[]->∀ p,H p=none->Q (.ref p) (upd H p (.tup (xs++ys))))):=by
 intro pins s σ H x y v u Q I rx ry h
 obtain ⟨a,b,xs,ys,rfl,rfl,ha,hb,hy,hz,q1,q2⟩:=h
 by_cases hx:xs=[]
 ·subst hx
  exact zj pins s σ H _ _ v u Q I rx ry ⟨a,b,ys,rfl,rfl,ha,hb,q1 rfl⟩
 ·exact Bl pins s σ H _ _ v u Q I rx ry ⟨a,b,xs,ys,rfl,rfl,ha,hb,hx,hz,fun z=>absurd z hy,fun _=>q2 hx⟩
end
section
variable {prog:Program}{w:World}{A:Around}{E:Value->Shared->Prop}{s:Shared}
open HT in
theorem jk {t sl:Addr}{items:Array Value}{vl vu:Value}{lo hi:Option Int}{Q:Value->Shared->Prop}(ht:IsTup s.heap t items)(hs:s.heap.IsSliceOf sl vl vu .none)(pl:IsPart vl lo)(pu:IsPart vu hi)
  (h1:sIx items.size 0 lo=0) (h2:sIx items.size items.size hi=items.size) (h:Q (.ref t) s):wpAny (model prog w) A (getItem (.ref t) (.ref sl)) Q E s:=by
 obtain ⟨os,hos,hcs,hds⟩:=id hs
 have hTs:s.TypeIs (.ref sl) "slice" := ⟨os,hos,hcs⟩
 unfold getItem
 try with_reducible refine wpAny_holding ?_
 first | refine wpAny_bind (wpAny_pure ?_) | skip
 refine wpAny_bind (wpAny_sequenceKey ht.typeIs (by decide) ?_)
 refine wpAny_bind (wpAny_callSpecial?_slot (name:=Str.ofString "__getitem__") ht.typeIs PyProof.Rows.slot_tuple_getitem
  (wpAny_call_entry PyProof.Rows.slot_tuple_getitem ht.typeIs entry_tuple_getitem ?_ (args_tuple_getitem _ _)))
 show wpAny _ _ (Builtin.Tuple.tupleItemsOf (.ref t) >>= _) _ _ s
 refine wpAny_bind (tupleItemsOf_ ht ?_)
 refine wpAny_bind (wpAny_typeOf hTs ?_)
 rw [if_pos (by decide)]
 refine wpAny_bind (fO hs pl pu ?_)
 rw [h1,h2]
 show wpAny _ _ (if ((((0:Nat):Int)) == 0 && (1:Int) == 1 && (items.size - 0) == items.size)=true then _ else _) _ _ s
 rw [if_pos (by simp)]
 unfold Builtin.Tuple.tupleIsExact
 refine wpAny_bind (wpAny_bind (wpAny_typeOf ht.typeIs (wpAny_pure ?_)))
 rw [if_pos (by decide)]
 exact wpAny_bind (wpAny_rule (wpAny_pure ⟨_,rfl,wpAny_pure h⟩))
end
section
variable {X:Cx}
inductive RSlWI (K:PySem.W.Frag)(x:V)(lo:Option Int)(hi:Option Int)(H:Hp)(Q:VK):Prop
 | mk:∀ a xs,(x=.ref a)->(SqT K H a xs)->(((HT.sIx xs.length 0 lo=0/\HT.sIx xs.length xs.length hi=xs.length)->Q (.ref a) H))->((¬ (HT.sIx xs.length 0 lo=0/\HT.sIx xs.length xs.length hi=xs.length)->∀ p,H p=none->Q (.ref p) (upd H p (.tup (lu xs lo hi)))))->RSlWI K x lo hi H Q
def Iw (K:PySem.W.Frag):V->Option Int->Option Int->Hp->VK->Prop:=fun x lo hi H Q=>RSlWI K x lo hi H Q
theorem BJ:SlR X (Iw X.K):=by
 intro pins s σ H x v vl vu lo hi sl Q I rx hs pl pu h
 obtain ⟨a,xs,rfl,hx,q1,q2⟩:=h
 by_cases hw:HT.sIx xs.length 0 lo=0/\HT.sIx xs.length xs.length hi=xs.length
 ·cases rx
  obtain ⟨its,r,ht,hz⟩:=I.tuple hx
  have hlen:its.toArray.size=xs.length:=by rw [zA8];exact r.length.symm
  refine ⟨"tuple",_,PyProof.Rows.slot_tuple_getitem.lookup,ht.typeIs,?_⟩
  exact jk ht hs pl pu (by rw [hlen];exact hw.1) (by rw [hlen];exact hw.2) ⟨.ref a,H,I,rfl,q1 hw⟩
 ·exact Ei pins s σ H _ v vl vu lo hi sl Q I rx hs pl pu ⟨a,xs,rfl,hx,hw,q2 hw⟩
end
section
variable {prog:Program}{w:World}{A:Around}{E:Value->Shared->Prop}{s:Shared}
end
section
variable {X:Cx}{e:Expr}{te:TE}{pos p2 p3 p4:Pos}{j:Nat}
end
end L2

namespace K74
open PySem L2
def bw (r:List Int):PyData:=.tuple (r.map .int)
def bx (rs:List (List Int)):PyData:=.tuple (rs.map bw)
def fl (r:List Int)(i:Nat):Int:=r.getD i 0
def okP (r:List Int):Prop:=r.length=6/\(0<=fl r 0/\fl r 0 < 8)/\(0<=fl r 1/\fl r 1 < 3)/\(0<=fl r 2/\fl r 2<=fl r 3/\fl r 3<=19)/\(1<=fl r 4/\fl r 4<=99)/\(0<=fl r 5/\fl r 5<=1000000)
def dZ (d:PyData):Bool:=bB d 0 12 && (items d).all fun x=>bu x 5
def rowsOf (d:PyData):List (List Int):=(items d).map fun x=>(items x).map intOf
theorem zq:∀ {ds:List PyData},(∀ x∈ds,cQ x=true)->ds=(ds.map intOf).map PyData.int
 | [],_=>rfl
 | d::ds,h=>by
  rw [zAk,zAk,<- zq fun x hx=>h x (List.mem_cons_of_mem _ hx)]
  have:=h d List.mem_cons_self
  cases d with
  | int i=>rfl
  | _=>cases this
theorem iU {x:PyData}{n:Nat}(h:bu x n=true):x=bw ((items x).map intOf)/\((items x).map intOf).length=n:=by
 obtain ⟨h1,h2⟩:=jL h
 unfold bB at h1
 rw [zAc,zAc,decide_eq_true_eq,decide_eq_true_eq] at h1
 obtain ⟨ht,hl1,hl2⟩:=h1
 cases x with
 | tuple ds =>
  have hl1:(n:Int)<=ds.length:=hl1
  have hl2:(ds.length:Int)<=n:=hl2
  refine ⟨?_,by show (ds.map intOf).length=n;rw [zA1];lia⟩
  exact congrArg PyData.tuple (zq h2)
 | _=>cases ht
theorem vQ {ds:List PyData}{n:Nat}(h:∀ x∈ds,bu x n=true):ds=(ds.map fun x=>(items x).map intOf).map bw:=by
 induction ds with
 | nil=>rfl
 | cons d ds ih =>
  rw [zAk,zAk,<- ih fun x hx=>h x (List.mem_cons_of_mem _ hx),<- (iU (h d List.mem_cons_self)).1]
theorem jP {d:PyData}{f m:Int}(h:bB d f m=true):∃ ds,d=.tuple ds/\f<=ds.length/\(ds.length:Int)<=m:=by
 unfold bB at h
 rw [zAc,zAc,decide_eq_true_eq,decide_eq_true_eq] at h
 cases d with
 | tuple ds=>exact ⟨ds,rfl,h.2⟩
 | _=>cases h.1
theorem pJ (r:List Int)(i:Nat)(h:i < r.length):at_ (bw r) i=fl r i:=by
 show intOf ((r.map PyData.int).getD i .none)=r.getD i 0
 rw [zA7,zA7,zAb,zA0 h]
 rfl
theorem uN {d:PyData}(h:dY d=true):d=bx (rowsOf d)/\(rowsOf d).length<=10/\∀ r∈rowsOf d,okP r:=by
 unfold dY at h
 rw [zAc] at h
 obtain ⟨ds,rfl,_,hl⟩:=jP h.1
 have h2:∀ x∈ds,gQ x=true:=List.all_eq_true.mp h.2
 have h3:∀ x∈ds,bu x 6=true:=fun x hx=>by
  have:=h2 x hx
  unfold gQ at this
  rw [zAc] at this
  exact this.1
 refine ⟨congrArg PyData.tuple (vQ (n:=6) h3),by show (ds.map _).length<=10;rw [zA1];lia,fun r hr=>?_⟩
 obtain ⟨x,hx,rfl⟩:=zA5.mp hr
 have hx:x∈ds:=hx
 obtain ⟨e,hl6⟩:=iU (n:=6) (h3 x hx)
 have:=h2 x hx
 unfold gQ at this
 rw [zAc] at this
 have p:=this.2
 rw [e] at p
 rw [pJ _ 0 (by lia),pJ _ 1 (by lia),pJ _ 2 (by lia),pJ _ 3 (by lia),pJ _ 4 (by lia),pJ _ 5 (by lia)] at p
 unfold jK at p
 simp only [Bool.and_eq_true,decide_eq_true_eq] at p
 obtain ⟨⟨a1,a2⟩,⟨b1,b2⟩,⟨c1,c2,c3⟩,⟨d1,d2⟩,e1,e2⟩:=p
 exact ⟨hl6,⟨a1,a2⟩,⟨b1,b2⟩,⟨c1,c2,c3⟩,⟨d1,d2⟩,e1,e2⟩
theorem uO {d:PyData}(h:dZ d=true):d=bx (rowsOf d)/\(rowsOf d).length<=12/\∀ r∈rowsOf d,r.length=5:=by
 unfold dZ at h
 rw [zAc] at h
 obtain ⟨ds,rfl,_,hl⟩:=jP h.1
 have h3:∀ x∈ds,bu x 5=true:=List.all_eq_true.mp h.2
 refine ⟨congrArg PyData.tuple (vQ (n:=5) h3),by show (ds.map _).length<=12;rw [zA1];lia,fun r hr=>?_⟩
 obtain ⟨x,hx,rfl⟩:=zA5.mp hr
 exact (iU (n:=5) (h3 x hx)).2
structure RowsAt (H:Hp)(a:Addr)(xs:List V)(rs:List (List Int)):Prop where
 e:H a=some (.tup xs)
 l:xs.length=rs.length
 g:∀ (i:Nat) (r:List Int),rs[i]?=some r->∃ t,xs[i]?=some (V.ref t)/\H t=some (.tup (r.map V.int))
theorem RowsAt.keep {H H':Hp}{a:Addr}{xs:List V}{rs:List (List Int)}(h:RowsAt H a xs rs)(k:∀ b l,H b=some (.tup l)->H' b=some (.tup l)):RowsAt H' a xs rs :=
 ⟨k _ _ h.e,h.l,fun i r e=>by
  obtain ⟨t,e1,e2⟩:=h.g i r e
  exact ⟨t,e1,k _ _ e2⟩⟩
theorem RowsAt.same {H H':Hp}{a:Addr}{xs:List V}{rs:List (List Int)}(h:RowsAt H a xs rs)(s:Same H H'):RowsAt H' a xs rs:=h.keep fun _ _ e=>s _ _ e
theorem sW {S:Addr->Prop}{H:Hp}:∀ {r:List Int} {xs:List V},IsThs S H xs (r.map .int)->xs=r.map V.int
 | [],_,.nil=>rfl
 | i::r,_,.cons h t=>by
  cases h
  rw [sW (r:=r) t]
  rfl
theorem Ex {S:Addr->Prop}{H:Hp}{v:V}{r:List Int}(h:IsTh S H v (bw r)):∃ t,v=V.ref t/\H t=some (.tup (r.map V.int)):=by
 generalize hd:bw r=d at h
 cases h with
 | @tup a xs ds e t =>
  injection hd with hd
  subst hd
  rw [sW t] at e
  exact ⟨a,rfl,e⟩
 | _=>cases hd
theorem lH {S:Addr->Prop}{H:Hp}{v:V}{rs:List (List Int)}(h:IsTh S H v (bx rs)):∃ a xs,v=.ref a/\RowsAt H a xs rs:=by
 generalize hd:bx rs=d at h
 cases h with
 | @tup a xs ds e t =>
  injection hd with hd
  subst hd
  refine ⟨a,xs,rfl,e,by rw [t.length,zA1],fun i r hr=>?_⟩
  have hi:i < rs.length:=(zAa.mp hr).1
  have hx:xs[i]?=some (xs[i]'(by rw [t.length,zA1];exact hi)):=zA0 _
  obtain ⟨d,h1,h2⟩:=t.get hx
  rw [zAb,hr] at h1
  injection h1 with h1
  subst h1
  obtain ⟨t',e1,e2⟩:=Ex h2
  exact ⟨t',by rw [hx,e1],e2⟩
 | _=>cases hd
theorem RowsAt.th {H:Hp}{a:Addr}:∀ {rs:List (List Int)} {xs:List V},RowsAt H a xs rs->IsTh (fun _=>False) H (.ref a) (bx rs):=by
 intro rs xs h
 refine .tup h.e ?_
 have gen:∀ (rs:List (List Int)) (xs:List V),xs.length=rs.length->(∀ (i:Nat) (r:List Int),rs[i]?=some r->∃ t,xs[i]?=some (V.ref t)/\H t=some (.tup (r.map V.int)))->IsThs (fun _=>False) H xs (rs.map bw):=by
  intro rs
  induction rs with
  | nil =>
   intro xs hl _
   have:xs=[]:=List.length_eq_zero_iff.mp hl
   subst this
   exact .nil
  | cons r rs ih =>
   intro xs hl hg
   cases xs with
   | nil=>simp at hl
   | cons x xs =>
    obtain ⟨t,e1,e2⟩:=hg 0 r rfl
    have e1:x=.ref t:=by simpa using e1
    subst e1
    exact .cons (.tup e2 (IsThs.ints r)) (ih xs (by simpa using hl) fun i r' e=>hg (i+1) r' (by simpa using e))
 exact gen rs xs h.l h.g
def iV (L:List Int)(i:Int)(v:Int):List Int:=L.set i.toNat (L.getD i.toNat 0+v)
def hstep (n y:Int)(L:List Int)(s:List Int):List Int:=if fl s 0=n/\fl s 4<=y then iV (iV L (fl s 1) (-(fl s 3))) (fl s 2) (fl s 3) else L
def base0 (p:List Int):List Int:=(List.replicate 8 0).set (fl p 0).toNat (fl p 4)
def bL (p:List Int)(ss:List (List Int))(n y:Int):List Int:=if fl p 2<=y/\y<=fl p 3 then ss.foldl (hstep n y) (base0 p) else List.replicate 8 0
def jl (ps:List (List Int))(s:List Int):List Int:=ps.getD (fl s 0).toNat []
def lC (ps:List (List Int))(s:List Int):Bool:=(decide (0<=fl s 0) && decide (fl s 0 < ps.length)) && ((decide (0<=fl s 1) && decide (fl s 1 < 8)) && ((decide (0<=fl s 2) && decide (fl s 2 < 8)) && ((!decide (fl s 1=fl s 2)) && ((decide (1<=fl s 3) && decide (fl s 3<=99)) && (decide (fl (jl ps s) 2<=fl s 4) && decide (fl s 4<=fl (jl ps s) 3))))))
def years (a b:Int):List Int:=(List.range (b+1 - a).toNat).map fun (i:Nat)=>a+i
def cG (ps ss:List (List Int))(s:List Int):Bool:=lC ps s && (years (fl s 4) (fl (jl ps s) 3)).all fun y=>decide (fl s 3<=(bL (jl ps s) ss (fl s 0) y).getD (fl s 1).toNat 0)
def un (ps ss:List (List Int)):Option Nat:=(List.range ss.length).find? fun i=>!cG ps (ss.take i) (ss.getD i [])
theorem gR (L:List Int)(i v:Int):(iV L i v).length=L.length:=by unfold iV;rw [List.length_set]
theorem xO (n y:Int)(L s:List Int):(hstep n y L s).length=L.length:=by
 unfold hstep
 split
 ·rw [gR,gR]
 ·rfl
theorem eO (p:List Int)(ss:List (List Int))(n y:Int):(bL p ss n y).length=8:=by
 unfold bL
 split
 ·have:∀ (ss:List (List Int)) (L:List Int),L.length=8->(ss.foldl (hstep n y) L).length=8:=by
   intro ss
   induction ss with
   | nil=>exact fun L h=>h
   | cons s ss ih=>exact fun L h=>ih _ (by rw [xO];exact h)
  exact this ss _ (by unfold base0;rw [List.length_set,List.length_replicate])
 ·rw [List.length_replicate]
end K74

namespace K74
open PySem L2
theorem iu {X:Cx}:DY X (fun x y H Q=>∃ p xs i v,x=.ref p/\y=.int i/\SqL X.K H p xs/\0<=i/\xs[i.toNat]?=some v/\Q v H):=by
 intro pins s σ H x y v u Q I rx ry h
 obtain ⟨p,xs,i,z,rfl,rfl,hq,h0,he,q⟩:=h
 cases rx
 obtain ⟨t,rfl⟩:=ry
 obtain ⟨its,r,pl,hz⟩:=I.list hq
 obtain ⟨w,ew,rw'⟩:=r.get he
 have hn:=iH
 have hl:=r.length
 have hi:=(zAa.mp he).1
 exact PySem.wpAny_getItem_list pl.isList h0 (by lia) (by simpa using ew) ⟨z,H,I,rw',q⟩
theorem eG {p:List Int}(h:p.length=6):p=[fl p 0,fl p 1,fl p 2,fl p 3,fl p 4,fl p 5]:=by
 obtain ⟨a,b,c,d,e,f,rfl⟩:=Gr h
 rfl
theorem gU {p:List Int}(h:p.length=5):p=[fl p 0,fl p 1,fl p 2,fl p 3,fl p 4]:=by
 obtain ⟨a,b,c,d,e,rfl⟩:=Gq h
 rfl
theorem j7 (L:List Int)(i:Nat)(v:Int):(L.map V.int).set i (.int v)=(L.set i v).map V.int:=by rw [List.map_set]
theorem j6 {L:List Int}{i:Nat}(h:i < L.length):(L.map V.int)[i]?=some (.int (L.getD i 0)):=by
 rw [zAb,zA0 h,zA7,zA0 h]
 rfl
theorem vR {n:Nat}{i:Int}(h0:0<=i)(h1:i < n):ixN n i=some i.toNat:=by
 unfold ixN
 rw [if_pos h0,if_pos h1]
def okS (s:List Int):Prop:=s.length=5/\(0<=fl s 1/\fl s 1 < 8)/\(0<=fl s 2/\fl s 2 < 8)
inductive SpHeldI (vs:List V)(H:Hp)(Q:VK):Prop
 | mk:∀ ap xp ps as_ xs ss n y,(vs=[.ref ap,.ref as_,.int n,.int y])->(RowsAt H ap xp ps)->(RowsAt H as_ xs ss)->(0<=n)->(n < ps.length)->(okP (ps.getD n.toNat []))->(ss.length<=12)->((∀ s∈ss,okS s))->(∀ l H',Same H H'->H' l=some (.lst ((bL (ps.getD n.toNat []) ss n y).map V.int))->Q (.ref l) H')->SpHeldI  vs H Q
def uP:Sp:=fun vs H Q _=>SpHeldI  vs H Q
structure MS (mg:Str->Option Value):Prop where
 sales:∃ t,mg "MOST_SALES" = some (.int 12 t)
section
variable {P:Program}{w:World}{K:PySem.W.Frag}{mg:Str->Option Value}{base:Heap}
theorem Gs:FnScope ["thing"] ["thing"] (aJ (top 33)):=⟨rfl,rfl,rfl,by decide +kernel,rfl,by decide +kernel,by decide +kernel⟩
theorem qP {f:Addr}{fd:FuncData}(F:Fun K "are_sales" "are_sales" (top 33) f fd)(T:Mg mg)(N:MS mg)(c1:Cal P w K mg base 2 "are_wholes" ["thing","many"] (yZ bu))(c2:Cal P w K mg base 1 "is_tuple_of" ["thing","fewest","most"] (lA bB)) :
  FnOk P w K mg base CX0 3 f fd ["thing"] (spT dZ):=by
 refine F.ok Gs (fun vs H Q E h=>?_) (fun cdv A outer s H vs Q E hr h=>?_)
 ·obtain ⟨S,v,d,rfl,_⟩:=h
  rfl
 ·obtain ⟨S,v,d,rfl,th,hz,q⟩:=h
  obtain ⟨t3,e3⟩:=N.sales
  refine ⟨_,aH (aU (cD (aK c2 hr (by decide) rfl (az (pv 0) (az aA (az (bR (v:=.int 12) rfl e3 ⟨_,rfl⟩) aj))))
   (dR (aO (dM rfl) rfl T.all boot_all (az (bZ ["part"] [none] rfl (dU (pv 0))
    (fun C fp pins s₂ H₂=>⟨au (i:=0) (nd1 _) rfl (Or.inl rfl),bT,aK c1 hr (by decide) rfl (az (pv 0) (az aA aj))⟩) (fun C=>trivial) ⟨rfl,rfl,rfl,rfl⟩) aj))))),?_⟩
  refine ⟨_,rfl,S,v,d,0,12,rfl,th,hz,fun H1 s1=>⟨_,rfl,?_⟩⟩
  have th1:=th.same s1
  have fin:=fun H' (s:Same H H')=>q H' s
  unfold dZ at fin
  cases e:bB d 0 12 with
  | false =>
   rw [e] at fin
   exact bD (fin _ s1)
  | true =>
   rw [e] at fin
   refine cj ?_
   cases th1 with
   | @tup a xs ds ea r=>exact d9 (fun x=>bu x 5) rfl ea r (f9 r hz) (fun v d H2 Q2 hm s2 t2 q2=>⟨_,rfl,S,v,d,5,rfl,t2,jh hm hz,q2⟩) fun H2 s2=>fin _ (s1.trans s2)
   | _=>cases e
theorem sc23s:FnScope ["promises","sales","number","year","holder","sort","first","last","sacks","price","held","promise","seller","buyer","sold","since"] ["promises","sales","number","year"] (aJ (top 35)):=⟨rfl,rfl,rfl,by decide +kernel,rfl,by decide +kernel,by decide +kernel⟩
theorem BK {f:Addr}{fd:FuncData}(F:Fun K "held_in" "held_in" (top 35) f fd)(N:Nums mg):FnOk P w K mg base CX0 1 f fd ["promises","sales","number","year"] uP:=by
 refine F.ok sc23s (fun vs H Q E h=>?_) (fun cdv A outer s H vs Q E hr h=>?_)
 ·obtain ⟨ap,xp,ps,as_,xs,ss,n,y,rfl,_⟩:=h
  rfl
 ·obtain ⟨ap,xp,ps,as_,xs,ss,n,y,rfl,rp,rs,n0,n1,okp,hl,oks,q⟩:=h
  obtain ⟨t1,e1⟩:=N.holders
  refine ⟨_,aB (cB (aZ bG (pv 0) (pv 2) (fun _ _=>rfl)) (bU rfl (aq (au (i:=4) sc23s.nd rfl (Or.inl rfl)) (aq (au (i:=5) sc23s.nd rfl (Or.inl rfl)) (aq (au (i:=6) sc23s.nd rfl (Or.inl rfl))
    (aq (au (i:=7) sc23s.nd rfl (Or.inl rfl)) (aq (au (i:=8) sc23s.nd rfl (Or.inl rfl)) (aq (au (i:=9) sc23s.nd rfl (Or.inl rfl)) aY))))))))
   (aB (bf (i:=10) sc23s.nd rfl (Or.inl rfl) (aV Em (cC (az aA aj)) (bR (v:=.int 8) rfl e1 ⟨_,rfl⟩)))
   (aB (cu (bY (eZ bO bO (pv 6) (pv 3) (pv 7))) (aH (aU (pv 10))) bh)
   (aB (cB (pv 8) (qm (pv 10) (pv 4) set_list))
   (aB (cW PassesOwn.never rfl (dU (pv 1)) (bU rfl (aq (au (i:=11) sc23s.nd rfl (Or.inl rfl)) (aq (au (i:=12) sc23s.nd rfl (Or.inl rfl)) (aq (au (i:=13) sc23s.nd rfl (Or.inl rfl))
     (aq (au (i:=14) sc23s.nd rfl (Or.inl rfl)) (aq (au (i:=15) sc23s.nd rfl (Or.inl rfl)) aY))))))
    (aH (cu (PW.pt (DQ (bJ mj (pv 11) (pv 2) (bI _)) (Ba (bJ bO (pv 15) (pv 3) (bI _)))))
     (aB (qp (pv 10) (pv 12) iu (pv 14) yw set_list) (aH (qp (pv 10) (pv 13) iu (pv 14) yu set_list))) bh)))
   (aH (aU (pv 10))))))),?_⟩
  obtain ⟨p,hp⟩:∃ p,ps[n.toNat]?=some p:=⟨_,zA0 (by lia)⟩
  have ep:ps.getD n.toNat []=p:=by rw [zA7,hp];rfl
  rw [ep] at okp q
  obtain ⟨t,ex,et⟩:=rp.g _ _ hp
  have p6:=eG okp.1
  obtain ⟨l6,⟨a1,a2⟩,b,⟨c1,c2,c3⟩,⟨d1,d2⟩,ee⟩:=id okp
  have hat:atI xp n=some (.ref t):=by
   have:=gh ex
   rw [show ((n.toNat:Nat):Int)=n by lia] at this
   exact this
  rw [p6] at et
  refine aG ?_
  refine ⟨_,rfl,_,rfl,ap,xp,n,.ref t,rfl,rfl,SqT.of rp.e,hat,?_⟩
  refine ⟨t,_,rfl,SqT.of et,rfl,_,_,rfl,_,_,rfl,_,_,rfl,_,_,rfl,_,_,rfl,_,_,rfl,rfl,?_⟩
  dsimp only
  refine aG ?_
  refine aX ?_
  refine ⟨(by show 1<=sizeLine;decide),fun l0 hl0=>⟨l0,8,_,rfl,rfl,ao,by decide,by decide,(by show 1 * 8<=sizeLine;decide),fun l1 hl1=>?_⟩⟩
  have s1:Same H (upd (upd H l0 (.lst [V.int 0])) l1 (.lst (List.replicate (8:Int).toNat [V.int 0]).flatten)):=(Same.upd hl0).updR hl1
  have el1:upd (upd H l0 (.lst [V.int 0])) l1 (.lst (List.replicate (8:Int).toNat [V.int 0]).flatten) l1=some (.lst ((List.replicate 8 (0:Int)).map V.int)):=ao
  have nl1:H l1=none:=(Same.upd hl0).free hl1
  generalize upd (upd H l0 (.lst [V.int 0])) l1 (.lst (List.replicate (8:Int).toNat [V.int 0]).flatten)=H1 at s1 el1 ⊢
  refine aM ?_
  dsimp only
  refine aG ?_
  refine bV (p:=fun i j=>decide (i<=j)) (q:=fun i j=>decide (i<=j)) (i:=fl p 2) (j:=y) (k:=fl p 3) (dw rfl) (dw rfl) (dw rfl) _ ⟨_,rfl,?_⟩
  by_cases hin:fl p 2<=y/\y<=fl p 3
  ·rw [decide_eq_true hin.1,decide_eq_true hin.2]
   refine bD ?_
   refine cz ?_
   dsimp only
   refine aG ?_
   refine ⟨_,rfl,_,rfl,_,rfl,l1,_,fl p 0,(fl p 0).toNat,rfl,rfl,el1,vR a1 (by show fl p 0 < 8;exact a2),?_⟩
   rw [j7]
   dsimp only
   refine aG ?_
   have hs0:as_≠l1:=aF rs.e nl1
   refine ⟨_,rfl,as_,rfl,⟨xs,SqT.of (by rw [aD hs0];exact s1 _ _ rs.e)⟩,?_⟩
   have kp0:∀ {Hc:Hp} {o:HO},Same H Hc->Same H (upd Hc l1 o):=fun {Hc o} sm b u e=>by
    rw [aD (aF e nl1)]
    exact sm _ _ e
   refine Bd (xs:=xs) (fun i σ Hc=>∃ x11 x12 x13 x14 x15,σ=[some (.ref ap),some (.ref as_),some (.int n),some (.int y),some (.int (fl p 0)),some (.int (fl p 1)),some (.int (fl p 2)),some (.int (fl p 3)),some (.int (fl p 4)),some (.int (fl p 5)),some (.ref l1),x11,x12,x13,x14,x15]/\Same H Hc/\Hc l1=some (.lst (((ss.take i).foldl (hstep n y) (base0 p)).map V.int))) ?_ ?_ ?_ ?_
   ·exact ⟨none,none,none,none,none,rfl,kp0 s1,ao⟩
   ·rintro i σ Hc hi ⟨x11,x12,x13,x14,x15,rfl,sm,el⟩
    exact SqT.of (sm _ _ rs.e)
   ·rintro i x σ Hc hx ⟨x11,x12,x13,x14,x15,rfl,sm,el⟩
    have hi:i < ss.length:=by
     have:=(zAa.mp hx).1
     rw [rs.l] at this
     exact this
    obtain ⟨tr,ex2,etr⟩:=rs.g i ss[i] (zA0 hi)
    have:x=.ref tr:=by
     rw [hx] at ex2
     exact zAl ex2
    subst this
    obtain ⟨o1,⟨o2,o3⟩,o4,o5⟩:=oks ss[i] (zAh hi)
    have s5:=gU o1
    have etk:ss.take (i+1)=ss.take i++[ss[i]]:=by rw [zAj,zA0 hi];rfl
    have efold:(ss.take (i+1)).foldl (hstep n y) (base0 p)=hstep n y ((ss.take i).foldl (hstep n y) (base0 p)) ss[i]:=by rw [etk,List.foldl_append];rfl
    rw [efold]
    generalize hL:(ss.take i).foldl (hstep n y) (base0 p)=L at el ⊢
    have lL:L.length=8:=by
     have:=eO p (ss.take i) n y
     unfold bL at this
     rw [if_pos hin,hL] at this
     exact this
    generalize ss[i]=r at etr s5 o2 o3 o4 o5 ⊢
    rw [s5] at etr
    refine ⟨tr,_,rfl,SqT.of (sm _ _ etr),rfl,_,_,rfl,_,_,rfl,_,_,rfl,_,_,rfl,_,_,rfl,rfl,?_⟩
    refine ⟨_,rfl,_,rfl,rfl,_,rfl,?_⟩
    by_cases hn:fl r 0=n
    ·rw [decide_eq_true (show V.int (fl r 0)=V.int n by rw [hn])]
     refine cj ?_
     refine ⟨_,rfl,_,rfl,_,_,rfl,rfl,_,rfl,?_⟩
     by_cases hy:fl r 4<=y
     ·rw [decide_eq_true hy]
      refine cj ?_
      have e1:hstep n y L r=iV (iV L (fl r 1) (-(fl r 3))) (fl r 2) (fl r 3):=if_pos ⟨hn,hy⟩
      rw [e1]
      refine aG ?_
      refine ⟨_,rfl,_,rfl,l1,_,fl r 1,_,rfl,rfl,SqL.of el,o2,j6 (by lia),_,rfl,_,_,rfl,rfl,l1,_,fl r 1,(fl r 1).toNat,rfl,rfl,el,vR o2 (by rw [zA1];lia),?_⟩
      rw [j7]
      have e2:L.set (fl r 1).toNat (L.getD (fl r 1).toNat 0 - fl r 3)=iV L (fl r 1) (-(fl r 3)):=by
       unfold iV
       rw [Int.sub_eq_add_neg]
      rw [e2]
      generalize hL1:iV L (fl r 1) (-(fl r 3))=L1
      have lL1:L1.length=8:=by rw [<- hL1,gR];exact lL
      refine ⟨_,rfl,_,rfl,l1,_,fl r 2,_,rfl,rfl,SqL.of ao,o4,j6 (by lia),_,rfl,_,_,rfl,rfl,l1,_,fl r 2,(fl r 2).toNat,rfl,rfl,ao,vR o4 (by rw [zA1];lia),?_⟩
      rw [j7]
      exact ⟨_,_,_,_,_,rfl,kp0 (kp0 sm),ao⟩
     ·rw [decide_eq_false hy]
      refine bD ?_
      have e1:hstep n y L r=L:=if_neg fun z=>hy z.2
      rw [e1]
      exact ⟨_,_,_,_,_,rfl,sm,el⟩
    ·rw [decide_eq_false (fun z:V.int (fl r 0)=V.int n=>hn (by injection z))]
     refine bD (bD ?_)
     have e1:hstep n y L r=L:=if_neg fun z=>hn z.1
     rw [e1]
     exact ⟨_,_,_,_,_,rfl,sm,el⟩
   ·rintro σ Hc ⟨x11,x12,x13,x14,x15,rfl,sm,el⟩
    rw [rs.l,zAm] at el
    refine ⟨_,rfl,q _ _ sm ?_⟩
    unfold bL
    rw [if_pos hin]
    exact el
  ·have hb:(decide (fl p 2<=y) && decide (y<=fl p 3))=false:=by
    cases e:(decide (fl p 2<=y) && decide (y<=fl p 3)) with
    | false=>rfl
    | true =>
     rw [zAc,decide_eq_true_eq,decide_eq_true_eq] at e
     exact absurd e hin
   rw [hb]
   refine cj ⟨_,rfl,q _ _ s1 ?_⟩
   unfold bL
   rw [if_neg hin]
   exact el1
end
end K74

namespace K74
open PySem L2
theorem sX {te:TE}{lo:Int}{n:Nat}{σ0:St}{j:Nat}{H0:Hp}{Fin:List V->Hp->Prop}(Pv:List V->Hp->Prop)(h0:Pv [] H0)(hz:n < sizeLine)
  (step:∀ i ys H Q,i < n->ys.length=i->Pv ys H->(∀ y H',Pv (ys++[y]) H'->Q y H')->te (σ0.set j (some (.int (lo+i)))) H Q)
  (fin:∀ ys H,ys.length=n->Pv ys H->Fin ys H):j9 (Itr lo n) (bK j) qz te Fin σ0 H0:=by
 refine ⟨fun i m ys σ H=>m=n - i/\i<=n/\ys.length=i/\(∀ o,σ.set j o=σ0.set j o)/\Pv ys H,⟨_,rfl,zAp _,rfl,fun _=>rfl,h0⟩,?_⟩
 rintro i m ys σ H ⟨rfl,hi,hy,hσ,p⟩
 refine ⟨by lia,?_⟩
 by_cases hlt:i < n
 ·refine .inr ⟨hlt,fun x H' y=>?_⟩
  obtain ⟨e,e2⟩:=y
  subst e
  subst e2
  show te (σ.set j (some (.int (lo+i)))) H' _
  rw [hσ]
  exact step i ys H' _ hlt hy p fun y H2 p2=>⟨n - (i+1),by lia,rfl,hlt,by rw [zA2,hy];rfl,fun o=>by rw [List.set_set],p2⟩
 ·have e:i=n:=by lia
  subst e
  exact .inl ⟨zA3 _,fin ys H hy p⟩
theorem Gu {σ:St}{H:Hp}{ta tb:TE}{i j:Int}(a:Ev σ H ta (.int i))(b:Ev σ H tb (.int j)):Ev σ H (tOp rNe ta tb) (.bl (!decide (i=j))):=fun Q q=>a _ (b _ ⟨rfl,by
 have ed:decide (V.int i=V.int j)=decide (i=j):=decide_eq_decide.mpr ⟨fun z=>by injection z,fun z=>by rw [z]⟩
 rw [ed]
 exact q⟩)
theorem jQ (a b:Int):(years a b).length=(b+1 - a).toNat:=by unfold years;rw [zA1,List.length_range]
theorem jR {a b:Int}{i:Nat}(h:i < (b+1 - a).toNat):(years a b)[i]?=some (a+i):=by
 unfold years
 rw [zAb,List.getElem?_range h]
 rfl
theorem pK {α β:Type}{l:List α}{f:α->β}{ys:List β}{x:α}(ey:ys=(l.take ys.length).map f)(hx:l[ys.length]?=some x):ys++[f x]=(l.take (ys++[f x]).length).map f:=by
 rw [zA2,List.length_singleton,zAj,hx,zA4,<- ey]
 rfl
inductive SpBetwI (vs:List V)(H:Hp)(Q:VK):Prop
 | mk:∀ ap xp ps t s,(vs=[.ref ap,.ref t])->(RowsAt H ap xp ps)->((∀ r∈ps,okP r))->(H t=some (.tup (s.map V.int)))->(s.length=5)->(Q (.bl (lC ps s)) H)->SpBetwI  vs H Q
def zr:Sp:=fun vs H Q _=>SpBetwI  vs H Q
inductive SpHoldsI (vs:List V)(H:Hp)(Q:VK):Prop
 | mk:∀ ap xp ps as_ xs ss t s,(vs=[.ref ap,.ref as_,.ref t])->(RowsAt H ap xp ps)->((∀ r∈ps,okP r))->(RowsAt H as_ xs ss)->(ss.length<=12)->((∀ s∈ss,okS s))->(H t=some (.tup (s.map V.int)))->(s.length=5)->(∀ H',Same H H'->Q (.bl (cG ps ss s)) H')->SpHoldsI  vs H Q
def qQ:Sp:=fun vs H Q _=>SpHoldsI  vs H Q
def unV:Option Nat->V
 | none=>.non
 | some i=>.int i
inductive SpFirstI (vs:List V)(H:Hp)(Q:VK):Prop
 | mk:∀ S v d S' u e,(vs=[v,u])->(IsTh S H v d)->(IsTh S' H u e)->(dY d=true)->(dZ e=true)->(sz d<=4000)->(sz e<=4000)->(∀ H',Same H H'->Q (unV (un (rowsOf d) (rowsOf e))) H')->SpFirstI  vs H Q
def vU:Sp:=fun vs H Q _=>SpFirstI  vs H Q
theorem gk {ps:List (List Int)}{n:Int}(h:∀ r∈ps,okP r)(h0:0<=n)(h1:n < ps.length):∃ p,ps[n.toNat]?=some p/\ps.getD n.toNat []=p/\okP p:=by
 have hn:n.toNat < ps.length:=by lia
 refine ⟨ps[n.toNat],zA0 hn,?_,h _ (zAh hn)⟩
 rw [zA7,zA0 hn]
 rfl
theorem gm {H:Hp}{a:Addr}{xs:List V}{rs:List (List Int)}{n:Int}{r:List Int}(h:RowsAt H a xs rs)(h0:0<=n)(e:rs[n.toNat]?=some r):∃ t,atI xs n=some (.ref t)/\H t=some (.tup (r.map V.int)):=by
 obtain ⟨t,e1,e2⟩:=h.g _ _ e
 refine ⟨t,?_,e2⟩
 have:=gh e1
 rw [show ((n.toNat:Nat):Int)=n by lia] at this
 exact this
section
variable {P:Program}{w:World}{K:PySem.W.Frag}{mg:Str->Option Value}{base:Heap}
theorem sc24s:FnScope ["promises","sale","number","seller","buyer","sacks","year","holder","sort","first","last","due","price"] ["promises","sale"] (aJ (top 36)):=⟨rfl,rfl,rfl,by decide +kernel,rfl,by decide +kernel,by decide +kernel⟩
theorem BL {f:Addr}{fd:FuncData}(F:Fun K "is_sale_between" "is_sale_between" (top 36) f fd)(T:Mg mg)(N:Nums mg):FnOk P w K mg base CX0 1 f fd ["promises","sale"] zr:=by
 refine F.ok sc24s (fun vs H Q E h=>?_) (fun cdv A outer s H vs Q E hr h=>?_)
 ·obtain ⟨ap,xp,ps,t,r,rfl,_⟩:=h
  rfl
 ·obtain ⟨ap,xp,ps,t,r,rfl,rp,okp,et,h5,q⟩:=h
  obtain ⟨t1,e1⟩:=N.holders
  obtain ⟨t4,e4⟩:=N.sacks
  refine ⟨_,aB (cB (pv 1) (bU rfl (aq (au (i:=2) sc24s.nd rfl (Or.inl rfl)) (aq (au (i:=3) sc24s.nd rfl (Or.inl rfl)) (aq (au (i:=4) sc24s.nd rfl (Or.inl rfl)) (aq (au (i:=5) sc24s.nd rfl (Or.inl rfl)) (aq (au (i:=6) sc24s.nd rfl (Or.inl rfl)) aY)))))))
   (aB (cu (bY (eZ bO mq aA (pv 2) (aO bj rfl T.len PySem.boot_len (az (pv 0) aj)))) (aH (aU gD)) bh)
   (aB (cB (aZ bG (pv 0) (pv 2) (fun _ _=>rfl)) (bU rfl (aq (au (i:=7) sc24s.nd rfl (Or.inl rfl)) (aq (au (i:=8) sc24s.nd rfl (Or.inl rfl)) (aq (au (i:=9) sc24s.nd rfl (Or.inl rfl))
    (aq (au (i:=10) sc24s.nd rfl (Or.inl rfl)) (aq (au (i:=11) sc24s.nd rfl (Or.inl rfl)) (aq (au (i:=12) sc24s.nd rfl (Or.inl rfl)) aY))))))))
   (aH (aU (cD (cO bO mq aA (pv 3) (bR (v:=.int 8) rfl e1 ⟨_,rfl⟩)) (cD (cO bO mq aA (pv 4) (bR (v:=.int 8) rfl e1 ⟨_,rfl⟩)) (cD (ik Dg (pv 3) (pv 4) (bI _))
    (cD (cO bO bO aA (pv 5) (bR (v:=.int 99) rfl e4 ⟨_,rfl⟩)) (dR (cO bO bO (pv 9) (pv 6) (pv 10))))))))))),?_⟩
  rw [gU h5] at et
  refine aG ?_
  refine ⟨_,rfl,t,_,rfl,SqT.of et,rfl,_,_,rfl,_,_,rfl,_,_,rfl,_,_,rfl,_,_,rfl,rfl,?_⟩
  dsimp only
  refine aG ?_
  refine bV (p:=fun i j=>decide (i<=j)) (q:=fun i j=>decide (i < j)) (i:=0) (j:=fl r 0) (k:=(xp.length:Int)) eF (dw rfl) (fun Q h=>⟨_,rfl,ap,xp,rfl,.inr (SqT.of rp.e),h⟩) _ ⟨_,rfl,?_⟩
  have fin:=q
  unfold lC at fin
  rw [rp.l]
  cases e:(decide (0<=fl r 0) && decide (fl r 0 < ps.length)) with
  | false =>
   rw [e] at fin
   exact cj fin
  | true =>
   rw [e] at fin
   rw [zAc,decide_eq_true_eq,decide_eq_true_eq] at e
   obtain ⟨p,hp,ep,op⟩:=gk okp e.1 e.2
   obtain ⟨tp,hat,etp⟩:=gm rp e.1 hp
   rw [eG op.1] at etp
   refine bD ?_
   refine cz ?_
   dsimp only
   refine aG ?_
   refine ⟨_,rfl,_,rfl,ap,xp,_,.ref tp,rfl,rfl,SqT.of rp.e,hat,?_⟩
   refine ⟨tp,_,rfl,SqT.of etp,rfl,_,_,rfl,_,_,rfl,_,_,rfl,_,_,rfl,_,_,rfl,_,_,rfl,rfl,?_⟩
   have epr:jl ps r=p:=ep
   rw [epr] at fin
   exact gK (bV eF (dw rfl) eF) (fun _=>gK (bV eF (dw rfl) eF) fun _=>gK (Gu (dw rfl) (dw rfl)) fun _=>gK (bV eF (dw rfl) eF) fun _=>bV (dw rfl) (dw rfl) (dw rfl)) _ fin
theorem sc25s:FnScope ["promises","ahead","sale","number","seller","buyer","sacks","year","last"] ["promises","ahead","sale"] (aJ (top 37)):=⟨rfl,rfl,rfl,by decide +kernel,rfl,by decide +kernel,by decide +kernel⟩
theorem Iz:(["at","promises","ahead","number","seller","sacks"]:List Str).Nodup:=by decide +kernel
theorem zu {f:Addr}{fd:FuncData}(F:Fun K "sale_holds" "sale_holds" (top 37) f fd)(T:Mg mg)(Tr:mg "range" = none)(c1:Cal P w K mg base 1 "is_sale_between" ["promises","sale"] zr)(c2:Cal P w K mg base 1 "held_in" ["promises","sales","number","year"] uP) :
  FnOk P w K mg base CX0 2 f fd ["promises","ahead","sale"] qQ:=by
 refine F.ok sc25s (fun vs H Q E h=>?_) (fun cdv A outer s H vs Q E hr h=>?_)
 ·obtain ⟨ap,xp,ps,as_,xs,ss,t,r,rfl,_⟩:=h
  rfl
 ·obtain ⟨ap,xp,ps,as_,xs,ss,t,r,rfl,rp,okp,rs,hl,oks,et,h5,q⟩:=h
  refine ⟨_,aB (cu (bY (cN (aK c1 hr (zA3 _) rfl (az (pv 0) (az (pv 2) aj))))) (aH (aU gD)) bh)
   (aB (cB (pv 2) (bU rfl (aq (au (i:=3) sc25s.nd rfl (Or.inr rfl)) (aq (au (i:=4) sc25s.nd rfl (Or.inr rfl)) (aq (au (i:=5) sc25s.nd rfl (Or.inl rfl)) (aq (au (i:=6) sc25s.nd rfl (Or.inr rfl)) (aq (au (i:=7) sc25s.nd rfl (Or.inl rfl)) aY)))))))
   (aB (bf (i:=8) sc25s.nd rfl (Or.inl rfl) (aZ bG (aZ bG (pv 0) (pv 3) (fun _ _=>rfl)) aA (fun _ _=>rfl)))
   (aH (aU (aO (dM rfl) rfl T.all boot_all (az (bZ ["at","promises","ahead","number","seller","sacks"] [none,some 0,some 1,some 3,some 4,some 6] rfl (ig rfl Tr (az (pv 7) (az (aV bM (pv 8) aA) aj)))
    (fun C fp pins s₂ H₂=>⟨au (i:=0) Iz rfl (Or.inl rfl),bT,ik vz (aZ (sV (K:=K) rfl) (aK c2 hr (zA3 _) rfl (az (pv 1) (az (pv 2) (az (pv 3) (az (pv 0) aj))))) (pv 4) (fun _ _=>rfl)) (pv 5) (bI _)⟩)
    (fun C=>⟨⟨rfl,.inl rfl,rfl,.inl rfl⟩,⟨rfl,.inl rfl,rfl,.inl rfl⟩,⟨rfl,.inl rfl,rfl,.inl rfl⟩,⟨rfl,.inl rfl,rfl,.inl rfl⟩,⟨rfl,.inl rfl,rfl,.inl rfl⟩,trivial⟩) ⟨rfl,rfl,rfl,rfl⟩) aj)))))),?_⟩
  have fin:=q
  unfold cG at fin
  refine aG ?_
  refine ⟨_,rfl,_,rfl,ap,xp,ps,t,r,rfl,rp,okp,et,h5,_,rfl,?_⟩
  cases e:lC ps r with
  | false =>
   rw [e] at fin
   exact cj (fin _ (Same.refl _))
  | true =>
   rw [e] at fin
   refine bD ?_
   refine cz ?_
   dsimp only
   refine aG ?_
   unfold lC at e
   simp only [Bool.and_eq_true,decide_eq_true_eq] at e
   obtain ⟨⟨n0,n1⟩,⟨b0,b1⟩,_,_,⟨k0,k1⟩,y0,y1⟩:=e
   obtain ⟨p,hp,ep,op⟩:=gk okp n0 n1
   have epr:jl ps r=p:=ep
   rw [epr] at fin y0 y1
   obtain ⟨tp,hat,etp⟩:=gm rp n0 hp
   rw [gU h5] at et
   rw [eG op.1] at etp
   obtain ⟨_,_,_,⟨g1,g2,g3⟩,_⟩:=id op
   refine ⟨_,rfl,t,_,rfl,SqT.of et,rfl,_,_,rfl,_,_,rfl,_,_,rfl,_,_,rfl,_,_,rfl,rfl,?_⟩
   dsimp only
   refine aG ?_
   refine aX ?_
   refine ⟨_,rfl,_,rfl,ap,xp,_,.ref tp,rfl,rfl,SqT.of rp.e,hat,tp,_,3,.int (fl p 3),rfl,rfl,SqT.of etp,rfl,?_⟩
   refine aM ?_
   dsimp only
   refine ⟨_,rfl,_,rfl,_,_,rfl,rfl,fl r 4,fl p 3+1,rfl,⟨by lia,by lia,by lia,by lia⟩,?_⟩
   refine sX (fun ys Hc=>Same H Hc/\ys=((years (fl r 4) (fl p 3)).take ys.length).map fun y=>V.bl (decide (fl r 3<=(bL p ss (fl r 0) y).getD (fl r 1).toNat 0))) ⟨Same.refl _,rfl⟩ (by rw [sizeLine_eq];lia) ?_ ?_
   ·rintro i ys Hc Qc hi hy ⟨sc,ey⟩ qc
    refine ⟨_,rfl,_,rfl,_,rfl,_,rfl,ap,xp,ps,as_,xs,ss,fl r 0,fl r 4+i,rfl,rp.same sc,rs.same sc,n0,n1,by rw [ep];exact op,hl,oks,fun l H' s' el=>?_⟩
    rw [ep] at el
    refine ⟨_,rfl,l,_,fl r 1,.int ((bL p ss (fl r 0) (fl r 4+i)).getD (fl r 1).toNat 0),rfl,rfl,SqL.of el,?_,_,rfl,_,_,rfl,rfl,qc _ _ ⟨sc.trans s',?_⟩⟩
    ·unfold atI
     rw [vR b0 (by rw [zA1,eO];lia)]
     exact j6 (by rw [eO];lia)
    ·have hx:(years (fl r 4) (fl p 3))[ys.length]?=some (fl r 4+(i:Int)):=by
      rw [hy]
      exact jR hi
     exact pK ey hx
   ·rintro ys Hc hy ⟨sc,ey⟩ D hD
    rw [List.take_of_length_le (by rw [jQ,hy];exact zA3 _)] at ey
    refine ⟨D,(years (fl r 4) (fl p 3)).map fun y=>decide (fl r 3<=(bL p ss (fl r 0) y).getD (fl r 1).toNat 0),rfl,SqL.of (by rw [zAr];rw [ey];exact ao),?_⟩
    rw [List.all_map]
    exact fin _ (sc.updR hD)
end
end K74

namespace K74
open PySem L2
theorem ni {xs:List V}{i:Nat}(h:i<=xs.length):lu xs none (some (i:Int))=xs.take i:=by
 unfold lu
 rw [HT.sIx_none,HT.sIx_nat,List.drop_zero,Nat.min_eq_left h,Nat.sub_zero]
theorem RowsAt.cut {H:Hp}{a p:Addr}{xs:List V}{rs:List (List Int)}(h:RowsAt H a xs rs)(i:Nat)(hp:H p=none):RowsAt (upd H p (.tup (xs.take i))) p (xs.take i) (rs.take i):=by
 refine ⟨ao,by rw [zAd,zAd,h.l],fun j r e=>?_⟩
 have hj:j < i:=by
  rw [List.getElem?_take] at e
  split at e
  ·assumption
  ·cases e
 rw [List.getElem?_take_of_lt hj] at e
 obtain ⟨t,e1,e2⟩:=h.g j r e
 exact ⟨t,by rw [List.getElem?_take_of_lt hj];exact e1,Same.upd hp _ _ e2⟩
theorem qR {ps ss:List (List Int)}{i:Nat}(h:∀ j,j < i->cG ps (ss.take j) (ss.getD j [])=true)(hi:i < ss.length)(hn:cG ps (ss.take i) (ss.getD i [])=false):un ps ss=some i:=by
 unfold un
 rw [List.find?_range_eq_some]
 exact ⟨by rw [hn];rfl,List.mem_range.mpr hi,fun j hj=>by rw [h j hj];rfl⟩
theorem lJ {ps ss:List (List Int)}(h:∀ j,j < ss.length->cG ps (ss.take j) (ss.getD j [])=true):un ps ss=none:=by
 unfold un
 rw [List.find?_range_eq_none]
 exact fun j hj=>by rw [h j hj];rfl
theorem jm {ps ss:List (List Int)}{s:List Int}(h5:s.length=5)(h:cG ps ss s=true):okS s:=by
 unfold cG lC at h
 simp only [Bool.and_eq_true,decide_eq_true_eq] at h
 exact ⟨h5,h.1.2.1,h.1.2.2.1⟩
theorem getD_get {ss:List (List Int)}{i:Nat}(h:i < ss.length):ss.getD i []=ss[i]:=by
 rw [zA7,zA0 h]
 rfl
def part (d:PyData)(i:Nat):PyData:=(items d).getD i .none
def pL (d:PyData):Bool:=bB d 3 3 && (gP (part d 0) && (dY (part d 1) && (dZ (part d 2) && (un (rowsOf (part d 1)) (rowsOf (part d 2))).isNone)))
section
variable {P:Program}{w:World}{K:PySem.W.Frag}{mg:Str->Option Value}{base:Heap}
theorem sc26s:FnScope ["promises","sales","at","sale"] ["promises","sales"] (aJ (top 38)):=⟨rfl,rfl,rfl,by decide +kernel,rfl,by decide +kernel,by decide +kernel⟩
theorem zx {f:Addr}{fd:FuncData}(F:Fun K "first_unheld" "first_unheld" (top 38) f fd)(Te:mg "enumerate" = none)(c1:Cal P w K mg base 4 "are_promises" ["thing"] (spT dY))(c2:Cal P w K mg base 3 "are_sales" ["thing"] (spT dZ))(c3:Cal P w K mg base 2 "sale_holds" ["promises","ahead","sale"] qQ) :
  FnOk P w K mg base CX0 5 f fd ["promises","sales"] vU:=by
 refine F.ok sc26s (fun vs H Q E h=>?_) (fun cdv A outer s H vs Q E hr h=>?_)
 ·obtain ⟨S,v,d,S',u,e,rfl,_⟩:=h
  rfl
 ·obtain ⟨S,v,d,S',u,e,rfl,thp,ths,hp,hs,zp,zs,q⟩:=h
  refine ⟨_,aB (cu (bY (cN (aK c1 hr (by decide) rfl (az (pv 0) aj)))) oW bh)
   (aB (cu (bY (cN (aK c2 hr (by decide) rfl (az (pv 1) aj)))) oW bh)
   (aB (cW PassesOwn.never rfl (pi_enum rfl Te (az (pv 1) aj)) (bU rfl (aq (au (i:=2) sc26s.nd rfl (Or.inl rfl)) (aq (au (i:=3) sc26s.nd rfl (Or.inl rfl)) aY)))
    (aH (cu (bY (cN (aK c3 hr (by decide) rfl (az (pv 0) (az (rQ BJ (pv 1) vD (vG (pv 2))) (az (pv 3) aj)))))) (aH (aU (pv 2))) bh)))
   (aH (aU qg)))),?_⟩
  refine aG ?_
  refine ⟨_,rfl,S,v,d,rfl,thp,zp,fun H1 s1=>⟨_,rfl,?_⟩⟩
  rw [hp]
  refine bD ?_
  refine cz ?_
  dsimp only
  refine aG ?_
  refine ⟨_,rfl,S',u,e,rfl,ths.same s1,zs,fun H2 s2=>⟨_,rfl,?_⟩⟩
  rw [hs]
  refine bD ?_
  refine cz ?_
  dsimp only
  have s12:=s1.trans s2
  obtain ⟨ep,lp,okp⟩:=uN hp
  obtain ⟨es,ls,oks⟩:=uO hs
  have th1:=thp.same s12
  have th2:=ths.same s12
  rw [ep] at th1
  rw [es] at th2
  generalize rowsOf d=ps at q lp okp th1
  generalize rowsOf e=ss at q ls oks th2
  obtain ⟨ap,xp,rfl,rp⟩:=lH th1
  obtain ⟨as_,xs,rfl,rs⟩:=lH th2
  refine aG ?_
  refine ⟨_,rfl,as_,xs,rfl,SqT.of rs.e,?_⟩
  refine jj (xs:=xs) (fun i σ Hc=>∃ x2 x3,σ=[some (.ref ap),some (.ref as_),x2,x3]/\Same H2 Hc/\∀ j,j < i->cG ps (ss.take j) (ss.getD j [])=true) ?_ ?_ ?_ ?_
  ·exact ⟨none,none,rfl,Same.refl _,fun j hj=>absurd hj (Nat.not_lt_zero _)⟩
  ·rintro i σ Hc hi ⟨x2,x3,rfl,sm,hh⟩
   exact SqT.of (sm _ _ rs.e)
  ·rintro i x σ Hc T0 hx ⟨x2,x3,rfl,sm,hh⟩ nT
   have hi:i < ss.length:=by
    have:=(zAa.mp hx).1
    rw [rs.l] at this
    exact this
   have hix:i < xs.length:=by rw [rs.l];exact hi
   obtain ⟨tr,ex2,etr⟩:=rs.g i ss[i] (zA0 hi)
   have:x=.ref tr:=by
    rw [hx] at ex2
    exact zAl ex2
   subst this
   have h5:=oks ss[i] (zAh hi)
   have sT:=sm.updR (o:=.tup [V.int i,V.ref tr]) nT
   refine ⟨T0,_,rfl,SqT.of ao,rfl,_,_,rfl,_,_,rfl,rfl,?_⟩
   refine ⟨_,rfl,_,rfl,_,rfl,i,rfl,as_,xs,rfl,SqT.of (sT _ _ rs.e),fun hw=>?_,fun _ p hp'=>?_⟩
   ·have:=hw.2
    rw [HT.sIx_nat] at this
    exact absurd this (by lia)
   rw [ni (Nat.le_of_lt hix)]
   have sp:=sT.updR (o:=.tup (xs.take i)) hp'
   refine ⟨_,rfl,ap,xp,ps,p,xs.take i,ss.take i,tr,ss[i],rfl,rp.same sp,okp,(rs.same sT).cut i hp',?_,?_,sp _ _ etr,h5,fun H' s'=>⟨_,rfl,?_⟩⟩
   ·rw [zAd]
    lia
   ·intro s hs'
    obtain ⟨j,hj,e'⟩:=List.getElem_of_mem hs'
    rw [zAd] at hj
    have hji:j < i:=by lia
    have hjs:j < ss.length:=by lia
    have e2:ss[j]=s:=by rw [<- e',List.getElem_take]
    rw [<- e2]
    have:=hh j hji
    rw [getD_get hjs] at this
    exact jm (oks _ (zAh hjs)) this
   ·cases eh:cG ps (ss.take i) ss[i] with
    | false =>
     refine cj ⟨_,rfl,?_⟩
     have:=q H' (s12.trans (sp.trans s'))
     rw [qR hh hi (by rw [getD_get hi];exact eh)] at this
     exact this
    | true =>
     refine bD ⟨_,_,rfl,sp.trans s',fun j hj=>?_⟩
     rcases Nat.lt_succ_iff_lt_or_eq.mp hj with z | z
     ·exact hh j z
     ·rw [z,getD_get hi]
      exact eh
  ·rintro σ Hc ⟨x2,x3,rfl,sm,hh⟩
   have:=q Hc (s12.trans sm)
   rw [lJ fun j hj=>hh j (by rw [rs.l];exact hj)] at this
   exact this
theorem sc27s:FnScope ["thing","clips","promises","sales"] ["thing"] (aJ (top 39)):=⟨rfl,rfl,rfl,by decide +kernel,rfl,by decide +kernel,by decide +kernel⟩
theorem BP {f:Addr}{fd:FuncData}(F:Fun K "is_book" "is_book" (top 39) f fd)(c0:Cal P w K mg base 1 "is_tuple_of" ["thing","fewest","most"] (lA bB))(c1:Cal P w K mg base 4 "are_clips" ["thing"] (spT gP))(c2:Cal P w K mg base 4 "are_promises" ["thing"] (spT dY))(c3:Cal P w K mg base 3 "are_sales" ["thing"] (spT dZ))(c4:Cal P w K mg base 5 "first_unheld" ["promises","sales"] vU) :
  FnOk P w K mg base CX0 6 f fd ["thing"] (spT pL):=by
 refine F.ok sc27s (fun vs H Q E h=>?_) (fun cdv A outer s H vs Q E hr h=>?_)
 ·obtain ⟨S,v,d,rfl,_⟩:=h
  rfl
 ·obtain ⟨S,v,d,rfl,th,hz,q⟩:=h
  refine ⟨_,aB (cu (bY (cN (aK c0 hr (by decide) rfl (az (pv 0) (az aA (az aA aj)))))) (aH (aU gD)) bh)
   (aB (cB (pv 0) (bU rfl (aq (au (i:=1) sc27s.nd rfl (Or.inl rfl)) (aq (au (i:=2) sc27s.nd rfl (Or.inl rfl)) (aq (au (i:=3) sc27s.nd rfl (Or.inl rfl)) aY)))))
   (aH (aU (cD (aK c1 hr (by decide) rfl (az (pv 1) aj)) (cD (aK c2 hr (by decide) rfl (az (pv 2) aj)) (cD (aK c3 hr (by decide) rfl (az (pv 3) aj)) (dR (ik yE (aK c4 hr (by decide) rfl (az (pv 2) (az (pv 3) aj))) qg (bI _))))))))),?_⟩
  have fin:=q
  unfold pL at fin
  refine aG ?_
  refine ⟨_,rfl,S,v,d,3,3,rfl,th,hz,fun H1 s1=>⟨_,rfl,?_⟩⟩
  cases e:bB d 3 3 with
  | false =>
   rw [e] at fin
   exact cj (fin _ s1)
  | true =>
   rw [e] at fin
   refine bD ?_
   refine cz ?_
   dsimp only
   obtain ⟨ds,rfl,l1,l2⟩:=jP e
   have th1:=th.same s1
   cases th1 with
   | @tup a xs _ ea r =>
    obtain ⟨v0,v1,v2,d0,d1,d2,rfl,rfl,h0,h1,h2⟩:=xK r (show ds.length=3 by lia)
    have z0:=jh (d:=d0) (by simp) hz
    have z1:=jh (d:=d1) (by simp) hz
    have z2:=jh (d:=d2) (by simp) hz
    refine aG ?_
    refine ⟨_,rfl,a,_,rfl,SqT.of ea,rfl,_,_,rfl,_,_,rfl,_,_,rfl,rfl,?_⟩
    dsimp only
    have fin:∀ H',Same H H'->Q (.bl (true && (gP d0 && (dY d1 && (dZ d2 && (un (rowsOf d1) (rowsOf d2)).isNone))))) H':=fin
    refine ⟨_,rfl,S,_,d0,rfl,h0,z0,fun H2 s2=>⟨_,rfl,?_⟩⟩
    cases e0:gP d0 with
    | false =>
     rw [e0] at fin
     exact bD (fin _ (s1.trans s2))
    | true =>
     rw [e0] at fin
     refine cj ?_
     refine ⟨_,rfl,S,_,d1,rfl,h1.same s2,z1,fun H3 s3=>⟨_,rfl,?_⟩⟩
     cases e1:dY d1 with
     | false =>
      rw [e1] at fin
      exact bD (fin _ ((s1.trans s2).trans s3))
     | true =>
      rw [e1] at fin
      refine cj ?_
      refine ⟨_,rfl,S,_,d2,rfl,h2.same (s2.trans s3),z2,fun H4 s4=>⟨_,rfl,?_⟩⟩
      cases e2:dZ d2 with
      | false =>
       rw [e2] at fin
       exact bD (fin _ (((s1.trans s2).trans s3).trans s4))
      | true =>
       rw [e2] at fin
       refine cj ?_
       have s24:=(s2.trans s3).trans s4
       refine ⟨_,rfl,_,rfl,S,_,d1,S,_,d2,rfl,h1.same s24,h2.same s24,e1,e2,z1,z2,fun H5 s5=>⟨rfl,?_⟩⟩
       have:=fin H5 (s1.trans (s24.trans s5))
       cases eu:un (rowsOf d1) (rowsOf d2) with
       | none =>
        rw [eu] at this
        exact this
       | some i =>
        rw [eu] at this
        exact this
end
end K74


namespace L2.EL
open PySem PySem.Spec PyProof.Rows L2
abbrev zL (h:Heap)(l:Addr):Heap:=h.push { cls:=.type "list_iterator",data:=.fields #[.ref l,.int 0 0] }
theorem nj (t:Addr)(its:Array Value) :
  Meets (Builtin.«enumerate.__new__» ⟨[.type "enumerate",.ref t],[]⟩) (fun _ R s=>s.heap.IsList t its /\
   R (.ok (.ret (.ref (zL s.heap t).objs.size))) { s with heap:=(zL s.heap t).push { cls:=.type "enumerate",data:=.fields #[.none,.bool false,.ref s.heap.objs.size,rawInt 0,.none,.none] } }) :=
 .of_wp fun prog w A R s h=>by
  obtain ⟨hp,g,d,tk,os⟩:=s
  obtain ⟨ht,h⟩:=h
  have hsub:=sub_enumerate
  have hT:Heap.IsList (Shared.heap ⟨hp,g,d,tk,os⟩) t its:=ht
  wp_walk
  refine wpAny_stack_any fun st=>wpAny_pure ?_
  split
  ·rename_i c _ _ _ _ _
   cases (c == Value.type "enumerate")
   ·wp_walk using wpAny_pyIter_list hT
    exact ⟨_,rfl,h⟩
   ·wp_walk using wpAny_pyIter_list hT
    exact ⟨_,rfl,h⟩
  ·wp_walk using wpAny_pyIter_list hT
   exact ⟨_,rfl,h⟩
theorem oN {prog:Program}{w:World}{A:Around}{E:Value->Shared->Prop}{s:Shared}{t:Addr}{its:Array Value}{Q:Value->Shared->Prop}(ht:s.heap.IsList t its)
  (h:∀ h',IsEnum h' (s.heap.objs.size+1) s.heap.objs.size 0 .none->h'.IsListIter s.heap.objs.size t 0->(∀ c o,s.heap.get? c=some o->h'.get? c=some o)->Q (.ref (s.heap.objs.size+1)) { s with heap:=h' }) :
  wpAny (model prog w) A (call (.type "enumerate") [.ref t]) Q E s:=by
 refine callType_new F.called_enumerate (by decide) (F.typeCall_enumerate_1 _) (F.newCall_enumerate_1 _) (fun obj=>F.args_object_init_2 obj _) F.entry_enumerate_new (nj t its) ⟨ht,?_⟩
 have e1:(zL s.heap t).objs.size=s.heap.objs.size+1:=Heap.size_push ..
 have g2:=Heap.get?_push_size (zL s.heap t) (o:={ cls:=.type "enumerate",data:=.fields #[.none,.bool false,.ref s.heap.objs.size,rawInt 0,.none,.none] }) rfl
 have g1:=Heap.get?_push_of_some { cls:=.type "enumerate",data:=.fields #[.none,.bool false,.ref s.heap.objs.size,rawInt 0,.none,.none] } (Heap.get?_push_size s.heap (o:={ cls:=.type "list_iterator",data:=.fields #[.ref t,.int 0 0] }) rfl)
 show _/\_
 rw [e1] at g2 ⊢
 exact ⟨⟨_,g2,rfl⟩,h _ g2 ⟨_,g1,rfl,rfl⟩ fun c o x=>Heap.get?_push_of_some _ (Heap.get?_push_of_some _ x)⟩
def Ite (K:PySem.W.Frag)(a:Addr):It :=
 ⟨fun i H=>∃ xs x,SqL K H a xs/\xs[i]?=some x,
  fun i H v H'=>∃ T,H T=none/\v=.ref T/\∀ xs,SqL K H a xs->∃ x,xs[i]?=some x/\H'=upd H T (.tup [.int i,x]),
  fun i H=>∃ xs,SqL K H a xs/\xs.length<=i⟩
def tne (e it a:Addr)(i:Nat)(h:Heap):Prop:=(∃ old,IsEnum h e it i old)/\h.IsListIter it a i
theorem jO {P:Program}{w:World}{K:PySem.W.Frag}{es:List Expr}{k:Nat}{pos:Pos}{e it a:Addr}(nei:e≠it)(nea:e≠a)(nai:a≠it) :
  Turn P w K (.Tuple es k pos) (Ite K a) [e,it] e (tne e it a) where
 mem:=by simp
 obj:=fun i h st c hc=>by
  obtain ⟨⟨old,s1⟩,⟨o4,s4,c4,d4⟩⟩:=st
  simp only [List.mem_cons,List.not_mem_nil,or_false] at hc
  rcases hc with z | z <;> subst z
  ·exact ⟨_,s1,fun v q=>by cases q⟩
  ·exact ⟨_,s4,fun v q=>by rw [d4] at q;cases q⟩
 keep:=fun i h h' st kp=>by
  obtain ⟨⟨old,s1⟩,s4⟩:=st
  exact ⟨⟨old,kp e (by simp) _ s1⟩,s4.at fun o z=>kp it (by simp) o z⟩
 item:=by
  intro X hP hw hK hc i pins s σ H E I hf st hg
  subst hP hw hK
  obtain ⟨⟨old,s1⟩,s4⟩:=st
  obtain ⟨xs,x,hxs,hx⟩:=hg
  obtain ⟨its,rv,p,_⟩:=I.list hxs
  obtain ⟨ux,hux,rx⟩:=rv.get hx
  have hlt:i < its.toArray.size:=by
   have:=(zAa.mp hux).1
   simpa using this
  have D:=Draws.list (prog:=X.prog) (w:=X.w) (A:=X.A.in1) (I.ok.hd hc) it a nai its.toArray
  refine wpAny_pyNext_enum_itemD D s1 ⟨s4,p.isList⟩ hlt nei (by simp [nei,nea]) fun u h1 tk hu g1 g3 g5 g6 kp=>?_
  have eu:u=ux:=by
   have hu:its.toArray[i]?=some u:=hu
   rw [List.getElem?_toArray,hux] at hu
   exact (zAl hu).symm
  subst eu
  refine ⟨_,rfl,?_⟩
  refine wpAny_letOwnedTupleGo_enum g1 fun h2 e1 sb=>?_
  have live:∀ c,c∈[e,it]->∃ o,s.heap.get? c=some o:=fun c hc'=>by
   simp only [List.mem_cons,List.not_mem_nil,or_false] at hc'
   rcases hc' with q | q <;> subst q
   ·exact ⟨_,s1⟩
   ·exact let ⟨o,h,_⟩:=s4;⟨o,h⟩
  have ne:∀ c,c∈[e,it]->c≠s.heap.objs.size:=fun c hc' z=>by
   obtain ⟨o,ho⟩:=live c hc'
   exact absurd (Heap.lt_size ho) (by rw [z];exact Nat.lt_irrefl _)
  have hT:H s.heap.objs.size=none:=I.hok.fresh (zA3 _)
  have kept:∀ c o,c ∉ [e,it]->s.heap.get? c=some o->h2.get? c=some o:=fun c o hc' z =>
   sb.extBut _ _ (fun q=>hc' (by simp [q])) (kp c o (fun q=>hc' (by simp [q])) (fun q=>hc' (by simp [q])) z)
  have trk:∀ c o,H c=some o->c ∉ [e,it]:=fun c o z hc'=>by
   have:=(hf c hc').1
   rw [z] at this;cases this
  have newT:h2.get? s.heap.objs.size=some { cls:=.type "tuple",data:=.seq #[.int i tk,u] }:=sb.extBut _ _ (Ne.symm (ne e (by simp))) g5
  have hok2:HOk X.prog X.w (upd H s.heap.objs.size (.tup [.int i,x])) h2:=fun c o z=>by
   by_cases hb:c=s.heap.objs.size
   ·subst hb
    rw [ao] at z
    cases z
    exact ⟨by show 2<=sizeLine;decide,[.int i tk,u],.cons ⟨tk,rfl⟩ (.cons rx .nil),_,newT,rfl,_,rfl⟩
   ·rw [aD hb] at z
    refine (I.hok c o z).stay (fun d v hd q=>kept d v ?_ q) (fun d q=>by rw [aD (aF q hT)];exact q) fun d l q=>by rw [aD (aF q hT)];exact q
    rcases hd with e' | e'
    ·rw [e'];exact trk c o z
    ·exact trk d _ e'
  have I2:Inv X pins σ (upd H s.heap.objs.size (.tup [.int i,x])) { s with heap:=h2,toks:=tk+1 }:=by
   refine I.step (g':=s.gens) (d':=s.drawn) (t':=tk+1) (ch:=[e,it]) (fun c hc'=>?_) (fun c o _ _ hn z _=>kept c o hn z) (fun c o _ _ hn z _=>⟨o.slots,kept c o hn z⟩)
    (fun c o _ z n=>by rw [aD (Nat.ne_of_lt (Heap.lt_size z))];exact n) (fun c o hn z=>⟨o,kept c o hn z⟩) (fun c l z=>by rw [aD (aF z hT)];exact z) (fun c o l z=>by rw [aD (aF z hT)];exact z)
    (fun c l z=>⟨#[],by rw [aD (aF z hT),z];simp⟩) (fun m hm=>?_) hok2 I.bare
   ·obtain ⟨f0,f1,f2,f3,f4,f5⟩:=hf c hc'
    exact ⟨f3,f1,f4,f5⟩
   ·obtain ⟨o,es',ep,ho,r⟩:=hm
    refine ⟨o,es',ep,kept _ o (fun hc'=>?_) ho,r⟩
    exact (hf _ hc').2.1 rfl
  refine ⟨.ref s.heap.objs.size,_,I2,rfl,⟨s.heap.objs.size,hT,rfl,fun xs' e1'=>⟨x,?_,rfl⟩⟩,⟨⟨u,?_⟩,?_⟩,fun c hc'=>?_⟩
  ·rw [I.list_inj e1' hxs];exact hx
  ·have:=e1
   rw [show (((i+1:Nat):Int))=(i:Int)+1 by lia]
   exact this
  ·exact g3.1.extBut sb.extBut nei.symm
  ·rw [aD (ne c hc')]
   exact (hf c hc').1
 done:=by
  intro X hP hw hK hc i pins s σ H E I hf st hg
  subst hP hw hK
  obtain ⟨⟨old,s1⟩,s4⟩:=st
  obtain ⟨xs,hxs,hlen⟩:=hg
  obtain ⟨its,rv,p,_⟩:=I.list hxs
  have hl:=rv.length
  have hT:s.TypeIs (.ref e) "enumerate" := ⟨_,s1,rfl⟩
  have fin:∀ h',Heap.ExtBut it s.heap h'->Inv X pins σ H { s with heap:=h' }:=fun h' kp=>by
   obtain ⟨f0,f1,f2,f3,f4,f5⟩:=hf it (by simp)
   exact I.turned (t':=s.toks) (fun b o hb z=>kp b o hb z) f0 f1 f3 f4 f5
  unfold pyNext
  refine wpAny_bind (wpAny_attempt (wpAny_callSpecial?_slot (name:=Str.ofString "__next__") hT F.slot_enumerate_next (wpAny_call_entry F.slot_enumerate_next hT F.entry_enumerate_next ?_ (F.args_enumerate_next_1 _))))
  show wpAny _ _ (field (.ref e) 2 >>= _) _ _ _
  refine wpAny_bind (wpAny_field s1 rfl (x:=.ref it) rfl ?_)
  refine wpAny_bind (wpAny_nextOf_list_end (I.ok.hd hc) s4 p.isList (by simp;lia) fun h' x he' hx'=>?_)
  obtain ⟨o,ho,hcx⟩:=hx'
  refine wpAny_bind (wpAny_isInstance (T:="StopIteration") (b:=true) ⟨o,ho,hcx⟩ isSubtype_stop (wpAny_pure ⟨rfl,fin h' he'⟩))
 self:=fun _ _ _ _ _ st h=>wpAny_pyIter_enum st.1.choose_spec h
section
variable {X:Cx}
def zf (K:PySem.W.Frag)(t:TA):TI:=fun σ H R=>t σ H fun vs H1=>∃ a xs,vs=[.ref a]/\SqL K H1 a xs/\R (Ite K a) H1
theorem pi_enum {es:List Expr}{k:Nat}{tp:Pos}{a:Expr}{ta:TA}{p pos:Pos}(hg:Gl X "enumerate")(hm:X.mg "enumerate" = none)(ha:PA X [a] ta)(hs:starEach [a] X.env=[(false,eval a X.env)]:=by rfl) :
  PI X (.Tuple es k tp) (.Call (.Name "enumerate" p) [a] [] pos) (zf X.K ta):=by
 intro pins s σ H R I h
 refine Call_ (gF I hg hm boot_enumerate (PyProof.Rows.callWith_type1 (thn (ha pos pins s σ H _ I h) fun us s1 ⟨vs,H1,I1,r1,q1⟩=>?_) hs rfl))
 obtain ⟨x,xs,e,hx,q⟩:=q1
 subst e
 obtain ⟨u,rfl,ru⟩:=vals1 r1
 cases ru
 obtain ⟨its,_,p1,_⟩:=I1.list hx
 refine oN p1.isList fun h' z1 z4 kp=>?_
 refine wpAny_pyIter_enum z1 ?_
 have lx:x < s1.heap.objs.size:=by obtain ⟨_,e,_⟩:=p1.isList;exact Heap.lt_size e
 refine ⟨_,_,_,_,H1,rfl,I1.kept (t':=s1.toks) kp,jO (e:=s1.heap.objs.size+1) (it:=s1.heap.objs.size) (a:=x) (Nat.succ_ne_self _) (Nat.ne_of_gt (Nat.lt_succ_of_lt lx)) (Nat.ne_of_lt lx),⟨⟨_,z1⟩,z4⟩,fun c hc=>?_,q⟩
 have hle:s1.heap.objs.size<=c:=by
  simp only [List.mem_cons,List.not_mem_nil,or_false] at hc
  rcases hc with q | q <;> subst q
  ·exact Nat.le_add_right _ 1
  ·exact zA3 _
 exact I1.fpOk hle (I1.hok.fresh hle)
end
end L2.EL

namespace L2
open PySem PySem.Spec PyProof.Rows PySem.Calls
section
variable {X:Cx}
theorem eQ (hc:X.calm=true):fj X (.builtin "sum") (fun xs H Q=>∃ (p:Addr) (ns:List Int),xs=[.ref p]/\(SqL X.K H p (ns.map V.int)\/SqT X.K H p (ns.map V.int))/\Q (.int ns.sum) H):=by
 intro pins s σ H xs us Q I r h
 obtain ⟨p,ns,rfl,hq,q⟩:=h
 obtain ⟨u,rfl,ru⟩:=vals1 r
 cases ru
 have go:∀ its:List Value,Vals (ns.map V.int) its->∃ zs:Array (Int×Tok),its.toArray=intItems zs/\preSum (numAt zs) zs.size=ns.sum:=fun its rv=>by
  have hi:IntsAre its ns:=intsAre_of rv
  obtain ⟨zs,ez⟩:=(hi.allInts:AllInts its.toArray).items
  refine ⟨zs,ez,?_⟩
  have en:numsOf its.toArray.toList=ns:=hi.numsOf
  rw [ez,nums_intItems] at en
  rw [preSum_eq,List.take_of_length_le (by simp),en]
 rcases hq with hq | hq
 ·obtain ⟨its,rv,pl,hz⟩:=I.list hq
  obtain ⟨zs,ez,es⟩:=go its rv
  refine sum_intListG (I.ok.hd hc) (ez ▸ pl.isList) fun h' tk t' hk=>?_
  rw [es]
  exact ⟨.int _,H,I.kept (t':=tk) hk,⟨t',rfl⟩,q⟩
 ·obtain ⟨its,rv,pl,hz⟩:=I.tuple hq
  obtain ⟨zs,ez,es⟩:=go its rv
  have ht:s.heap.IsTuple p its.toArray:=pl
  refine PySem.W.ktm_sumG (I.ok.hd hc) (ez ▸ ht) fun h' tk t' hk=>?_
  rw [es]
  exact ⟨.int _,H,I.kept (t':=tk) hk,⟨t',rfl⟩,q⟩
end
section
open PySem.W
variable {prog:Program}{w:World}{A:Around}{E:Value->Shared->Prop}{s:Shared}
end
section
variable {X:Cx}
end
end L2


namespace Srt
open PySem PyProof.Rows
def fu:Bool->Keyed->Array Keyed->Nat->Nat->Nat->StateT SortSt Sem (Option Nat):=sortPriv% PySem.Builtin.gallop
section
variable {prog:Program}{w:World}{A:Around}{E:Value->Shared->Prop}{s:Shared}{κ:PyProof.Rows.KeyKind}
def Gv (prog:Program)(w:World)(A:Around)(E:Value->Shared->Prop)(s:Shared)(κ:PyProof.Rows.KeyKind)(st:SortSt):Prop :=
 ∀ (x y:Keyed) (a b:κ.α) (Q:Option Bool->SortSt->Prop),κ.keyOf x.1=some a->κ.keyOf y.1=some b->Q (some (κ.blt a b)) st->wpS (model prog w) A E s (lt' x y) Q st
theorem bz {arr:Array Keyed}{i:Nat}{p:Keyed}{Q:Keyed->SortSt->Prop}{st:SortSt}(e:arr[i]?=some p)(h:Q p st):wpS (model prog w) A E s (elem' arr i) Q st:=by
 rw [elem'_eq,e]
 exact wpS_pure h
def bey (κ:PyProof.Rows.KeyKind)(left:Bool)(k:κ.α)(x:κ.α):Bool:=if left then κ.blt x k else !(κ.blt k x)
theorem dH {left:Bool}{key:Keyed}{arr:Array Keyed}{b n h:Nat}{Q:Option Nat->SortSt->Prop}{st:SortSt}{kk:κ.α}(hL:Gv prog w A E s κ st)(hk:κ.keyOf key.1=some kk)(hn:h < n)
  (hin:∀ i,i < n->∃ p a,arr[b+i]?=some p/\κ.keyOf p.1=some a/\KK κ arr (b+i)=a) (hm:∀ i j,i<=j->j < n->bey κ left kk (KK κ arr (b+j))=true->bey κ left kk (KK κ arr (b+i))=true)
  (q:∀ k,k<=n->(∀ i,i < k->bey κ left kk (KK κ arr (b+i))=true)->(∀ i,k<=i->i < n->bey κ left kk (KK κ arr (b+i))=false)->Q (some k) st) :
  wpS (model prog w) A E s (fu left key arr b n h) Q st:=by
 have hbey:∀ (i:Nat) (R:Option Bool->SortSt->Prop),i < n->R (some (bey κ left kk (KK κ arr (b+i)))) st->wpS (model prog w) A E s (do
   let x <- elem' arr (b+i)
   if left=true then lt' x key else do
    let r <- lt' key x
    pure (Option.map (fun x=>!x) r)) R st:=fun i R hi hR=>by
  obtain ⟨p,a,e1,e2,e3⟩:=hin i hi
  refine wpS_bind (bz e1 ?_)
  unfold bey at hR
  rw [e3] at hR
  cases left with
  | true =>
   rw [if_pos rfl]
   exact hL _ _ _ _ _ e2 hk hR
  | false =>
   rw [if_neg (by decide)]
   exact wpS_bind (hL _ _ _ _ _ hk e2 (wpS_pure hR))
 generalize hβ:(fun i=>bey κ left kk (KK κ arr (b+i)))=β
 have hβi:∀ i,bey κ left kk (KK κ arr (b+i))=β i:=fun i=>by rw [<- hβ]
 simp only [hβi] at hbey hm q
 delta fu
 refine wpS_bind (hbey h _ hn ?_)
 cases e0:β h with
 | true =>
  dsimp only
  rw [if_pos rfl]
  refine wpS_bind (wpS_mono (wpS_forRange (I:=fun x c st'=>st'=st/\c.1=none/\c.2.1 < c.2.2/\c.2.1 < n - h/\x < c.2.2/\β (h+c.2.1)=true)
   (Q:=fun c st'=>st'=st/\c.1=none/\c.2.1 < c.2.2/\c.2.1 < n - h/\β (h+c.2.1)=true/\(c.2.2 ≥ n - h\/(c.2.2 < n - h/\β (h+c.2.2)=false))) ?_ ?_ ⟨rfl,rfl,(by show 0 < 1;decide),(by show 0 < n - h;lia),(by show 0 < 1;decide),(show β (h+0)=true from e0)⟩) ?_)
  ·rintro x ⟨c0,l,o⟩ st' _ hx ⟨rfl,rfl,g1,g2,g3,g4⟩
   dsimp only at g1 g2 g3 g4 ⊢
   by_cases ho:o ≥ n - h
   ·rw [if_pos ho]
    exact wpS_pure ⟨rfl,rfl,g1,g2,g4,.inl ho⟩
   ·rw [if_neg ho]
    refine wpS_bind (hbey (h+o) _ (by lia) ?_)
    cases eb:β (h+o) with
    | true =>
     dsimp only
     rw [if_neg (by decide)]
     exact wpS_pure ⟨rfl,rfl,by dsimp only;lia,by dsimp only;lia,by dsimp only;lia,eb⟩
    | false =>
     dsimp only
     rw [if_pos (by decide)]
     exact wpS_pure ⟨rfl,rfl,g1,g2,g4,.inr ⟨by dsimp only;lia,eb⟩⟩
  ·rintro ⟨c0,l,o⟩ st' ⟨rfl,rfl,g1,g2,g3,g4⟩
   dsimp only at g1 g2 g3 g4 ⊢
   exact ⟨rfl,rfl,g1,g2,g4,.inl (by lia)⟩
  ·rintro ⟨c0,l,o⟩ st' ⟨rfl,rfl,g1,g2,g4,g5⟩
   dsimp only at g1 g2 g4 g5 ⊢
   have w4:∀ i,h+min o (n - h)<=i->i < n->β i=false:=fun i hi hin'=>by
    rcases g5 with g5 | ⟨g5,g6⟩
    ·lia
    ·cases e2:β i with
     | false=>rfl
     | true =>
      have:=hm (h+o) i (by lia) hin' e2
      rw [g6] at this
      cases this
   obtain ⟨lo,hlo⟩:∃ lo,lo=h+l+1:=⟨_,rfl⟩
   obtain ⟨hi,hhi⟩:∃ hi,hi=h+min o (n - h):=⟨_,rfl⟩
   have w1:lo<=hi:=by lia
   have w2:hi<=n:=by lia
   have w3:∀ i,i < lo->β i=true:=fun i hi=>hm i (h+l) (by lia) (by lia) g4
   have w4:∀ i,hi<=i->i < n->β i=false:=by rw [hhi];exact w4
   rw [<- hlo,<- hhi]
   refine wpS_bind (wpS_mono (wpS_forRange (I:=fun x c st''=>st''=st'/\c.1=none/\c.2.1<=c.2.2/\c.2.2<=n/\c.2.2 - c.2.1<=n - x/\(∀ i,i < c.2.1->β i=true)/\(∀ i,c.2.2<=i->i < n->β i=false))
    (Q:=fun c st''=>st''=st'/\c.1=none/\c.2.2<=n/\(∀ i,i < c.2.2->β i=true)/\(∀ i,c.2.2<=i->i < n->β i=false)) ?_ ?_ ⟨rfl,rfl,w1,w2,(by show hi - lo<=n - 0;lia),w3,w4⟩) ?_)
   ·rintro x ⟨c0,l,r⟩ st'' _ hx ⟨rfl,rfl,g1,g2,g3,g4,g5⟩
    dsimp only at g1 g2 g3 g4 g5 ⊢
    by_cases hlr:l ≥ r
    ·rw [if_pos hlr]
     have e:l=r:=by lia
     exact wpS_pure ⟨rfl,rfl,g2,by rw [<- e];exact g4,g5⟩
    ·rw [if_neg hlr]
     refine wpS_bind (hbey (l+(r - l) / 2) _ (by lia) ?_)
     cases eb:β (l+(r - l) / 2) with
     | true =>
      dsimp only
      rw [if_pos rfl]
      exact wpS_pure ⟨rfl,rfl,by dsimp only;lia,g2,by dsimp only;lia,fun i hi=>hm i _ (by dsimp only at hi;lia) (by lia) eb,g5⟩
     | false =>
      dsimp only
      rw [if_neg (by decide)]
      refine wpS_pure ⟨rfl,rfl,by dsimp only;lia,by dsimp only;lia,by dsimp only;lia,g4,fun i hi hin'=>?_⟩
      cases e2:β i with
      | false=>rfl
      | true =>
       have:=hm (l+(r - l) / 2) i hi hin' e2
       rw [eb] at this
       cases this
   ·rintro ⟨c0,l,r⟩ st'' ⟨rfl,rfl,g1,g2,g3,g4,g5⟩
    dsimp only at g1 g2 g3 g4 g5 ⊢
    have e:l=r:=by lia
    exact ⟨rfl,rfl,g2,by rw [<- e];exact g4,g5⟩
   ·rintro ⟨c0,l,r⟩ st'' ⟨rfl,rfl,g1,g2,g3⟩
    exact wpS_pure (q _ g1 g2 g3)
 | false =>
  dsimp only
  rw [if_neg (by decide)]
  refine wpS_bind (wpS_mono (wpS_forRange (I:=fun x c st'=>st'=st/\c.1=none/\c.2.1 < c.2.2/\c.2.1 < h+1/\x < c.2.2/\β (h - c.2.1)=false)
   (Q:=fun c st'=>st'=st/\c.1=none/\c.2.1 < c.2.2/\c.2.1 < h+1/\β (h - c.2.1)=false/\(c.2.2 ≥ h+1\/(c.2.2 < h+1/\β (h - c.2.2)=true))) ?_ ?_ ⟨rfl,rfl,(by show 0 < 1;decide),(by show 0 < h+1;lia),(by show 0 < 1;decide),(show β (h - 0)=false from e0)⟩) ?_)
  ·rintro x ⟨c0,l,o⟩ st' _ hx ⟨rfl,rfl,g1,g2,g3,g4⟩
   dsimp only at g1 g2 g3 g4 ⊢
   by_cases ho:o ≥ h+1
   ·rw [if_pos ho]
    exact wpS_pure ⟨rfl,rfl,g1,g2,g4,.inl ho⟩
   ·rw [if_neg ho]
    refine wpS_bind (hbey (h - o) _ (by lia) ?_)
    cases eb:β (h - o) with
    | false =>
     dsimp only
     rw [if_neg (by decide)]
     exact wpS_pure ⟨rfl,rfl,by dsimp only;lia,by dsimp only;lia,by dsimp only;lia,eb⟩
    | true =>
     dsimp only
     rw [if_pos rfl]
     exact wpS_pure ⟨rfl,rfl,g1,g2,g4,.inr ⟨by dsimp only;lia,eb⟩⟩
  ·rintro ⟨c0,l,o⟩ st' ⟨rfl,rfl,g1,g2,g3,g4⟩
   dsimp only at g1 g2 g3 g4 ⊢
   exact ⟨rfl,rfl,g1,g2,g4,.inl (by lia)⟩
  ·rintro ⟨c0,l,o⟩ st' ⟨rfl,rfl,g1,g2,g4,g5⟩
   dsimp only at g1 g2 g4 g5 ⊢
   have w3:∀ i,i < h+1 - min o (h+1)->β i=true:=fun i hi=>by
    rcases g5 with g5 | ⟨g5,g6⟩
    ·lia
    ·exact hm i (h - o) (by lia) (by lia) g6
   have w4:∀ i,h - l<=i->i < n->β i=false:=fun i hi hin'=>by
    cases e2:β i with
    | false=>rfl
    | true =>
     have:=hm (h - l) i hi hin' e2
     rw [g4] at this
     cases this
   obtain ⟨lo,hlo⟩:∃ lo,lo=h+1 - min o (h+1):=⟨_,rfl⟩
   obtain ⟨hi,hhi⟩:∃ hi,hi=h - l:=⟨_,rfl⟩
   have w1:lo<=hi:=by lia
   have w2:hi<=n:=by lia
   have w3:∀ i,i < lo->β i=true:=by rw [hlo];exact w3
   have w4:∀ i,hi<=i->i < n->β i=false:=by rw [hhi];exact w4
   rw [<- hlo,<- hhi]
   refine wpS_bind (wpS_mono (wpS_forRange (I:=fun x c st''=>st''=st'/\c.1=none/\c.2.1<=c.2.2/\c.2.2<=n/\c.2.2 - c.2.1<=n - x/\(∀ i,i < c.2.1->β i=true)/\(∀ i,c.2.2<=i->i < n->β i=false))
    (Q:=fun c st''=>st''=st'/\c.1=none/\c.2.2<=n/\(∀ i,i < c.2.2->β i=true)/\(∀ i,c.2.2<=i->i < n->β i=false)) ?_ ?_ ⟨rfl,rfl,w1,w2,(by show hi - lo<=n - 0;lia),w3,w4⟩) ?_)
   ·rintro x ⟨c0,l,r⟩ st'' _ hx ⟨rfl,rfl,g1,g2,g3,g4,g5⟩
    dsimp only at g1 g2 g3 g4 g5 ⊢
    by_cases hlr:l ≥ r
    ·rw [if_pos hlr]
     have e:l=r:=by lia
     exact wpS_pure ⟨rfl,rfl,g2,by rw [<- e];exact g4,g5⟩
    ·rw [if_neg hlr]
     refine wpS_bind (hbey (l+(r - l) / 2) _ (by lia) ?_)
     cases eb:β (l+(r - l) / 2) with
     | true =>
      dsimp only
      rw [if_pos rfl]
      exact wpS_pure ⟨rfl,rfl,by dsimp only;lia,g2,by dsimp only;lia,fun i hi=>hm i _ (by dsimp only at hi;lia) (by lia) eb,g5⟩
     | false =>
      dsimp only
      rw [if_neg (by decide)]
      refine wpS_pure ⟨rfl,rfl,by dsimp only;lia,by dsimp only;lia,by dsimp only;lia,g4,fun i hi hin'=>?_⟩
      cases e2:β i with
      | false=>rfl
      | true =>
       have:=hm (l+(r - l) / 2) i hi hin' e2
       rw [eb] at this
       cases this
   ·rintro ⟨c0,l,r⟩ st'' ⟨rfl,rfl,g1,g2,g3,g4,g5⟩
    dsimp only at g1 g2 g3 g4 g5 ⊢
    have e:l=r:=by lia
    exact ⟨rfl,rfl,g2,by rw [<- e];exact g4,g5⟩
   ·rintro ⟨c0,l,r⟩ st'' ⟨rfl,rfl,g1,g2,g3⟩
    exact wpS_pure (q _ g1 g2 g3)
end
end Srt

namespace Srt
open PySem PyProof.Rows
abbrev Sm:=StateT SortSt Sem
def xP (lo a m:Nat):Sm AscSt :=
 forIn [a:m] ((none,a):AscSt) fun _ c=>do
  let x <- ltAt' (lo+c.snd) (lo+c.snd - 1)
  match x with
  | some b=>if b=true then pure (ForInStep.done (none,c.snd)) else pure (ForInStep.yield (none,c.snd+1))
  | _=>pure (ForInStep.done (some none,c.snd))
def pM (lo n m:Nat):Sm (Option Nat):=do
 reverseSlice' lo (lo+n)
 let c <- xP lo n m
 match c.fst with
 | some r=>pure r
 | none=>pure (some c.snd)
def vV (lo n m:Nat):Sm DescSt :=
 forIn [n:m] ((none,n,0):DescSt) fun _ c=>do
  let x <- ltAt' (lo+c.snd.fst) (lo+c.snd.fst - 1)
  match x with
  | some b =>
   if b=true then
    if c.snd.snd > 0 then do
     reverseSlice' (lo+c.snd.fst - (c.snd.snd+1)) (lo+c.snd.fst)
     pure (ForInStep.yield (none,c.snd.fst+1,0))
    else pure (ForInStep.yield (none,c.snd.fst+1,0))
   else do
    let y <- ltAt' (lo+c.snd.fst - 1) (lo+c.snd.fst)
    match y with
    | some d =>
     if d=true then pure (ForInStep.done (none,c.snd.fst,c.snd.snd))
     else pure (ForInStep.yield (none,c.snd.fst+1,c.snd.snd+1))
    | _=>pure (ForInStep.done (some none,c.snd.fst,c.snd.snd))
  | _=>pure (ForInStep.done (some none,c.snd.fst,c.snd.snd))
def pN (lo n m:Nat):Sm (Option Nat):=do
 liftM (rule "list.sort.descending-run")
 let c <- vV lo (n+1) m
 match c.fst with
 | some r=>pure r
 | none =>
  if c.snd.snd > 0 then do
   reverseSlice' (lo+c.snd.fst - (c.snd.snd+1)) (lo+c.snd.fst)
   pM lo c.snd.fst m
  else pM lo c.snd.fst m
theorem bc {α β:Type}{m m':Sm α}{f f':α->Sm β}(h:m=m')(h':f=f'):(m >>= f)=(m' >>= f'):=by rw [h,h']
theorem xQ (lo m:Nat):countRun' lo m=(do
  let c <- xP lo 1 m
  match c.fst with
  | some r=>pure r
  | none =>
   if (c.snd == m)=true then pure (some c.snd)
   else if c.snd > 1 then do
    let x <- ltAt' lo (lo+c.snd - 1)
    match x with
    | some b=>if b=true then pure (some c.snd) else do
      reverseSlice' lo (lo+c.snd)
      pN lo c.snd m
    | _=>pure none
   else pN lo c.snd m):=by
 rw [countRun'_eq]
 have tl:∀ n:Nat,((do
   reverseSlice' lo (lo+n)
   let mut n:=n
   for _ in [n:m] do
    let some smaller <- ltAt' (lo+n) (lo+n - 1) | return none
    if smaller then break
    n:=n+1
   return some n):Sm (Option Nat))=pM lo n m:=fun n=>by
  unfold pM xP
  refine bc rfl (funext fun u=>bc rfl (funext fun c=>?_))
  obtain ⟨r,n⟩:=c
  cases r <;> rfl
 have pl:∀ n:Nat,((do
   rule "list.sort.descending-run"
   let mut n:=n+1
   let mut neq:=0
   for _ in [n:m] do
    let some smaller <- ltAt' (lo+n) (lo+n - 1) | return none
    if smaller then
     if neq > 0 then reverseSlice' (lo+n - (neq+1)) (lo+n)
     neq:=0
    else
     let some larger <- ltAt' (lo+n - 1) (lo+n) | return none
     if larger then break
     neq:=neq+1
    n:=n+1
   if neq > 0 then reverseSlice' (lo+n - (neq+1)) (lo+n)
   reverseSlice' lo (lo+n)
   for _ in [n:m] do
    let some smaller <- ltAt' (lo+n) (lo+n - 1) | return none
    if smaller then break
    n:=n+1
   return some n):Sm (Option Nat))=pN lo n m:=fun n=>by
  unfold pN vV
  refine bc rfl (funext fun u=>bc rfl (funext fun c=>?_))
  obtain ⟨r,n2,q2⟩:=c
  cases r with
  | some r=>rfl
  | none =>
   dsimp only
   split
   ·exact bc rfl (funext fun u=>tl n2)
   ·exact tl n2
 unfold xP
 refine bc rfl (funext fun c=>?_)
 obtain ⟨r,n⟩:=c
 cases r with
 | some r=>rfl
 | none =>
  dsimp only
  split
  ·rfl
  ·split
   ·refine bc rfl (funext fun x=>?_)
    cases x with
    | none=>rfl
    | some b =>
     dsimp only
     split
     ·rfl
     ·exact bc rfl (funext fun u=>pl n)
   ·exact pl n
structure SB (ks:SortKind)(a₀:Array Keyed)(st:SortSt):Prop where
 kind:kindOf st=ks
 ok:failedOf st=none
 pm:(arrOf st).Perm a₀
def Seg (κ:PyProof.Rows.KeyKind)(xs:Array Keyed)(a b:Nat):Prop:=∀ i j,a<=i->i<=j->j < b->κ.kle (KK κ xs i) (KK κ xs j)
def Non (κ:PyProof.Rows.KeyKind)(xs:Array Keyed)(a b:Nat):Prop:=∀ i j,a<=i->i<=j->j < b->κ.kle (KK κ xs j) (KK κ xs i)
structure Out (st st':SortSt)(a b:Nat):Prop where
 out:∀ k,(k < a\/b<=k)->(arrOf st')[k]?=(arrOf st)[k]?
 pend:pendingOf st'=pendingOf st
theorem Out.refl (st:SortSt)(a b:Nat):Out st st a b:=⟨fun _ _=>rfl,rfl⟩
theorem Out.trans {st st1 st2:SortSt}{a b:Nat}(h:Out st st1 a b)(h':Out st1 st2 a b):Out st st2 a b:=⟨fun k hk=>(h'.out k hk).trans (h.out k hk),h'.pend.trans h.pend⟩
section
variable {prog:Program}{w:World}{A:Around}{E:Value->Shared->Prop}{s:Shared}{κ:PyProof.Rows.KeyKind}{ks:SortKind}{a₀:Array Keyed}
def LtAll (prog:Program)(w:World)(A:Around)(E:Value->Shared->Prop)(s:Shared)(κ:PyProof.Rows.KeyKind)(ks:SortKind):Prop:=∀ st,kindOf st=ks->Gv prog w A E s κ st
theorem SB.size {st:SortSt}(B:SB ks a₀ st):(arrOf st).size=a₀.size:=B.pm.size_eq
theorem SB.item {st:SortSt}(B:SB ks a₀ st)(h0:KeysOf κ a₀){i:Nat}(hi:i < a₀.size):∃ p a,(arrOf st)[i]?=some p/\κ.keyOf p.1=some a/\KK κ (arrOf st) i=a:=by
 have hi':i < (arrOf st).size:=by rw [B.size];exact hi
 have e:(arrOf st)[i]?=some (arrOf st)[i]:=Array.getElem?_eq_getElem hi'
 have hm:(arrOf st)[i]∈a₀.toList:=(Array.perm_iff_toList_perm.mp B.pm).mem_iff.mp (Array.mem_toList_iff.mpr (Array.getElem_mem hi'))
 obtain ⟨a,ha⟩:=h0 _ hm
 refine ⟨_,a,e,ha,?_⟩
 unfold KK
 rw [e]
 dsimp only
 rw [ha]
 rfl
theorem SB.arr {st:SortSt}(B:SB ks a₀ st){xs:Array Keyed}(h:xs.Perm (arrOf st)):SB ks a₀ (setArr st xs):=⟨B.kind,B.ok,h.trans B.pm⟩
theorem ltA (hL:LtAll prog w A E s κ ks){st:SortSt}{i j:Nat}{Q:Option Bool->SortSt->Prop}(B:SB ks a₀ st)(h0:KeysOf κ a₀)(hi:i < a₀.size)(hj:j < a₀.size)(h:Q (some (κ.blt (KK κ (arrOf st) i) (KK κ (arrOf st) j))) st) :
  wpS (model prog w) A E s (ltAt' i j) Q st:=by
 obtain ⟨p,a,e1,ka,ea⟩:=B.item (κ:=κ) h0 hi
 obtain ⟨q,b,e2,kb,eb⟩:=B.item (κ:=κ) h0 hj
 rw [ea,eb] at h
 rw [ltAt'_eq]
 refine wpS_bind (wpS_get (wpS_bind (bz e1 (wpS_bind (bz e2 ?_)))))
 exact hL st B.kind p q a b Q ka kb h
theorem qT {st:SortSt}{i j:Nat}{Q:Unit->SortSt->Prop}(h:Q () (setArr st (mirror (arrOf st) i j ((j - i) / 2)))):wpS (model prog w) A E s (reverseSlice' i j) Q st:=wpS_reverse h
theorem Out.rev {st:SortSt}{i j a b:Nat}(hj:j<=(arrOf st).size)(h1:a<=i)(h2:j<=b):Out st (setArr st (mirror (arrOf st) i j ((j - i) / 2))) a b:=by
 refine ⟨fun k hk=>?_,rfl⟩
 show (mirror (arrOf st) i j ((j - i) / 2))[k]?=_
 rw [getElem?_mirror_all hj,if_neg (by lia)]
theorem vW (hL:LtAll prog w A E s κ ks)(h0:KeysOf κ a₀){st:SortSt}{lo a m:Nat}{Q:AscSt->SortSt->Prop}(hn:lo+m<=a₀.size)(ha:1<=a)(ham:a<=m)(B:SB ks a₀ st)(hs:Seg κ (arrOf st) lo (lo+a))
  (h:∀ n,a<=n->n<=m->Seg κ (arrOf st) lo (lo+n)->(n=m\/κ.klt (KK κ (arrOf st) (lo+n)) (KK κ (arrOf st) (lo+n - 1)))->Q (none,n) st):wpS (model prog w) A E s (xP lo a m) Q st:=by
 unfold xP
 refine wpS_forRange (I:=fun x c st'=>st'=st/\c=(none,x)/\Seg κ (arrOf st) lo (lo+x)) ?_ ?_ ⟨rfl,rfl,hs⟩
 ·rintro x c st' hax hxm ⟨rfl,rfl,hs'⟩
  dsimp only
  refine wpS_bind (ltA hL B h0 (by lia) (by lia) ?_)
  cases e:κ.blt (KK κ (arrOf st') (lo+x)) (KK κ (arrOf st') (lo+x - 1)) with
  | true =>
   dsimp only
   rw [if_pos rfl]
   exact wpS_pure (h x hax (by lia) hs' (.inr e))
  | false =>
   dsimp only
   rw [if_neg (by decide)]
   refine wpS_pure ⟨rfl,rfl,fun i j hi hij hj=>?_⟩
   by_cases hjx:j < lo+x
   ·exact hs' i j hi hij hjx
   ·have ej:j=lo+x:=by lia
    subst ej
    by_cases ei:i=lo+x
    ·rw [ei]
     exact KeyOrd.kle_refl _
    ·exact KeyOrd.kle_trans (hs' i (lo+x - 1) hi (by lia) (by lia)) e
 ·rintro c st' ⟨rfl,rfl,hs'⟩
  rw [show max a m=m by lia] at hs' ⊢
  exact h m ham (zA3 _) hs' (.inl rfl)
theorem sY (hL:LtAll prog w A E s κ ks)(h0:KeysOf κ a₀){st:SortSt}{lo n m:Nat}{Q:Option Nat->SortSt->Prop}(hn:lo+m<=a₀.size)(h1:1<=n)(hnm:n<=m)(B:SB ks a₀ st)(hs:Non κ (arrOf st) lo (lo+n))
  (h:∀ k st',SB ks a₀ st'->Out st st' lo (lo+m)->1<=k->k<=m->Seg κ (arrOf st') lo (lo+k)->Q (some k) st'):wpS (model prog w) A E s (pM lo n m) Q st:=by
 unfold pM
 have hsz:lo+n<=(arrOf st).size:=by rw [B.size];lia
 refine wpS_bind (qT ?_)
 have B':=B.arr (mirror_perm (arrOf st) lo (lo+n) ((lo+n - lo) / 2))
 refine wpS_bind (vW hL h0 hn h1 hnm B' ?_ fun k hk1 hk2 hsk _=>wpS_pure (h k _ B' (Out.rev hsz (zA3 _) (by lia)) (by lia) hk2 hsk))
 intro i j hi hij hj
 show κ.kle (KK κ (mirror (arrOf st) lo (lo+n) ((lo+n - lo) / 2)) i) (KK κ (mirror (arrOf st) lo (lo+n) ((lo+n - lo) / 2)) j)
 rw [KK_mirror hsz,KK_mirror hsz,if_pos (by lia),if_pos (by lia)]
 exact hs _ _ (by lia) (by lia) (by lia)
theorem zy (hL:LtAll prog w A E s κ ks)(h0:KeysOf κ a₀){st:SortSt}{lo n m:Nat}{Q:DescSt->SortSt->Prop}(hn:lo+m<=a₀.size)(h1:1<=n)(hnm:n<=m)(B:SB ks a₀ st)(hs:Non κ (arrOf st) lo (lo+n))
  (h:∀ k q st',SB ks a₀ st'->Out st st' lo (lo+m)->n<=k->k<=m->Non κ (arrOf st') lo (lo+k)->q+1<=k->(∀ i,lo+k - (q+1)<=i->i < lo+k->KK κ (arrOf st') i=KK κ (arrOf st') (lo+k - 1))->Q (none,k,q) st') :
  wpS (model prog w) A E s (vV lo n m) Q st:=by
 unfold vV
 refine wpS_forRange (I:=fun x c st'=>∃ q,c=(none,x,q)/\SB ks a₀ st'/\Out st st' lo (lo+m)/\Non κ (arrOf st') lo (lo+x)/\q+1<=x/\(∀ i,lo+x - (q+1)<=i->i < lo+x->KK κ (arrOf st') i=KK κ (arrOf st') (lo+x - 1))) ?_ ?_
  ⟨0,rfl,B,Out.refl _ _ _,hs,by lia,fun i z1 z2=>by congr 1;lia⟩
 ·rintro x c st' hax hxm ⟨q,rfl,B',O',hs',hq,he⟩
  dsimp only
  have hsz:lo+x<=(arrOf st').size:=by rw [B'.size];lia
  refine wpS_bind (ltA hL B' h0 (by lia) (by lia) ?_)
  cases e:κ.blt (KK κ (arrOf st') (lo+x)) (KK κ (arrOf st') (lo+x - 1)) with
  | true =>
   dsimp only
   rw [if_pos rfl]
   have more:∀ xs:Array Keyed,(∀ k,KK κ xs k=KK κ (arrOf st') k)->Non κ xs lo (lo+(x+1)):=fun xs hk i j hi hij hj=>by
    rw [hk,hk]
    by_cases hjx:j < lo+x
    ·exact hs' i j hi hij hjx
    ·have ej:j=lo+x:=by lia
     subst ej
     by_cases ei:i=lo+x
     ·rw [ei]
      exact KeyOrd.kle_refl _
     ·exact KeyOrd.kle_trans (KeyOrd.kle_of_klt e) (hs' i (lo+x - 1) hi (by lia) (by lia))
   by_cases hq0:q > 0
   ·rw [if_pos hq0]
    refine wpS_bind (qT (wpS_pure ⟨0,rfl,B'.arr (mirror_perm _ _ _ _),O'.trans (Out.rev hsz (by lia) (by lia)),more _ (KK_mirror_equal hsz he),by lia,fun i z1 z2=>by congr 1;lia⟩))
   ·rw [if_neg hq0]
    exact wpS_pure ⟨0,rfl,B',O',more _ (fun _=>rfl),by lia,fun i z1 z2=>by congr 1;lia⟩
  | false =>
   dsimp only
   rw [if_neg (by decide)]
   refine wpS_bind (ltA hL B' h0 (by lia) (by lia) ?_)
   cases e2:κ.blt (KK κ (arrOf st') (lo+x - 1)) (KK κ (arrOf st') (lo+x)) with
   | true =>
    dsimp only
    rw [if_pos rfl]
    exact wpS_pure (h x q st' B' O' hax (by lia) hs' hq he)
   | false =>
    dsimp only
    rw [if_neg (by decide)]
    have ex:KK κ (arrOf st') (lo+x)=KK κ (arrOf st') (lo+x - 1):=KeyOrd.kle_antisymm e2 e
    refine wpS_pure ⟨q+1,rfl,B',O',fun i j hi hij hj=>?_,by lia,fun i z1 z2=>?_⟩
    ·by_cases hjx:j < lo+x
     ·exact hs' i j hi hij hjx
     ·have ej:j=lo+x:=by lia
      subst ej
      by_cases ei:i=lo+x
      ·rw [ei]
       exact KeyOrd.kle_refl _
      ·rw [ex]
       exact hs' i (lo+x - 1) hi (by lia) (by lia)
    ·rw [show lo+(x+1) - 1=lo+x by lia]
     by_cases ei:i=lo+x
     ·rw [ei]
     ·rw [ex]
      exact he i (by lia) (by lia)
 ·rintro c st' ⟨q,rfl,B',O',hs',hq,he⟩
  rw [show max n m=m by lia] at hs' hq he ⊢
  exact h m q st' B' O' hnm (zA3 _) hs' hq he
theorem sZ (hL:LtAll prog w A E s κ ks)(h0:KeysOf κ a₀){st:SortSt}{lo n m:Nat}{Q:Option Nat->SortSt->Prop}(hn:lo+m<=a₀.size)(hnm:n+1<=m)(B:SB ks a₀ st)(hs:Non κ (arrOf st) lo (lo+(n+1)))
  (h:∀ k st',SB ks a₀ st'->Out st st' lo (lo+m)->1<=k->k<=m->Seg κ (arrOf st') lo (lo+k)->Q (some k) st'):wpS (model prog w) A E s (pN lo n m) Q st:=by
 unfold pN
 refine wpS_bind (wpS_lift (wpAny_rule ⟨rfl,?_⟩))
 refine wpS_bind (zy hL h0 hn (by lia) hnm B hs fun k q st' B' O' k1 k2 hs' hq he=>?_)
 dsimp only
 have hsz:lo+k<=(arrOf st').size:=by rw [B'.size];lia
 by_cases hq0:q > 0
 ·rw [if_pos hq0]
  refine wpS_bind (qT (sY hL h0 hn (by lia) k2 (B'.arr (mirror_perm _ _ _ _)) ?_ fun k' st2 B2 O2=>h k' st2 B2 ((O'.trans (Out.rev hsz (by lia) (by lia))).trans O2)))
  intro i j hi hij hj
  show κ.kle (KK κ (mirror (arrOf st') _ _ _) j) (KK κ (mirror (arrOf st') _ _ _) i)
  rw [KK_mirror_equal hsz he,KK_mirror_equal hsz he]
  exact hs' i j hi hij hj
 ·rw [if_neg hq0]
  exact sY hL h0 hn (by lia) k2 B' hs' fun k' st2 B2 O2=>h k' st2 B2 (O'.trans O2)
theorem zz (hL:LtAll prog w A E s κ ks)(h0:KeysOf κ a₀){st:SortSt}{lo m:Nat}{Q:Option Nat->SortSt->Prop}(hn:lo+m<=a₀.size)(h1:1<=m)(B:SB ks a₀ st)
  (h:∀ k st',SB ks a₀ st'->Out st st' lo (lo+m)->1<=k->k<=m->Seg κ (arrOf st') lo (lo+k)->Q (some k) st'):wpS (model prog w) A E s (countRun' lo m) Q st:=by
 rw [xQ]
 refine wpS_bind (vW hL h0 hn (zA3 1) h1 B (fun i j hi hij hj=>by have:i=j:=(by lia);rw [this];exact KeyOrd.kle_refl _) fun n n1 n2 hsn hor=>?_)
 dsimp only
 by_cases hnm:n=m
 ·rw [if_pos (by simpa using hnm)]
  exact wpS_pure (h n st B (Out.refl _ _ _) n1 n2 hsn)
 ·rw [if_neg (by simpa using hnm)]
  have hlt:=hor.resolve_left hnm
  by_cases hgt:n > 1
  ·rw [if_pos hgt]
   refine wpS_bind (ltA hL B h0 (by lia) (by lia) ?_)
   cases e:κ.blt (KK κ (arrOf st) lo) (KK κ (arrOf st) (lo+n - 1)) with
   | true =>
    dsimp only
    rw [if_pos rfl]
    exact wpS_pure (h n st B (Out.refl _ _ _) n1 n2 hsn)
   | false =>
    dsimp only
    rw [if_neg (by decide)]
    have hsz:lo+n<=(arrOf st).size:=by rw [B.size];lia
    have hall:∀ k,lo<=k->k < lo+n->KK κ (arrOf st) k=KK κ (arrOf st) (lo+n - 1):=fun k hk0 hk=>by
     have a1:=hsn lo k (zA3 _) hk0 hk
     have a2:=hsn k (lo+n - 1) hk0 (by lia) (by lia)
     exact KeyOrd.kle_antisymm a2 (KeyOrd.kle_trans e a1)
    refine wpS_bind (qT (sZ hL h0 hn (by lia) (B.arr (mirror_perm _ _ _ _)) ?_ fun k st2 B2 O2=>h k st2 B2 ((Out.rev hsz (zA3 _) (by lia)).trans O2)))
    intro i j hi hij hj
    show κ.kle (KK κ (mirror (arrOf st) _ _ _) j) (KK κ (mirror (arrOf st) _ _ _) i)
    rw [KK_mirror_equal hsz hall,KK_mirror_equal hsz hall]
    by_cases hjn:j < lo+n
    ·rw [hall i hi (by lia),hall j (by lia) hjn]
     exact KeyOrd.kle_refl _
    ·have ej:j=lo+n:=by lia
     subst ej
     by_cases ei:i=lo+n
     ·rw [ei]
      exact KeyOrd.kle_refl _
     ·rw [hall i hi (by lia)]
      exact KeyOrd.kle_of_klt hlt
  ·rw [if_neg hgt]
   have e1:n=1:=by lia
   subst e1
   refine sZ hL h0 hn (by lia) B ?_ h
   intro i j hi hij hj
   by_cases ei:i=j
   ·rw [ei]
    exact KeyOrd.kle_refl _
   ·have i0:i=lo:=by lia
    have j1:j=lo+1:=by lia
    rw [i0,j1]
    exact KeyOrd.kle_of_klt hlt
theorem Ey (hL:LtAll prog w A E s κ ks)(h0:KeysOf κ a₀){st:SortSt}{lo n ok:Nat}{Q:Bool->SortSt->Prop}(hn:lo+n<=a₀.size)(hok:ok<=n)(B:SB ks a₀ st)(hs:Seg κ (arrOf st) lo (lo+ok))
  (h:∀ st',SB ks a₀ st'->Out st st' lo (lo+n)->Seg κ (arrOf st') lo (lo+n)->Q true st'):wpS (model prog w) A E s (binarySort' lo n ok) Q st:=by
 rw [binarySort'_eq]
 refine wpS_bind (wpS_mono (wpS_forRange (I:=fun k c st'=>c=(none,())/\SB ks a₀ st'/\Out st st' lo (lo+n)/\Seg κ (arrOf st') lo (lo+min k n))
  (Q:=fun c st'=>c=(none,())/\SB ks a₀ st'/\Out st st' lo (lo+n)/\Seg κ (arrOf st') lo (lo+n)) ?_ ?_ ?_) ?_)
 ·rintro k c st' hk0 hkn ⟨rfl,B',O',hs'⟩
  rw [show min k n=k by lia] at hs'
  refine wpS_bind (wpS_mono (wpS_forRange (I:=fun x c st2=>st2=st'/\∃ l r,c=(none,l,r)/\l<=r/\r<=k/\r - l<=k - x/\(∀ i,i < l->κ.kle (KK κ (arrOf st') (lo+i)) (KK κ (arrOf st') (lo+k)))/\(∀ i,r<=i->i < k->κ.klt (KK κ (arrOf st') (lo+k)) (KK κ (arrOf st') (lo+i))))
   (Q:=fun c st2=>st2=st'/\∃ l r,c=(none,l,r)/\l<=k/\(∀ i,i < l->κ.kle (KK κ (arrOf st') (lo+i)) (KK κ (arrOf st') (lo+k)))/\(∀ i,l<=i->i < k->κ.klt (KK κ (arrOf st') (lo+k)) (KK κ (arrOf st') (lo+i)))) ?_ ?_ ?_) ?_)
  ·rintro x c st2 _ hxk ⟨rfl,l,r,rfl,hlr,hrk,hm,hlo,hhi⟩
   dsimp only
   by_cases hge:l ≥ r
   ·rw [if_pos hge]
    have e:l=r:=by lia
    subst e
    exact wpS_pure ⟨rfl,l,l,rfl,hrk,hlo,hhi⟩
   ·rw [if_neg hge]
    refine wpS_bind (ltA hL B' h0 (by lia) (by lia) ?_)
    cases e:κ.blt (KK κ (arrOf st2) (lo+k)) (KK κ (arrOf st2) (lo+(l+r) / 2)) with
    | true =>
     dsimp only
     rw [if_pos rfl]
     exact wpS_pure ⟨rfl,l,(l+r) / 2,rfl,by lia,by lia,by lia,hlo,fun i z1 z2=>KeyOrd.klt_of_klt_of_kle e (hs' (lo+(l+r) / 2) (lo+i) (by lia) (by lia) (by lia))⟩
    | false =>
     dsimp only
     rw [if_neg (by decide)]
     exact wpS_pure ⟨rfl,(l+r) / 2+1,r,rfl,by lia,by lia,by lia,fun i z1=>KeyOrd.kle_trans (hs' (lo+i) (lo+(l+r) / 2) (by lia) (by lia) (by lia)) (show κ.kle _ _ from e),hhi⟩
  ·rintro c st2 ⟨rfl,l,r,rfl,hlr,hrk,hm,hlo,hhi⟩
   have e:l=r:=by lia
   subst e
   exact ⟨rfl,l,l,rfl,hrk,hlo,hhi⟩
  ·exact ⟨rfl,0,k,rfl,by lia,by lia,by lia,fun i hi=>by lia,fun i z1 z2=>by lia⟩
  ·rintro c st2 ⟨rfl,l,r,rfl,hlk,hlo,hhi⟩
   show wpS _ _ _ _ (do moveDown' (lo+k) (lo+l);pure (ForInStep.yield (none,()))) _ _
   rw [moveDown'_eq]
   have hks:lo+k < (arrOf st2).size:=by rw [B'.size];lia
   refine wpS_bind (wpS_modify (wpS_pure ⟨rfl,B'.arr (bubble_perm _ _ _),O'.trans ⟨fun z hz=>?_,rfl⟩,?_⟩))
   ·show (bubble (arrOf st2) (lo+k) (lo+k - (lo+l)))[z]?=_
    rw [getElem?_bubble hks _ (by lia),if_neg (by lia),if_neg (by lia)]
   ·rw [show min (k+1) n=k+1 by lia]
    intro i j hi hij hj
    show κ.kle (KK κ (bubble (arrOf st2) (lo+k) (lo+k - (lo+l))) i) (KK κ (bubble (arrOf st2) (lo+k) (lo+k - (lo+l))) j)
    rw [KK_bubble hks (by lia),KK_bubble hks (by lia),show lo+k - (lo+k - (lo+l))=lo+l by lia]
    have hlo':∀ z,lo<=z->z < lo+l->κ.kle (KK κ (arrOf st2) z) (KK κ (arrOf st2) (lo+k)):=fun z z1 z2=>by
     have:=hlo (z - lo) (by lia)
     rw [show lo+(z - lo)=z by lia] at this
     exact this
    have hhi':∀ z,lo+l<=z->z < lo+k->κ.kle (KK κ (arrOf st2) (lo+k)) (KK κ (arrOf st2) z):=fun z z1 z2=>by
     have:=hhi (z - lo) (by lia) (by lia)
     rw [show lo+(z - lo)=z by lia] at this
     exact KeyOrd.kle_of_klt this
    repeat' split
    all_goals first
     | (exfalso;lia)
     | exact KeyOrd.kle_refl _
     | exact hlo' _ (by lia) (by lia)
     | exact hhi' _ (by lia) (by lia)
     | exact hs' _ _ (by lia) (by lia) (by lia)
 ·rintro c st' ⟨hc,B',O',hs'⟩
  refine ⟨hc,B',O',?_⟩
  rwa [show min (max (max ok 1) n) n=n by lia] at hs'
 ·refine ⟨rfl,B,Out.refl _ _ _,fun i j hi hij hj=>?_⟩
  by_cases z:ok=0
  ·have e:i=j:=by lia
   rw [e]
   exact KeyOrd.kle_refl _
  ·exact hs i j hi hij (by lia)
 ·rintro c st' ⟨rfl,B',O',hs'⟩
  exact wpS_pure (h st' B' O' hs')
end
end Srt

namespace Srt
open PySem PyProof.Rows
section
variable {α:Type}{le:α->α->Prop}
structure MI (le:α->α->Prop)(la lb lo:List α)(ia ib:Nat):Prop where
 pm:lo.Perm (la.take ia++lb.take ib)
 sr:lo.Pairwise le
 be:∀ x∈lo,∀ y,y∈la.drop ia\/y∈lb.drop ib->le x y
theorem gW {l:List α}{i j:Nat}{y:α}(hij:i<=j)(h:y∈l.drop j):y∈l.drop i:=by
 have:l.drop j=(l.drop i).drop (j - i):=by rw [List.drop_drop];congr 1;lia
 rw [this] at h
 exact List.mem_of_mem_drop h
theorem vX {l:List α}(h:l.Pairwise le){i j:Nat}(hij:i<=j):∀ x∈(l.drop i).take (j - i),∀ y∈l.drop j,le x y:=by
 have e:l.drop i=(l.drop i).take (j - i)++l.drop j:=by
  have:=List.take_append_drop (j - i) (l.drop i)
  rw [List.drop_drop] at this
  rw [show i+(j - i)=j by lia] at this
  exact this.symm
 have hp:(l.drop i).Pairwise le:=h.sublist (List.drop_sublist _ _)
 rw [e] at hp
 exact fun x hx y hy=>(List.pairwise_append.mp hp).2.2 x hx y hy
theorem pO (l:List α)(i k:Nat):l.take (i+k)=l.take i++(l.drop i).take k:=List.take_add
theorem MI.segA {la lb lo:List α}{ia ib k:Nat}(m:MI le la lb lo ia ib)(sa:la.Pairwise le)(h:∀ x∈(la.drop ia).take k,∀ y∈lb.drop ib,le x y):MI le la lb (lo++(la.drop ia).take k) (ia+k) ib:=by
 refine ⟨?_,List.pairwise_append.mpr ⟨m.sr,(sa.sublist (List.drop_sublist _ _)).sublist (List.take_sublist _ _),fun x hx y hy=>m.be x hx y (.inl (List.mem_of_mem_take hy))⟩,fun x hx y hy=>?_⟩
 ·rw [pO]
  refine (m.pm.append_right _).trans ?_
  rw [zAf,zAf]
  exact List.Perm.append_left _ (List.perm_append_comm)
 ·rcases zA6.mp hx with z | z
  ·exact m.be x z y (hy.imp (gW (by lia)) id)
  ·rcases hy with hy | hy
   ·have:=vX sa (i:=ia) (j:=ia+k) (by lia) x (by rw [show ia+k - ia=k by lia];exact z) y hy
    exact this
   ·exact h x z y hy
theorem MI.segB {la lb lo:List α}{ia ib k:Nat}(m:MI le la lb lo ia ib)(sb:lb.Pairwise le)(h:∀ x∈(lb.drop ib).take k,∀ y∈la.drop ia,le x y):MI le la lb (lo++(lb.drop ib).take k) ia (ib+k):=by
 refine ⟨?_,List.pairwise_append.mpr ⟨m.sr,(sb.sublist (List.drop_sublist _ _)).sublist (List.take_sublist _ _),fun x hx y hy=>m.be x hx y (.inr (List.mem_of_mem_take hy))⟩,fun x hx y hy=>?_⟩
 ·rw [pO]
  refine (m.pm.append_right _).trans ?_
  rw [zAf]
 ·rcases zA6.mp hx with z | z
  ·exact m.be x z y (hy.imp id (gW (by lia)))
  ·rcases hy with hy | hy
   ·exact h x z y hy
   ·have:=vX sb (i:=ib) (j:=ib+k) (by lia) x (by rw [show ib+k - ib=k by lia];exact z) y hy
    exact this
structure Done (le:α->α->Prop)(la lb lo:List α):Prop where
 pm:lo.Perm (la++lb)
 sr:lo.Pairwise le
theorem MI.endB {la lb lo:List α}{ia ib:Nat}(m:MI le la lb lo ia ib)(sa:la.Pairwise le)(hb:lb.length<=ib):Done le la lb (lo++la.drop ia++lb.drop ib):=by
 have e:lb.drop ib=[]:=List.drop_of_length_le hb
 have e2:lb.take ib=lb:=List.take_of_length_le hb
 rw [e,zAn]
 refine ⟨?_,List.pairwise_append.mpr ⟨m.sr,sa.sublist (List.drop_sublist _ _),fun x hx y hy=>m.be x hx y (.inl hy)⟩⟩
 have:=m.pm
 rw [e2] at this
 refine (this.append_right _).trans ?_
 rw [zAf]
 refine (List.Perm.append_left _ List.perm_append_comm).trans ?_
 rw [<- zAf,List.take_append_drop]
theorem MI.endA {la lb lo:List α}{ia ib:Nat}(m:MI le la lb lo ia ib)(sb:lb.Pairwise le)(ha:la.length<=ia):Done le la lb (lo++la.drop ia++lb.drop ib):=by
 have e:la.drop ia=[]:=List.drop_of_length_le ha
 have e2:la.take ia=la:=List.take_of_length_le ha
 rw [e,zAn]
 refine ⟨?_,List.pairwise_append.mpr ⟨m.sr,sb.sublist (List.drop_sublist _ _),fun x hx y hy=>m.be x hx y (.inr hy)⟩⟩
 have:=m.pm
 rw [e2] at this
 refine (this.append_right _).trans ?_
 rw [zAf,List.take_append_drop]
theorem MI.last {la lb lo:List α}{ia ib:Nat}(m:MI le la lb lo ia ib)(sa:la.Pairwise le)(sb:lb.Pairwise le)(h:∀ y∈lb.drop ib,∀ x∈la.drop ia,le y x):Done le la lb (lo++lb.drop ib++la.drop ia):=by
 refine ⟨?_,List.pairwise_append.mpr ⟨List.pairwise_append.mpr ⟨m.sr,sb.sublist (List.drop_sublist _ _),fun x hx y hy=>m.be x hx y (.inr hy)⟩,sa.sublist (List.drop_sublist _ _),fun x hx y hy=>?_⟩⟩
 ·refine ((m.pm.append_right _).append_right _).trans ?_
  have e:(la.take ia++lb.take ib++lb.drop ib++la.drop ia)=la.take ia++(lb++la.drop ia):=by
   rw [zAf (la.take ia),List.take_append_drop,zAf]
  rw [e]
  refine (List.Perm.append_left _ List.perm_append_comm).trans ?_
  rw [<- zAf,List.take_append_drop]
 ·rcases zA6.mp hx with z | z
  ·exact m.be x z y (.inl hy)
  ·exact h x z y hy
end
end Srt

namespace Srt
open PySem PyProof.Rows
def jn:Array Keyed->Array Keyed->Sm (Array Keyed):=sortPriv% PySem.Builtin.mergeLo
def jo:Nat->Sm Unit:=sortPriv% PySem.Builtin.setMinGallop
abbrev C1:=Option (Array Keyed)×Array Keyed×Nat×Nat×Nat×Nat
abbrev C2:=Option (Array Keyed)×Array Keyed×Nat×Nat×Nat×Nat×Nat
abbrev C0:=Option (Array Keyed)×Array Keyed×Nat×Nat×Nat
def one (a b:Array Keyed)(g:Nat)(out:Array Keyed)(ia ib ac bc:Nat):Sm (ForInStep C1):=do
 let y <- elem' b ib
 let x <- elem' a ia
 let r <- lt' y x
 match r with
 | some w =>
  if w=true then do
   let y <- elem' b ib
   if (ib+1 == b.size)=true then pure (ForInStep.done (some (out.push y++a.extract ia a.size++b.extract (ib+1) b.size),out.push y,ia,ib+1,0,bc+1))
   else if bc+1 ≥ g then pure (ForInStep.done (none,out.push y,ia,ib+1,0,bc+1)) else pure (ForInStep.yield (none,out.push y,ia,ib+1,0,bc+1))
  else do
   let x <- elem' a ia
   if (ia+1+1 == a.size)=true then pure (ForInStep.done (some (out.push x++b.extract ib b.size++a.extract (ia+1) a.size),out.push x,ia+1,ib,ac+1,0))
   else if ac+1 ≥ g then pure (ForInStep.done (none,out.push x,ia+1,ib,ac+1,0)) else pure (ForInStep.yield (none,out.push x,ia+1,ib,ac+1,0))
 | _=>pure (ForInStep.done (some (out++a.extract ia a.size++b.extract ib b.size),out,ia,ib,ac,bc))
def gl4 (a b:Array Keyed)(out:Array Keyed)(ia ib g k k1:Nat):Sm (ForInStep C2):=do
 let x <- elem' a ia
 if (ia+1+1 == a.size)=true then pure (ForInStep.done (some (out.push x++b.extract ib b.size++a.extract (ia+1) a.size),out.push x,ia+1,ib,g,k,k1))
 else if (decide (k < 7) && decide (k1 < 7))=true then pure (ForInStep.done (none,out.push x,ia+1,ib,g,k,k1)) else pure (ForInStep.yield (none,out.push x,ia+1,ib,g,k,k1))
def gl3 (a b:Array Keyed)(out:Array Keyed)(ia ib g k bc:Nat):Sm (ForInStep C2):=do
 let x <- elem' a ia
 let r <- fu true x b ib (b.size - ib) 0
 match r with
 | some k1 =>
  if k1 > 0 then
   if (ib+k1 == b.size)=true then pure (ForInStep.done (some (out++b.extract ib (ib+k1)++a.extract ia a.size++b.extract (ib+k1) b.size),out++b.extract ib (ib+k1),ia,ib+k1,g,k,k1))
   else gl4 a b (out++b.extract ib (ib+k1)) ia (ib+k1) g k k1
  else gl4 a b out ia ib g k k1
 | _=>pure (ForInStep.done (some (out++a.extract ia a.size++b.extract ib b.size),out,ia,ib,g,k,bc))
def gl2 (a b:Array Keyed)(out:Array Keyed)(ia ib g k bc:Nat):Sm (ForInStep C2):=do
 let y <- elem' b ib
 if (ib+1 == b.size)=true then pure (ForInStep.done (some (out.push y++a.extract ia a.size++b.extract (ib+1) b.size),out.push y,ia,ib+1,g,k,bc))
 else gl3 a b (out.push y) ia (ib+1) g k bc
def gl1 (a b:Array Keyed)(out:Array Keyed)(ia ib g ac bc:Nat):Sm (ForInStep C2):=do
 jo g
 let y <- elem' b ib
 let r <- fu false y a ia (a.size - ia) 0
 match r with
 | some k =>
  if k > 0 then
   if (ia+k+1 == a.size)=true then pure (ForInStep.done (some (out++a.extract ia (ia+k)++b.extract ib b.size++a.extract (ia+k) a.size),out++a.extract ia (ia+k),ia+k,ib,g,k,bc))
   else if (ia+k == a.size)=true then pure (ForInStep.done (some (out++a.extract ia (ia+k)++a.extract (ia+k) a.size++b.extract ib b.size),out++a.extract ia (ia+k),ia+k,ib,g,k,bc))
   else gl2 a b (out++a.extract ia (ia+k)) (ia+k) ib g k bc
  else gl2 a b out ia ib g k bc
 | _=>pure (ForInStep.done (some (out++a.extract ia a.size++b.extract ib b.size),out,ia,ib,g,ac,bc))
def gal (a b:Array Keyed)(out:Array Keyed)(ia ib g ac bc:Nat):Sm (ForInStep C2):=if g > 1 then gl1 a b out ia ib (g - 1) ac bc else gl1 a b out ia ib g ac bc
def round (a b:Array Keyed)(out:Array Keyed)(ia ib g:Nat):Sm (ForInStep C0):=do
 let c <- forIn [0:a.size+b.size] ((none,out,ia,ib,0,0):C1) fun _ c=>one a b g c.2.1 c.2.2.1 c.2.2.2.1 c.2.2.2.2.1 c.2.2.2.2.2
 match c.1 with
 | some r=>pure (ForInStep.done (some r,c.2.1,c.2.2.1,c.2.2.2.1,g))
 | none=>do
  liftM (rule "list.sort.gallop")
  let d <- forIn [0:a.size+b.size] ((none,c.2.1,c.2.2.1,c.2.2.2.1,g+1,c.2.2.2.2.1,c.2.2.2.2.2):C2) fun _ d=>gal a b d.2.1 d.2.2.1 d.2.2.2.1 d.2.2.2.2.1 d.2.2.2.2.2.1 d.2.2.2.2.2.2
  match d.1 with
  | some r=>pure (ForInStep.done (some r,d.2.1,d.2.2.1,d.2.2.2.1,d.2.2.2.2.1))
  | none=>do
   jo (d.2.2.2.2.1+1)
   pure (ForInStep.yield (none,d.2.1,d.2.2.1,d.2.2.2.1,d.2.2.2.2.1+1))
theorem fi {β:Type}{r:Std.Legacy.Range}{c:β}{f f':Nat->β->Sm (ForInStep β)}(h:f=f'):(forIn r c f:Sm β)=forIn r c f':=by rw [h]
theorem ic {α:Type}{c:Prop}[Decidable c]{x x' y y':α}(h:x=x')(h':y=y'):(if c then x else y)=if c then x' else y':=by rw [h,h']
theorem Gw (a b:Array Keyed):jn a b=(do
  liftM (rule "list.sort.merge-lo")
  let e <- elem' b 0
  if (1 == b.size)=true then pure (#[e]++a.extract 0 a.size++b.extract 1 b.size)
  else if (0+1 == a.size)=true then pure (#[e]++b.extract 1 b.size++a.extract 0 a.size)
  else do
   let s <- get
   let c <- forIn [0:a.size+b.size] ((none,#[e],0,1,gallopOf s):C0) fun _ c=>round a b c.2.1 c.2.2.1 c.2.2.2.1 c.2.2.2.2
   match c.1 with
   | some r=>pure r
   | none=>liftM (unsupported "internal:list.sort.merge-bound")):=by
 delta jn
 refine bc rfl (funext fun u=>bc rfl (funext fun e=>ic rfl (ic rfl (bc rfl (funext fun s=>bc (fi (funext fun x=>funext fun c=>?_)) (funext fun c=>?_))))))
 ·unfold round
  refine bc (fi (funext fun x=>funext fun c1=>?_)) (funext fun c1=>?_)
  ·unfold one
   refine bc rfl (funext fun y=>bc rfl (funext fun x=>bc rfl (funext fun r=>?_)))
   cases r with
   | none=>rfl
   | some w=>exact ic (bc rfl (funext fun y=>ic rfl (ic rfl rfl))) (bc rfl (funext fun y=>ic rfl (ic rfl rfl)))
  ·obtain ⟨r,c1⟩:=c1
   cases r with
   | some r=>rfl
   | none =>
    refine bc rfl (funext fun u=>bc (fi (funext fun x=>funext fun d=>?_)) (funext fun d=>?_))
    ·unfold gal
     refine ic ?_ ?_
     ·unfold gl1;exact bc rfl (funext fun u=>bc rfl (funext fun y=>bc rfl (funext fun r=>by cases r with | none=>rfl | some k=>exact ic (ic rfl (ic rfl (by unfold gl2;exact bc rfl (funext fun y=>ic rfl (by unfold gl3;exact bc rfl (funext fun x=>bc rfl (funext fun r=>by cases r with | none=>rfl | some k1=>exact ic (ic rfl (by unfold gl4;exact bc rfl (funext fun x=>ic rfl (ic rfl rfl)))) (by unfold gl4;exact bc rfl (funext fun x=>ic rfl (ic rfl rfl)))))))))) (by unfold gl2;exact bc rfl (funext fun y=>ic rfl (by unfold gl3;exact bc rfl (funext fun x=>bc rfl (funext fun r=>by cases r with | none=>rfl | some k1=>exact ic (ic rfl (by unfold gl4;exact bc rfl (funext fun x=>ic rfl (ic rfl rfl)))) (by unfold gl4;exact bc rfl (funext fun x=>ic rfl (ic rfl rfl)))))))))))
     ·unfold gl1;exact bc rfl (funext fun u=>bc rfl (funext fun y=>bc rfl (funext fun r=>by cases r with | none=>rfl | some k=>exact ic (ic rfl (ic rfl (by unfold gl2;exact bc rfl (funext fun y=>ic rfl (by unfold gl3;exact bc rfl (funext fun x=>bc rfl (funext fun r=>by cases r with | none=>rfl | some k1=>exact ic (ic rfl (by unfold gl4;exact bc rfl (funext fun x=>ic rfl (ic rfl rfl)))) (by unfold gl4;exact bc rfl (funext fun x=>ic rfl (ic rfl rfl)))))))))) (by unfold gl2;exact bc rfl (funext fun y=>ic rfl (by unfold gl3;exact bc rfl (funext fun x=>bc rfl (funext fun r=>by cases r with | none=>rfl | some k1=>exact ic (ic rfl (by unfold gl4;exact bc rfl (funext fun x=>ic rfl (ic rfl rfl)))) (by unfold gl4;exact bc rfl (funext fun x=>ic rfl (ic rfl rfl)))))))))))
    ·obtain ⟨r,d⟩:=d
     cases r <;> rfl
 ·obtain ⟨r,c⟩:=c
  cases r <;> rfl
def key (κ:PyProof.Rows.KeyKind)(p:Keyed):κ.α:=(κ.keyOf p.1).getD κ.dflt
def leK (κ:PyProof.Rows.KeyKind)(x y:Keyed):Prop:=κ.kle (key κ x) (key κ y)
theorem dq {κ:PyProof.Rows.KeyKind}{x y z:Keyed}(h:leK κ x y)(h':leK κ y z):leK κ x z:=KeyOrd.kle_trans h h'
structure SG (st st':SortSt):Prop where
 kind:kindOf st'=kindOf st
 arr:arrOf st'=arrOf st
 pend:pendingOf st'=pendingOf st
 fail:failedOf st'=failedOf st
theorem SG.refl (st:SortSt):SG st st:=⟨rfl,rfl,rfl,rfl⟩
structure Two (κ:PyProof.Rows.KeyKind)(a b:Array Keyed):Prop where
 ka:KeysOf κ a
 kb:KeysOf κ b
 sa:a.toList.Pairwise (leK κ)
 sb:b.toList.Pairwise (leK κ)
theorem item {κ:PyProof.Rows.KeyKind}{a:Array Keyed}(ka:KeysOf κ a){i:Nat}(hi:i < a.size):∃ p,a[i]?=some p/\κ.keyOf p.1=some (key κ p)/\KK κ a i=key κ p/\a.toList.drop i=p::a.toList.drop (i+1):=by
 have e:a[i]?=some a[i]:=Array.getElem?_eq_getElem hi
 obtain ⟨k,hk⟩:=ka a[i] (Array.mem_toList_iff.mpr (Array.getElem_mem hi))
 have ek:key κ a[i]=k:=by
  unfold key
  rw [hk]
  rfl
 refine ⟨a[i],e,by rw [ek];exact hk,?_,?_⟩
 ·unfold KK
  rw [e,ek]
  dsimp only
  rw [hk]
  rfl
 ·have:=List.drop_eq_getElem_cons (l:=a.toList) (i:=i) (by simpa using hi)
  rw [this]
  simp
theorem jq {κ:PyProof.Rows.KeyKind}{l r:List Keyed}{p:Keyed}{i:Nat}(h:l.Pairwise (leK κ))(e:l.drop i=p::r):∀ y∈l.drop i,leK κ p y:=by
 have hp:=h.sublist (List.drop_sublist i l)
 rw [e] at hp ⊢
 intro y hy
 rcases zAo.mp hy with z | z
 ·rw [z]
  exact KeyOrd.kle_refl _
 ·exact (List.pairwise_cons.mp hp).1 y z
theorem fQ (a:Array Keyed)(i j:Nat):(a.extract i j).toList=(a.toList.drop i).take (j - i):=by
 rw [Array.toList_extract]
theorem iw (a:Array Keyed)(i:Nat):(a.extract i a.size).toList=a.toList.drop i:=by
 rw [fQ]
 refine List.take_of_length_le ?_
 rw [List.length_drop,zA9]
 exact zA3 _
theorem jr {κ:PyProof.Rows.KeyKind}{a:Array Keyed}(ka:KeysOf κ a){i k:Nat}{x:Keyed}(h:x∈(a.toList.drop i).take k):∃ j,j < k/\i+j < a.size/\KK κ a (i+j)=key κ x:=by
 obtain ⟨j,hj,rfl⟩:=List.getElem_of_mem h
 rw [zAd,List.length_drop,zA9] at hj
 refine ⟨j,by lia,by lia,?_⟩
 obtain ⟨p,e1,e2,e3,e4⟩:=item ka (i:=i+j) (by lia)
 rw [e3,List.getElem_take,List.getElem_drop]
 have:a.toList[i+j]?=some p:=by
  rw [Array.getElem?_toList]
  exact e1
 rw [zA0 (by rw [zA9];lia)] at this
 rw [zAl this]
theorem nq {κ:PyProof.Rows.KeyKind}{a:Array Keyed}(ka:KeysOf κ a){i:Nat}{x:Keyed}(h:x∈a.toList.drop i):∃ j,i<=j/\j < a.size/\KK κ a j=key κ x:=by
 have h':x∈(a.toList.drop i).take (a.toList.drop i).length:=by rw [zAm];exact h
 obtain ⟨j,_,h2,h3⟩:=jr ka h'
 exact ⟨i+j,by lia,h2,h3⟩
theorem jt {κ:PyProof.Rows.KeyKind}{a:Array Keyed}(ka:KeysOf κ a)(sa:a.toList.Pairwise (leK κ)){i j:Nat}(hij:i<=j)(hj:j < a.size):κ.kle (KK κ a i) (KK κ a j):=by
 obtain ⟨p,_,_,e3,e4⟩:=item ka (i:=i) (by lia)
 obtain ⟨q,_,_,f3,f4⟩:=item ka (i:=j) hj
 rw [e3,f3]
 refine jq sa e4 q ?_
 have:q∈a.toList.drop j:=by rw [f4];exact List.mem_cons_self
 exact gW hij this
section
variable {prog:Program}{w:World}{A:Around}{E:Value->Shared->Prop}{s:Shared}{κ:PyProof.Rows.KeyKind}{ks:SortKind}{a b:Array Keyed}
theorem iy {g:Nat}{Q:Unit->SortSt->Prop}{st:SortSt}(h:∀ st',SG st st'->Q () st'):wpS (model prog w) A E s (jo g) Q st:=wpS_modify (h _ ⟨rfl,rfl,rfl,rfl⟩)
structure At (κ:PyProof.Rows.KeyKind)(a b out:Array Keyed)(ia ib:Nat):Prop where
 mi:MI (leK κ) a.toList b.toList out.toList ia ib
 ha:ia+1 < a.size
 hb:ib < b.size
theorem At.pushA {out:Array Keyed}{ia ib:Nat}{x:Keyed}(T:Two κ a b)(m:MI (leK κ) a.toList b.toList out.toList ia ib)(e:a.toList.drop ia=x::a.toList.drop (ia+1))(h:∀ y∈b.toList.drop ib,leK κ x y) :
  MI (leK κ) a.toList b.toList (out.push x).toList (ia+1) ib:=by
 have:=m.segA (k:=1) T.sa fun z hz y hy=>by
  rw [e] at hz
  have:z=x:=by simpa using hz
  rw [this]
  exact h y hy
 rw [e] at this
 rw [Array.toList_push]
 exact this
theorem At.pushB {out:Array Keyed}{ia ib:Nat}{x:Keyed}(T:Two κ a b)(m:MI (leK κ) a.toList b.toList out.toList ia ib)(e:b.toList.drop ib=x::b.toList.drop (ib+1))(h:∀ y∈a.toList.drop ia,leK κ x y) :
  MI (leK κ) a.toList b.toList (out.push x).toList ia (ib+1):=by
 have:=m.segB (k:=1) T.sb fun z hz y hy=>by
  rw [e] at hz
  have:z=x:=by simpa using hz
  rw [this]
  exact h y hy
 rw [e] at this
 rw [Array.toList_push]
 exact this
theorem At.segA {out:Array Keyed}{ia ib k:Nat}(T:Two κ a b)(m:MI (leK κ) a.toList b.toList out.toList ia ib)(h:∀ x∈(a.toList.drop ia).take k,∀ y∈b.toList.drop ib,leK κ x y):MI (leK κ) a.toList b.toList (out++a.extract ia (ia+k)).toList (ia+k) ib:=by
 have:=m.segA (k:=k) T.sa h
 rw [Array.toList_append,fQ,show ia+k - ia=k by lia]
 exact this
theorem At.segB {out:Array Keyed}{ia ib k:Nat}(T:Two κ a b)(m:MI (leK κ) a.toList b.toList out.toList ia ib)(h:∀ x∈(b.toList.drop ib).take k,∀ y∈a.toList.drop ia,leK κ x y):MI (leK κ) a.toList b.toList (out++b.extract ib (ib+k)).toList ia (ib+k):=by
 have:=m.segB (k:=k) T.sb h
 rw [Array.toList_append,fQ,show ib+k - ib=k by lia]
 exact this
abbrev Rs (κ:PyProof.Rows.KeyKind)(a b:Array Keyed)(r:Array Keyed):Prop:=Done (leK κ) a.toList b.toList r.toList
def iG (κ:PyProof.Rows.KeyKind)(a b:Array Keyed):Prop:=∀ y∈b.toList,∀ x∈a.toList.drop (a.size - 1),leK κ y x
theorem vY {out:Array Keyed}{ia ib:Nat}(T:Two κ a b)(m:MI (leK κ) a.toList b.toList out.toList ia ib)(h:ib=b.size):Rs κ a b (out++a.extract ia a.size++b.extract ib b.size):=by
 have:=m.endB T.sa (by rw [zA9];lia)
 unfold Rs
 rw [Array.toList_append,Array.toList_append,iw,iw]
 exact this
theorem Gx {out:Array Keyed}{ia ib:Nat}(T:Two κ a b)(m:MI (leK κ) a.toList b.toList out.toList ia ib)(h:ia=a.size):Rs κ a b (out++a.extract ia a.size++b.extract ib b.size):=by
 have:=m.endA T.sb (by rw [zA9];lia)
 unfold Rs
 rw [Array.toList_append,Array.toList_append,iw,iw]
 exact this
theorem vZ {out:Array Keyed}{ia ib:Nat}(T:Two κ a b)(L:iG κ a b)(m:MI (leK κ) a.toList b.toList out.toList ia ib)(h:ia+1=a.size):Rs κ a b (out++b.extract ib b.size++a.extract ia a.size):=by
 have:=m.last T.sa T.sb fun y hy x hx=>L y (List.mem_of_mem_drop hy) x (by rw [show a.size - 1=ia by lia];exact hx)
 unfold Rs
 rw [Array.toList_append,Array.toList_append,iw,iw]
 exact this
theorem uQ (hL:LtAll prog w A E s κ ks)(T:Two κ a b)(L:iG κ a b){g ia ib ac bc:Nat}{out:Array Keyed}{st:SortSt}(hk:kindOf st=ks)(m:At κ a b out ia ib) :
  wpS (model prog w) A E s (one a b g out ia ib ac bc) (fun r st'=>st'=st/\match r with
   | .done c=>(∃ z,c.1=some z/\Rs κ a b z)\/(c.1=none/\At κ a b c.2.1 c.2.2.1 c.2.2.2.1/\ia+ib+1=c.2.2.1+c.2.2.2.1)
   | .yield c=>c.1=none/\At κ a b c.2.1 c.2.2.1 c.2.2.2.1/\ia+ib+1=c.2.2.1+c.2.2.2.1) st:=by
 obtain ⟨x,x1,x2,x3,x4⟩:=item T.ka (i:=ia) (by have:=m.ha;lia)
 obtain ⟨y,y1,y2,y3,y4⟩:=item T.kb m.hb
 unfold one
 refine wpS_bind (bz y1 (wpS_bind (bz x1 (wpS_bind (hL st hk _ _ _ _ _ y2 x2 ?_)))))
 cases e:κ.blt (key κ y) (key κ x) with
 | true =>
  dsimp only
  rw [if_pos rfl]
  refine wpS_bind (bz y1 ?_)
  have m':=At.pushB T m.mi y4 fun z hz=>dq (KeyOrd.kle_of_klt e) (jq T.sa x4 z hz)
  by_cases hb:ib+1=b.size
  ·rw [if_pos (by simpa using hb)]
   exact wpS_pure ⟨rfl,.inl ⟨_,rfl,vY T m' hb⟩⟩
  ·rw [if_neg (by simpa using hb)]
   have at':At κ a b (out.push y) ia (ib+1):=⟨m',m.ha,by have:=m.hb;lia⟩
   split
   ·exact wpS_pure ⟨rfl,.inr ⟨rfl,at',by dsimp only;lia⟩⟩
   ·exact wpS_pure ⟨rfl,rfl,at',by dsimp only;lia⟩
 | false =>
  dsimp only
  rw [if_neg (by decide)]
  refine wpS_bind (bz x1 ?_)
  have m':=At.pushA T m.mi x4 fun z hz=>dq (show leK κ x y from e) (jq T.sb y4 z hz)
  by_cases ha:ia+1+1=a.size
  ·rw [if_pos (by simpa using ha)]
   exact wpS_pure ⟨rfl,.inl ⟨_,rfl,vZ T L m' ha⟩⟩
  ·rw [if_neg (by simpa using ha)]
   have at':At κ a b (out.push x) (ia+1) ib:=⟨m',by have:=m.ha;lia,m.hb⟩
   split
   ·exact wpS_pure ⟨rfl,.inr ⟨rfl,at',by dsimp only;lia⟩⟩
   ·exact wpS_pure ⟨rfl,rfl,at',by dsimp only;lia⟩
def G2 (κ:PyProof.Rows.KeyKind)(a b:Array Keyed)(n:Nat)(st:SortSt)(r:ForInStep C2)(st':SortSt):Prop:=SG st st'/\match r with
 | .done c=>(∃ z,c.1=some z/\Rs κ a b z)\/(c.1=none/\At κ a b c.2.1 c.2.2.1 c.2.2.2.1/\n<=c.2.2.1+c.2.2.2.1)
 | .yield c=>c.1=none/\At κ a b c.2.1 c.2.2.1 c.2.2.2.1/\n<=c.2.2.1+c.2.2.2.1
theorem nu (T:Two κ a b)(L:iG κ a b){g ia ib k k1 n:Nat}{out:Array Keyed}{st0 st:SortSt}(sg:SG st0 st)(m:At κ a b out ia ib)(hn:n<=ia+ib+1)(h:∀ y∈b.toList.drop ib,∀ x,a[ia]?=some x->leK κ x y) :
  wpS (model prog w) A E s (gl4 a b out ia ib g k k1) (G2 κ a b n st0) st:=by
 obtain ⟨x,x1,x2,x3,x4⟩:=item T.ka (i:=ia) (by have:=m.ha;lia)
 unfold gl4
 refine wpS_bind (bz x1 ?_)
 have m':=At.pushA T m.mi x4 fun z hz=>h z hz x x1
 by_cases ha:ia+1+1=a.size
 ·rw [if_pos (by simpa using ha)]
  exact wpS_pure ⟨sg,.inl ⟨_,rfl,vZ T L m' ha⟩⟩
 ·rw [if_neg (by simpa using ha)]
  have at':At κ a b (out.push x) (ia+1) ib:=⟨m',by have:=m.ha;lia,m.hb⟩
  split
  ·exact wpS_pure ⟨sg,.inr ⟨rfl,at',by dsimp only;lia⟩⟩
  ·exact wpS_pure ⟨sg,rfl,at',by dsimp only;lia⟩
theorem uR (hL:LtAll prog w A E s κ ks)(T:Two κ a b)(L:iG κ a b){g ia ib k bc n:Nat}{out:Array Keyed}{st0 st:SortSt}(hk:kindOf st=ks)(sg:SG st0 st)(m:At κ a b out ia ib)(hn:n<=ia+ib+1) :
  wpS (model prog w) A E s (gl3 a b out ia ib g k bc) (G2 κ a b n st0) st:=by
 obtain ⟨x,x1,x2,x3,x4⟩:=item T.ka (i:=ia) (by have:=m.ha;lia)
 have hb:=m.hb
 unfold gl3
 refine wpS_bind (bz x1 ?_)
 refine wpS_bind (dH (κ:=κ) (kk:=key κ x) (hL st hk) x2 (by lia) (fun i hi=>?_) (fun i j hij hj hbj=>?_) fun k1 kn kt kf=>?_)
 ·obtain ⟨p,p1,p2,p3,_⟩:=item T.kb (i:=ib+i) (by lia)
  exact ⟨p,_,p1,p2,p3⟩
 ·have mono:=jt T.kb T.sb (i:=ib+i) (j:=ib+j) (by lia) (by lia)
  exact KeyOrd.klt_of_kle_of_klt mono hbj
 ·have late:∀ y∈b.toList.drop (ib+k1),∀ z,a[ia]?=some z->leK κ z y:=fun y hy z hz=>by
   rw [x1] at hz
   cases hz
   obtain ⟨j,j1,j2,j3⟩:=nq T.kb hy
   have:=kf (j - ib) (by lia) (by lia)
   rw [show ib+(j - ib)=j by lia,j3] at this
   exact this
  by_cases h0:k1 > 0
  ·dsimp only
   rw [if_pos h0]
   have m':=At.segB (k:=k1) T m.mi fun z hz y hy=>by
    obtain ⟨j,j1,j2,j3⟩:=jr T.kb hz
    have:=kt j j1
    rw [j3] at this
    exact dq (KeyOrd.kle_of_klt this) (jq T.sa x4 y hy)
   by_cases e:ib+k1=b.size
   ·rw [if_pos (by simpa using e)]
    exact wpS_pure ⟨sg,.inl ⟨_,rfl,vY T m' e⟩⟩
   ·rw [if_neg (by simpa using e)]
    exact nu T L sg ⟨m',m.ha,by lia⟩ (by lia) late
  ·dsimp only
   rw [if_neg h0]
   have e:k1=0:=by lia
   rw [e] at late
   exact nu T L sg m hn late
theorem nA (hL:LtAll prog w A E s κ ks)(T:Two κ a b)(L:iG κ a b){g ia ib k bc n:Nat}{out:Array Keyed}{st0 st:SortSt}(hk:kindOf st=ks)(sg:SG st0 st)(m:At κ a b out ia ib)(hn:n<=ia+ib+1)(h:∀ x∈a.toList.drop ia,∀ y,b[ib]?=some y->leK κ y x) :
  wpS (model prog w) A E s (gl2 a b out ia ib g k bc) (G2 κ a b n st0) st:=by
 obtain ⟨y,y1,y2,y3,y4⟩:=item T.kb m.hb
 unfold gl2
 refine wpS_bind (bz y1 ?_)
 have m':=At.pushB T m.mi y4 fun z hz=>h z hz y y1
 by_cases hb:ib+1=b.size
 ·rw [if_pos (by simpa using hb)]
  exact wpS_pure ⟨sg,.inl ⟨_,rfl,vY T m' hb⟩⟩
 ·rw [if_neg (by simpa using hb)]
  exact uR hL T L hk sg ⟨m',m.ha,by have:=m.hb;lia⟩ (by lia)
theorem uT (hL:LtAll prog w A E s κ ks)(T:Two κ a b)(L:iG κ a b){g ia ib ac bc n:Nat}{out:Array Keyed}{st0 st:SortSt}(hk:kindOf st=ks)(sg:SG st0 st)(m:At κ a b out ia ib)(hn:n<=ia+ib+1) :
  wpS (model prog w) A E s (gl1 a b out ia ib g ac bc) (G2 κ a b n st0) st:=by
 obtain ⟨y,y1,y2,y3,y4⟩:=item T.kb m.hb
 have ha:=m.ha
 unfold gl1
 refine wpS_bind (iy fun st' sg'=>?_)
 have hk':kindOf st'=ks:=sg'.kind.trans hk
 have sg2:SG st0 st':=⟨sg'.kind.trans sg.kind,sg'.arr.trans sg.arr,sg'.pend.trans sg.pend,sg'.fail.trans sg.fail⟩
 refine wpS_bind (bz y1 ?_)
 refine wpS_bind (dH (κ:=κ) (kk:=key κ y) (hL st' hk') y2 (by lia) (fun i hi=>?_) (fun i j hij hj hbj=>?_) fun k kn kt kf=>?_)
 ·obtain ⟨p,p1,p2,p3,_⟩:=item T.ka (i:=ia+i) (by lia)
  exact ⟨p,_,p1,p2,p3⟩
 ·have mono:=jt T.ka T.sa (i:=ia+i) (j:=ia+j) (by lia) (by lia)
  have hbj:(!κ.blt (key κ y) (KK κ a (ia+j)))=true:=hbj
  show (!κ.blt (key κ y) (KK κ a (ia+i)))=true
  rw [Bool.not_eq_true'] at hbj ⊢
  exact KeyOrd.kle_trans mono hbj
 ·have late:∀ x∈a.toList.drop (ia+k),∀ z,b[ib]?=some z->leK κ z x:=fun x hx z hz=>by
   rw [y1] at hz
   cases hz
   obtain ⟨j,j1,j2,j3⟩:=nq T.ka hx
   have:=kf (j - ia) (by lia) (by lia)
   rw [show ia+(j - ia)=j by lia,j3] at this
   have this:(!κ.blt (key κ y) (key κ x))=false:=this
   rw [Bool.not_eq_false'] at this
   exact KeyOrd.kle_of_klt this
  by_cases h0:k > 0
  ·dsimp only
   rw [if_pos h0]
   have m':=At.segA (k:=k) T m.mi fun z hz x hx=>by
    obtain ⟨j,j1,j2,j3⟩:=jr T.ka hz
    have:=kt j j1
    rw [j3] at this
    have this:(!κ.blt (key κ y) (key κ z))=true:=this
    rw [Bool.not_eq_true'] at this
    exact dq (show leK κ z y from this) (jq T.sb y4 x hx)
   by_cases e:ia+k+1=a.size
   ·rw [if_pos (by simpa using e)]
    exact wpS_pure ⟨sg2,.inl ⟨_,rfl,vZ T L m' e⟩⟩
   ·rw [if_neg (by simpa using e)]
    by_cases e2:ia+k=a.size
    ·rw [if_pos (by simpa using e2)]
     exact wpS_pure ⟨sg2,.inl ⟨_,rfl,Gx T m' e2⟩⟩
    ·rw [if_neg (by simpa using e2)]
     exact nA hL T L hk' sg2 ⟨m',by lia,m.hb⟩ (by lia) late
  ·dsimp only
   rw [if_neg h0]
   have e:k=0:=by lia
   rw [e] at late
   exact nA hL T L hk' sg2 m hn late
theorem nC (hL:LtAll prog w A E s κ ks)(T:Two κ a b)(L:iG κ a b){g ia ib:Nat}{out:Array Keyed}{st0 st:SortSt}(hk:kindOf st=ks)(sg:SG st0 st)(m:At κ a b out ia ib) :
  wpS (model prog w) A E s (round a b out ia ib g) (fun r st'=>SG st0 st'/\match r with
   | .done c=>∃ z,c.1=some z/\Rs κ a b z
   | .yield c=>c.1=none/\At κ a b c.2.1 c.2.2.1 c.2.2.2.1/\ia+ib+1<=c.2.2.1+c.2.2.2.1) st:=by
 unfold round
 have tot:0 < a.size+b.size:=by have:=m.ha;lia
 refine wpS_bind (wpS_mono (wpS_forRange (I:=fun x c st'=>st'=st/\c.1=none/\At κ a b c.2.1 c.2.2.1 c.2.2.2.1/\ia+ib+x=c.2.2.1+c.2.2.2.1)
  (Q:=fun c st'=>st'=st/\((∃ z,c.1=some z/\Rs κ a b z)\/(c.1=none/\At κ a b c.2.1 c.2.2.1 c.2.2.2.1/\ia+ib+1<=c.2.2.1+c.2.2.2.1))) ?_ ?_ ⟨rfl,rfl,m,rfl⟩) ?_)
 ·rintro x ⟨c0,o,i,j,ac,bc⟩ st' _ hx ⟨rfl,rfl,m',e⟩
  dsimp only at m' e ⊢
  refine wpS_mono (uQ hL T L hk m') fun r st2 h2=>?_
  obtain ⟨rfl,h2⟩:=h2
  cases r with
  | done c =>
   rcases h2 with h2 | ⟨h2,h3,h4⟩
   ·exact ⟨rfl,.inl h2⟩
   ·exact ⟨rfl,.inr ⟨h2,h3,by lia⟩⟩
  | yield c =>
   obtain ⟨h2,h3,h4⟩:=h2
   exact ⟨rfl,h2,h3,by lia⟩
 ·rintro c st' ⟨rfl,h1,h2,h3⟩
  exact ⟨rfl,.inr ⟨h1,h2,by lia⟩⟩
 ·rintro ⟨c0,o,i,j,ac,bc⟩ st' ⟨rfl,h⟩
  dsimp only at h ⊢
  rcases h with ⟨z,rfl,hz⟩ | ⟨rfl,m',hij⟩
  ·exact wpS_pure ⟨sg,z,rfl,hz⟩
  ·dsimp only
   refine wpS_bind (wpS_lift (wpAny_rule ⟨rfl,?_⟩))
   refine wpS_bind (wpS_mono (wpS_forRange (I:=fun x c st2=>SG st0 st2/\c.1=none/\At κ a b c.2.1 c.2.2.1 c.2.2.2.1/\ia+ib+1<=c.2.2.1+c.2.2.2.1)
    (Q:=fun c st2=>SG st0 st2/\((∃ z,c.1=some z/\Rs κ a b z)\/(c.1=none/\At κ a b c.2.1 c.2.2.1 c.2.2.2.1/\ia+ib+1<=c.2.2.1+c.2.2.2.1))) ?_ ?_ ⟨sg,rfl,m',hij⟩) ?_)
   ·rintro x ⟨c0,o,i,j,g2,ac,bc⟩ st2 _ hx ⟨sg2,rfl,m2,e2⟩
    dsimp only at m2 e2 ⊢
    have hk2:kindOf st2=ks:=sg2.kind.trans (sg.kind.symm.trans hk)
    have go:∀ g',wpS (model prog w) A E s (gl1 a b o i j g' ac bc) (G2 κ a b (ia+ib+1) st0) st2:=fun g'=>uT hL T L hk2 sg2 m2 (by lia)
    unfold gal
    split
    ·refine wpS_mono (go _) fun r st3 h3=>?_
     obtain ⟨h3,h4⟩:=h3
     cases r with
     | done c=>exact ⟨h3,h4⟩
     | yield c=>exact ⟨h3,h4⟩
    ·refine wpS_mono (go _) fun r st3 h3=>?_
     obtain ⟨h3,h4⟩:=h3
     cases r with
     | done c=>exact ⟨h3,h4⟩
     | yield c=>exact ⟨h3,h4⟩
   ·rintro c st2 ⟨h0,h1,h2,h3⟩
    exact ⟨h0,.inr ⟨h1,h2,h3⟩⟩
   ·rintro ⟨c0,o,i,j,g2,ac,bc⟩ st2 ⟨sg2,h⟩
    dsimp only at h ⊢
    rcases h with ⟨z,rfl,hz⟩ | ⟨rfl,m2,hij2⟩
    ·exact wpS_pure ⟨sg2,z,rfl,hz⟩
    ·dsimp only
     refine wpS_bind (iy fun st3 sg3=>wpS_pure ⟨⟨sg3.kind.trans sg2.kind,sg3.arr.trans sg2.arr,sg3.pend.trans sg2.pend,sg3.fail.trans sg2.fail⟩,rfl,m2,hij2⟩)
theorem Gy (hL:LtAll prog w A E s κ ks)(T:Two κ a b)(L:iG κ a b)(ha:0 < a.size)(hb:0 < b.size)(F:∀ x∈a.toList,∀ y,b[0]?=some y->leK κ y x){st:SortSt}(hk:kindOf st=ks){Q:Array Keyed->SortSt->Prop}
  (h:∀ r st',SG st st'->Rs κ a b r->Q r st'):wpS (model prog w) A E s (jn a b) Q st:=by
 rw [Gw]
 obtain ⟨y,y1,y2,y3,y4⟩:=item T.kb hb
 refine wpS_bind (wpS_lift (wpAny_rule ⟨rfl,?_⟩))
 refine wpS_bind (bz y1 ?_)
 have m0:MI (leK κ) a.toList b.toList ([]:List Keyed) 0 0:=⟨by simp,.nil,fun x hx=>absurd hx (by simp)⟩
 have m:MI (leK κ) a.toList b.toList (#[y]:Array Keyed).toList 0 1:=by
  have:=At.pushB (out:=#[]) T m0 y4 fun z hz=>F z hz y y1
  exact this
 by_cases e1:1=b.size
 ·rw [if_pos (by simpa using e1)]
  exact wpS_pure (h _ st (SG.refl _) (vY T m e1))
 ·rw [if_neg (by simpa using e1)]
  by_cases e2:0+1=a.size
  ·rw [if_pos (by simpa using e2)]
   exact wpS_pure (h _ st (SG.refl _) (vZ T L m e2))
  ·rw [if_neg (by simpa using e2)]
   refine wpS_bind (wpS_get ?_)
   refine wpS_bind (wpS_mono (wpS_forRange (I:=fun x c st'=>SG st st'/\c.1=none/\At κ a b c.2.1 c.2.2.1 c.2.2.2.1/\1+x<=c.2.2.1+c.2.2.2.1)
    (Q:=fun c st'=>SG st st'/\∃ z,c.1=some z/\Rs κ a b z) ?_ ?_ ⟨SG.refl _,rfl,⟨m,by dsimp only;lia,by dsimp only;lia⟩,by dsimp only;lia⟩) ?_)
   ·rintro x ⟨c0,o,i,j,g⟩ st' _ hx ⟨sg,rfl,m',e⟩
    dsimp only at m' e ⊢
    refine wpS_mono (nC hL T L (sg.kind.trans hk) sg m') fun r st2 h2=>?_
    obtain ⟨sg2,h2⟩:=h2
    cases r with
    | done c=>exact ⟨sg2,h2⟩
    | yield c =>
     obtain ⟨h2,h3,h4⟩:=h2
     exact ⟨sg2,h2,h3,by lia⟩
   ·rintro c st' ⟨sg,h1,m',e⟩
    have:=m'.ha
    have:=m'.hb
    exact absurd e (by lia)
   ·rintro ⟨c0,o,i,j,g⟩ st' ⟨sg,z,e,hz⟩
    dsimp only at e
    rw [e]
    exact wpS_pure (h z st' sg hz)
end
end Srt

namespace Srt
open PySem PyProof.Rows
def ju:Array Keyed->Array Keyed->Sm (Array Keyed):=sortPriv% PySem.Builtin.mergeHi
namespace Hi
abbrev dn (a b out:Array Keyed)(na nb:Nat):Array Keyed:=a.extract 0 na++b.extract 0 nb++out.reverse
abbrev fb (a b out:Array Keyed)(na nb:Nat):Array Keyed:=b.extract 0 nb++a.extract 0 na++out.reverse
abbrev H1:=Option (Array Keyed)×Nat×Nat×Array Keyed×Nat×Nat
abbrev H2:=Option (Array Keyed)×Nat×Nat×Array Keyed×Nat×Nat×Nat
abbrev H0:=Option (Array Keyed)×Nat×Nat×Array Keyed×Nat
def one (a b:Array Keyed)(g:Nat)(na nb:Nat)(out:Array Keyed)(ac bc:Nat):Sm (ForInStep H1):=do
 let y <- elem' b (nb - 1)
 let x <- elem' a (na - 1)
 let r <- lt' y x
 match r with
 | some w =>
  if w=true then do
   let x <- elem' a (na - 1)
   if (na - 1 == 0)=true then pure (ForInStep.done (some (dn a b (out.push x) (na - 1) nb),na - 1,nb,out.push x,ac+1,0))
   else if ac+1 ≥ g then pure (ForInStep.done (none,na - 1,nb,out.push x,ac+1,0)) else pure (ForInStep.yield (none,na - 1,nb,out.push x,ac+1,0))
  else do
   let y <- elem' b (nb - 1)
   if (nb - 1 == 1)=true then pure (ForInStep.done (some (fb a b (out.push y) na (nb - 1)),na,nb - 1,out.push y,0,bc+1))
   else if bc+1 ≥ g then pure (ForInStep.done (none,na,nb - 1,out.push y,0,bc+1)) else pure (ForInStep.yield (none,na,nb - 1,out.push y,0,bc+1))
 | _=>pure (ForInStep.done (some (dn a b out na nb),na,nb,out,ac,bc))
def gl4 (a b:Array Keyed)(na nb:Nat)(out:Array Keyed)(g k k1:Nat):Sm (ForInStep H2):=do
 let x <- elem' a (na - 1)
 if (na - 1 == 0)=true then pure (ForInStep.done (some (dn a b (out.push x) (na - 1) nb),na - 1,nb,out.push x,g,k,k1))
 else if (decide (k < 7) && decide (k1 < 7))=true then pure (ForInStep.done (none,na - 1,nb,out.push x,g,k,k1)) else pure (ForInStep.yield (none,na - 1,nb,out.push x,g,k,k1))
def gl3 (a b:Array Keyed)(na nb:Nat)(out:Array Keyed)(g k bc:Nat):Sm (ForInStep H2):=do
 let x <- elem' a (na - 1)
 let r <- fu true x b 0 nb (nb - 1)
 match r with
 | some t =>
  if nb - t > 0 then
   if (t == 1)=true then pure (ForInStep.done (some (fb a b (out++(b.extract t nb).reverse) na t),na,t,out++(b.extract t nb).reverse,g,k,nb - t))
   else if (t == 0)=true then pure (ForInStep.done (some (dn a b (out++(b.extract t nb).reverse) na t),na,t,out++(b.extract t nb).reverse,g,k,nb - t))
   else gl4 a b na t (out++(b.extract t nb).reverse) g k (nb - t)
  else gl4 a b na nb out g k (nb - t)
 | _=>pure (ForInStep.done (some (dn a b out na nb),na,nb,out,g,k,bc))
def gl2 (a b:Array Keyed)(na nb:Nat)(out:Array Keyed)(g k bc:Nat):Sm (ForInStep H2):=do
 let y <- elem' b (nb - 1)
 if (nb - 1 == 1)=true then pure (ForInStep.done (some (fb a b (out.push y) na (nb - 1)),na,nb - 1,out.push y,g,k,bc))
 else gl3 a b na (nb - 1) (out.push y) g k bc
def gl1 (a b:Array Keyed)(na nb:Nat)(out:Array Keyed)(g ac bc:Nat):Sm (ForInStep H2):=do
 jo g
 let y <- elem' b (nb - 1)
 let r <- fu false y a 0 na (na - 1)
 match r with
 | some t =>
  if na - t > 0 then
   if (t == 0)=true then pure (ForInStep.done (some (dn a b (out++(a.extract t na).reverse) t nb),t,nb,out++(a.extract t na).reverse,g,na - t,bc))
   else gl2 a b t nb (out++(a.extract t na).reverse) g (na - t) bc
  else gl2 a b na nb out g (na - t) bc
 | _=>pure (ForInStep.done (some (dn a b out na nb),na,nb,out,g,ac,bc))
def gal (a b:Array Keyed)(na nb:Nat)(out:Array Keyed)(g ac bc:Nat):Sm (ForInStep H2):=if g > 1 then gl1 a b na nb out (g - 1) ac bc else gl1 a b na nb out g ac bc
def round (a b:Array Keyed)(na nb:Nat)(out:Array Keyed)(g:Nat):Sm (ForInStep H0):=do
 let c <- forIn [0:a.size+b.size] ((none,na,nb,out,0,0):H1) fun _ c=>one a b g c.2.1 c.2.2.1 c.2.2.2.1 c.2.2.2.2.1 c.2.2.2.2.2
 match c.1 with
 | some r=>pure (ForInStep.done (some r,c.2.1,c.2.2.1,c.2.2.2.1,g))
 | none=>do
  liftM (rule "list.sort.gallop")
  let d <- forIn [0:a.size+b.size] ((none,c.2.1,c.2.2.1,c.2.2.2.1,g+1,c.2.2.2.2.1,c.2.2.2.2.2):H2) fun _ d=>gal a b d.2.1 d.2.2.1 d.2.2.2.1 d.2.2.2.2.1 d.2.2.2.2.2.1 d.2.2.2.2.2.2
  match d.1 with
  | some r=>pure (ForInStep.done (some r,d.2.1,d.2.2.1,d.2.2.2.1,d.2.2.2.2.1))
  | none=>do
   jo (d.2.2.2.2.1+1)
   pure (ForInStep.yield (none,d.2.1,d.2.2.1,d.2.2.2.1,d.2.2.2.2.1+1))
theorem Gz (a b:Array Keyed):ju a b=(do
  liftM (rule "list.sort.merge-hi")
  let e <- elem' a (a.size - 1)
  if (a.size - 1 == 0)=true then pure (dn a b #[e] (a.size - 1) b.size)
  else if (b.size == 1)=true then pure (fb a b #[e] (a.size - 1) b.size)
  else do
   let s <- get
   let c <- forIn [0:a.size+b.size] ((none,a.size - 1,b.size,#[e],gallopOf s):H0) fun _ c=>round a b c.2.1 c.2.2.1 c.2.2.2.1 c.2.2.2.2
   match c.1 with
   | some r=>pure r
   | none=>liftM (unsupported "internal:list.sort.merge-bound")):=by
 delta ju
 refine bc rfl (funext fun u=>bc rfl (funext fun e=>ic rfl (ic rfl (bc rfl (funext fun s=>bc (fi (funext fun x=>funext fun c=>?_)) (funext fun c=>?_))))))
 ·unfold round
  refine bc (fi (funext fun x=>funext fun c1=>?_)) (funext fun c1=>?_)
  ·unfold one
   refine bc rfl (funext fun y=>bc rfl (funext fun x=>bc rfl (funext fun r=>?_)))
   cases r with
   | none=>rfl
   | some w=>exact ic (bc rfl (funext fun y=>ic rfl (ic rfl rfl))) (bc rfl (funext fun y=>ic rfl (ic rfl rfl)))
  ·obtain ⟨r,c1⟩:=c1
   cases r with
   | some r=>rfl
   | none =>
    refine bc rfl (funext fun u=>bc (fi (funext fun x=>funext fun d=>?_)) (funext fun d=>?_))
    ·unfold gal
     refine ic ?_ ?_
     ·unfold gl1;exact bc rfl (funext fun u=>bc rfl (funext fun y=>bc rfl (funext fun r=>by cases r with | none=>rfl | some k=>exact ic (ic rfl (by unfold gl2;exact bc rfl (funext fun y=>ic rfl (by unfold gl3;exact bc rfl (funext fun x=>bc rfl (funext fun r=>by cases r with | none=>rfl | some k1=>exact ic (ic rfl (ic rfl (by unfold gl4;exact bc rfl (funext fun x=>ic rfl (ic rfl rfl))))) (by unfold gl4;exact bc rfl (funext fun x=>ic rfl (ic rfl rfl))))))))) (by unfold gl2;exact bc rfl (funext fun y=>ic rfl (by unfold gl3;exact bc rfl (funext fun x=>bc rfl (funext fun r=>by cases r with | none=>rfl | some k1=>exact ic (ic rfl (ic rfl (by unfold gl4;exact bc rfl (funext fun x=>ic rfl (ic rfl rfl))))) (by unfold gl4;exact bc rfl (funext fun x=>ic rfl (ic rfl rfl)))))))))))
     ·unfold gl1;exact bc rfl (funext fun u=>bc rfl (funext fun y=>bc rfl (funext fun r=>by cases r with | none=>rfl | some k=>exact ic (ic rfl (by unfold gl2;exact bc rfl (funext fun y=>ic rfl (by unfold gl3;exact bc rfl (funext fun x=>bc rfl (funext fun r=>by cases r with | none=>rfl | some k1=>exact ic (ic rfl (ic rfl (by unfold gl4;exact bc rfl (funext fun x=>ic rfl (ic rfl rfl))))) (by unfold gl4;exact bc rfl (funext fun x=>ic rfl (ic rfl rfl))))))))) (by unfold gl2;exact bc rfl (funext fun y=>ic rfl (by unfold gl3;exact bc rfl (funext fun x=>bc rfl (funext fun r=>by cases r with | none=>rfl | some k1=>exact ic (ic rfl (ic rfl (by unfold gl4;exact bc rfl (funext fun x=>ic rfl (ic rfl rfl))))) (by unfold gl4;exact bc rfl (funext fun x=>ic rfl (ic rfl rfl)))))))))))
    ·obtain ⟨r,d⟩:=d
     cases r <;> rfl
 ·obtain ⟨r,c⟩:=c
  cases r <;> rfl
section
variable {α:Type}{le:α->α->Prop}
structure MH (le:α->α->Prop)(la lb lo:List α)(na nb:Nat):Prop where
 pm:lo.Perm (la.drop na++lb.drop nb)
 sr:lo.Pairwise le
 be:∀ x∈lo,∀ y,y∈la.take na\/y∈lb.take nb->le y x
theorem wg {l:List α}{i j:Nat}{y:α}(h:i<=j)(hy:y∈l.take i):y∈l.take j:=by
 rw [show i=min i j by lia,<- List.take_take] at hy
 exact List.mem_of_mem_take hy
theorem cut_drop {l:List α}{t n:Nat}(h:t<=n)(hn:n<=l.length):(l.take n).drop t++l.drop n=l.drop t:=by
 have e:=List.take_append_drop n l
 have:(l.take n++l.drop n).drop t=(l.take n).drop t++l.drop n:=List.drop_append_of_le_length (by rw [zAd];lia)
 rw [e] at this
 exact this.symm
theorem zB {l:List α}(hp:l.Pairwise le){t n:Nat}(h:t<=n):∀ y∈l.take t,∀ x∈(l.take n).drop t,le y x:=by
 have h2:(l.take n).Pairwise le:=hp.sublist (List.take_sublist _ _)
 have e:=List.take_append_drop t (l.take n)
 rw [<- e] at h2
 rw [List.take_take,show min t n=t by lia] at h2
 exact fun y hy x hx=>(List.pairwise_append.mp h2).2.2 y hy x hx
theorem MH.segA {la lb lo:List α}{na nb t:Nat}(m:MH le la lb lo na nb)(sa:la.Pairwise le)(ht:t<=na)(hn:na<=la.length)(h:∀ x∈(la.take na).drop t,∀ y∈lb.take nb,le y x):MH le la lb ((la.take na).drop t++lo) t nb:=by
 refine ⟨?_,List.pairwise_append.mpr ⟨(sa.sublist (List.take_sublist _ _)).sublist (List.drop_sublist _ _),m.sr,fun x hx y hy=>m.be y hy x (.inl (List.mem_of_mem_drop hx))⟩,fun x hx y hy=>?_⟩
 ·refine (List.Perm.append_left _ m.pm).trans ?_
  rw [<- zAf,cut_drop ht hn]
 ·rcases zA6.mp hx with z | z
  ·rcases hy with hy | hy
   ·exact zB sa ht y hy x z
   ·exact h x z y hy
  ·exact m.be x z y (hy.imp (wg ht) id)
theorem MH.segB {la lb lo:List α}{na nb t:Nat}(m:MH le la lb lo na nb)(sb:lb.Pairwise le)(ht:t<=nb)(hn:nb<=lb.length)(h:∀ x∈(lb.take nb).drop t,∀ y∈la.take na,le y x):MH le la lb ((lb.take nb).drop t++lo) na t:=by
 refine ⟨?_,List.pairwise_append.mpr ⟨(sb.sublist (List.take_sublist _ _)).sublist (List.drop_sublist _ _),m.sr,fun x hx y hy=>m.be y hy x (.inr (List.mem_of_mem_drop hx))⟩,fun x hx y hy=>?_⟩
 ·refine (List.Perm.append_left _ m.pm).trans ?_
  refine (List.perm_append_comm_assoc _ _ _).trans ?_
  rw [cut_drop ht hn]
 ·rcases zA6.mp hx with z | z
  ·rcases hy with hy | hy
   ·exact h x z y hy
   ·exact zB sb ht y hy x z
  ·exact m.be x z y (hy.imp id (wg ht))
theorem MH.first {la lb lo:List α}{na nb:Nat}(m:MH le la lb lo na nb)(sa:la.Pairwise le)(sb:lb.Pairwise le)(h:∀ y∈lb.take nb,∀ x∈la.take na,le y x):Done le la lb (lb.take nb++la.take na++lo):=by
 refine ⟨?_,List.pairwise_append.mpr ⟨List.pairwise_append.mpr ⟨sb.sublist (List.take_sublist _ _),sa.sublist (List.take_sublist _ _),h⟩,m.sr,fun x hx y hy=>m.be y hy x ((zA6.mp hx).symm)⟩⟩
 refine (List.Perm.append_left _ m.pm).trans ?_
 have e:lb.take nb++la.take na++(la.drop na++lb.drop nb)=lb.take nb++(la++lb.drop nb):=by
  rw [zAf,<- zAf (la.take na),List.take_append_drop]
 rw [e]
 refine (List.perm_append_comm_assoc _ _ _).trans ?_
 rw [List.take_append_drop]
theorem MH.endA {la lb lo:List α}{nb:Nat}(m:MH le la lb lo 0 nb)(sa:la.Pairwise le)(sb:lb.Pairwise le):Done le la lb (la.take 0++lb.take nb++lo):=by
 have:=m.first sa sb fun y _ x hx=>absurd hx (by simp)
 rw [List.take_zero,zAn] at this
 rw [List.take_zero,List.nil_append]
 exact this
theorem MH.endB {la lb lo:List α}{na:Nat}(m:MH le la lb lo na 0)(sa:la.Pairwise le)(sb:lb.Pairwise le):Done le la lb (la.take na++lb.take 0++lo):=by
 have:=m.first sa sb fun y hy x _=>absurd hy (by simp)
 rw [List.take_zero,List.nil_append] at this
 rw [List.take_zero,zAn]
 exact this
end
section
variable {prog:Program}{w:World}{A:Around}{E:Value->Shared->Prop}{s:Shared}{κ:PyProof.Rows.KeyKind}{ks:SortKind}{a b:Array Keyed}
theorem xR (a:Array Keyed)(n:Nat):(a.extract 0 n).toList=a.toList.take n:=by
 rw [fQ]
 simp
theorem ext_cut (a:Array Keyed)(t n:Nat):(a.extract t n).toList=(a.toList.take n).drop t:=by
 rw [fQ,List.drop_take]
theorem tu (out:Array Keyed)(x:Keyed):(out.push x).reverse.toList=x::out.reverse.toList:=by simp
theorem wj (out seg:Array Keyed):(out++seg.reverse).reverse.toList=seg.toList++out.reverse.toList:=by simp
abbrev Mh (κ:PyProof.Rows.KeyKind)(a b out:Array Keyed)(na nb:Nat):Prop:=MH (leK κ) a.toList b.toList out.reverse.toList na nb
structure At (κ:PyProof.Rows.KeyKind)(a b out:Array Keyed)(na nb:Nat):Prop where
 mi:Mh κ a b out na nb
 a1:1<=na
 a2:na<=a.size
 b1:2<=nb
 b2:nb<=b.size
theorem gn {κ:PyProof.Rows.KeyKind}{a:Array Keyed}(ka:KeysOf κ a){n:Nat}(h1:1<=n)(h2:n<=a.size):∃ p,a[n - 1]?=some p/\κ.keyOf p.1=some (key κ p)/\KK κ a (n - 1)=key κ p/\(a.toList.take n).drop (n - 1)=[p]:=by
 obtain ⟨p,p1,p2,p3,p4⟩:=item ka (i:=n - 1) (by lia)
 refine ⟨p,p1,p2,p3,?_⟩
 rw [List.drop_take,p4,show n - (n - 1)=1 by lia]
 rfl
theorem take_key {κ:PyProof.Rows.KeyKind}{a:Array Keyed}(ka:KeysOf κ a){n t:Nat}{x:Keyed}(h:x∈(a.toList.take n).drop t):∃ j,t<=j/\j < n/\j < a.size/\KK κ a j=key κ x:=by
 rw [List.drop_take] at h
 obtain ⟨j,j1,j2,j3⟩:=jr ka h
 exact ⟨t+j,by lia,by lia,j2,j3⟩
theorem take_key0 {κ:PyProof.Rows.KeyKind}{a:Array Keyed}(ka:KeysOf κ a){n:Nat}{x:Keyed}(h:x∈a.toList.take n):∃ j,j < n/\j < a.size/\KK κ a j=key κ x:=by
 have h':x∈(a.toList.take n).drop 0:=by rw [List.drop_zero];exact h
 obtain ⟨j,_,j1,j2,j3⟩:=take_key ka h'
 exact ⟨j,j1,j2,j3⟩
theorem wk {κ:PyProof.Rows.KeyKind}{a:Array Keyed}(ka:KeysOf κ a)(sa:a.toList.Pairwise (leK κ)){n:Nat}{p:Keyed}(h1:1<=n)(h2:n<=a.size)(e:KK κ a (n - 1)=key κ p):∀ y∈a.toList.take n,leK κ y p:=fun y hy=>by
 obtain ⟨j,j1,j2,j3⟩:=take_key0 ka hy
 have:=jt ka sa (i:=j) (j:=n - 1) (by lia) (by lia)
 rw [j3,e] at this
 exact this
theorem pushA {out:Array Keyed}{na nb:Nat}{x:Keyed}(T:Two κ a b)(m:Mh κ a b out na nb)(h1:1<=na)(h2:na<=a.size)(e:(a.toList.take na).drop (na - 1)=[x])(h:∀ y∈b.toList.take nb,leK κ y x):Mh κ a b (out.push x) (na - 1) nb:=by
 have:=MH.segA (t:=na - 1) m T.sa (by lia) (by rw [zA9];exact h2) fun z hz y hy=>by
  rw [e] at hz
  rw [List.mem_singleton.mp hz]
  exact h y hy
 rw [e] at this
 unfold Mh
 rw [tu]
 exact this
theorem pushB {out:Array Keyed}{na nb:Nat}{x:Keyed}(T:Two κ a b)(m:Mh κ a b out na nb)(h1:1<=nb)(h2:nb<=b.size)(e:(b.toList.take nb).drop (nb - 1)=[x])(h:∀ y∈a.toList.take na,leK κ y x):Mh κ a b (out.push x) na (nb - 1):=by
 have:=MH.segB (t:=nb - 1) m T.sb (by lia) (by rw [zA9];exact h2) fun z hz y hy=>by
  rw [e] at hz
  rw [List.mem_singleton.mp hz]
  exact h y hy
 rw [e] at this
 unfold Mh
 rw [tu]
 exact this
theorem GC {out:Array Keyed}{na nb t:Nat}(T:Two κ a b)(m:Mh κ a b out na nb)(ht:t<=na)(h2:na<=a.size)(h:∀ x∈(a.toList.take na).drop t,∀ y∈b.toList.take nb,leK κ y x):Mh κ a b (out++(a.extract t na).reverse) t nb:=by
 have:=MH.segA m T.sa ht (by rw [zA9];exact h2) h
 unfold Mh
 rw [wj,ext_cut]
 exact this
theorem GD {out:Array Keyed}{na nb t:Nat}(T:Two κ a b)(m:Mh κ a b out na nb)(ht:t<=nb)(h2:nb<=b.size)(h:∀ x∈(b.toList.take nb).drop t,∀ y∈a.toList.take na,leK κ y x):Mh κ a b (out++(b.extract t nb).reverse) na t:=by
 have:=MH.segB m T.sb ht (by rw [zA9];exact h2) h
 unfold Mh
 rw [wj,ext_cut]
 exact this
def FirstB (κ:PyProof.Rows.KeyKind)(a b:Array Keyed):Prop:=∀ y∈b.toList.take 1,∀ x∈a.toList,leK κ y x
theorem e_a {out:Array Keyed}{na nb:Nat}(T:Two κ a b)(m:Mh κ a b out na nb)(h:na=0):Rs κ a b (dn a b out na nb):=by
 subst h
 have:=MH.endA m T.sa T.sb
 unfold Rs dn
 rw [Array.toList_append,Array.toList_append,xR,xR]
 exact this
theorem e_b {out:Array Keyed}{na nb:Nat}(T:Two κ a b)(m:Mh κ a b out na nb)(h:nb=0):Rs κ a b (dn a b out na nb):=by
 subst h
 have:=MH.endB m T.sa T.sb
 unfold Rs dn
 rw [Array.toList_append,Array.toList_append,xR,xR]
 exact this
theorem e_f {out:Array Keyed}{na nb:Nat}(T:Two κ a b)(F:FirstB κ a b)(m:Mh κ a b out na nb)(h:nb=1):Rs κ a b (fb a b out na nb):=by
 subst h
 have:=MH.first m T.sa T.sb fun y hy x hx=>F y hy x (List.mem_of_mem_take hx)
 unfold Rs fb
 rw [Array.toList_append,Array.toList_append,xR,xR]
 exact this
theorem uQ (hL:LtAll prog w A E s κ ks)(T:Two κ a b)(F:FirstB κ a b){g na nb ac bc:Nat}{out:Array Keyed}{st:SortSt}(hk:kindOf st=ks)(m:At κ a b out na nb) :
  wpS (model prog w) A E s (one a b g na nb out ac bc) (fun r st'=>st'=st/\match r with
   | .done c=>(∃ z,c.1=some z/\Rs κ a b z)\/(c.1=none/\At κ a b c.2.2.2.1 c.2.1 c.2.2.1/\c.2.1+c.2.2.1+1=na+nb)
   | .yield c=>c.1=none/\At κ a b c.2.2.2.1 c.2.1 c.2.2.1/\c.2.1+c.2.2.1+1=na+nb) st:=by
 obtain ⟨mi,a1,a2,b1,b2⟩:=m
 obtain ⟨x,x1,x2,x3,x4⟩:=gn T.ka a1 a2
 obtain ⟨y,y1,y2,y3,y4⟩:=gn T.kb (show 1<=nb by lia) b2
 unfold one
 refine wpS_bind (bz y1 (wpS_bind (bz x1 (wpS_bind (hL st hk _ _ _ _ _ y2 x2 ?_)))))
 cases e:κ.blt (key κ y) (key κ x) with
 | true =>
  dsimp only
  rw [if_pos rfl]
  refine wpS_bind (bz x1 ?_)
  have m':=pushA T mi a1 a2 x4 fun z hz=>dq (wk T.kb T.sb (by lia) b2 y3 z hz) (KeyOrd.kle_of_klt e)
  by_cases h0:na - 1=0
  ·rw [if_pos (by simpa using h0)]
   exact wpS_pure ⟨rfl,.inl ⟨_,rfl,e_a T m' h0⟩⟩
  ·rw [if_neg (by simpa using h0)]
   have at':At κ a b (out.push x) (na - 1) nb:=⟨m',by lia,by lia,b1,b2⟩
   split
   ·exact wpS_pure ⟨rfl,.inr ⟨rfl,at',by dsimp only;lia⟩⟩
   ·exact wpS_pure ⟨rfl,rfl,at',by dsimp only;lia⟩
 | false =>
  dsimp only
  rw [if_neg (by decide)]
  refine wpS_bind (bz y1 ?_)
  have m':=pushB T mi (by lia) b2 y4 fun z hz=>dq (wk T.ka T.sa a1 a2 x3 z hz) (show leK κ x y from e)
  by_cases h0:nb - 1=1
  ·rw [if_pos (by simpa using h0)]
   exact wpS_pure ⟨rfl,.inl ⟨_,rfl,e_f T F m' h0⟩⟩
  ·rw [if_neg (by simpa using h0)]
   have at':At κ a b (out.push y) na (nb - 1):=⟨m',a1,a2,by lia,by lia⟩
   split
   ·exact wpS_pure ⟨rfl,.inr ⟨rfl,at',by dsimp only;lia⟩⟩
   ·exact wpS_pure ⟨rfl,rfl,at',by dsimp only;lia⟩
def G2 (κ:PyProof.Rows.KeyKind)(a b:Array Keyed)(n:Nat)(st:SortSt)(r:ForInStep H2)(st':SortSt):Prop:=SG st st'/\match r with
 | .done c=>(∃ z,c.1=some z/\Rs κ a b z)\/(c.1=none/\At κ a b c.2.2.2.1 c.2.1 c.2.2.1/\c.2.1+c.2.2.1 < n)
 | .yield c=>c.1=none/\At κ a b c.2.2.2.1 c.2.1 c.2.2.1/\c.2.1+c.2.2.1 < n
theorem nu (T:Two κ a b){g na nb k k1 n:Nat}{out:Array Keyed}{st0 st:SortSt}(sg:SG st0 st)(m:At κ a b out na nb)(hn:na+nb<=n)(h:∀ y∈b.toList.take nb,∀ x,a[na - 1]?=some x->leK κ y x) :
  wpS (model prog w) A E s (gl4 a b na nb out g k k1) (G2 κ a b n st0) st:=by
 obtain ⟨mi,a1,a2,b1,b2⟩:=m
 obtain ⟨x,x1,x2,x3,x4⟩:=gn T.ka a1 a2
 unfold gl4
 refine wpS_bind (bz x1 ?_)
 have m':=pushA T mi a1 a2 x4 fun z hz=>h z hz x x1
 by_cases h0:na - 1=0
 ·rw [if_pos (by simpa using h0)]
  exact wpS_pure ⟨sg,.inl ⟨_,rfl,e_a T m' h0⟩⟩
 ·rw [if_neg (by simpa using h0)]
  have at':At κ a b (out.push x) (na - 1) nb:=⟨m',by lia,by lia,b1,b2⟩
  split
  ·exact wpS_pure ⟨sg,.inr ⟨rfl,at',by dsimp only;lia⟩⟩
  ·exact wpS_pure ⟨sg,rfl,at',by dsimp only;lia⟩
theorem uR (hL:LtAll prog w A E s κ ks)(T:Two κ a b)(F:FirstB κ a b){g na nb k bc n:Nat}{out:Array Keyed}{st0 st:SortSt}(hk:kindOf st=ks)(sg:SG st0 st)(m:At κ a b out na nb)(hn:na+nb<=n) :
  wpS (model prog w) A E s (gl3 a b na nb out g k bc) (G2 κ a b n st0) st:=by
 obtain ⟨mi,a1,a2,b1,b2⟩:=id m
 obtain ⟨x,x1,x2,x3,x4⟩:=gn T.ka a1 a2
 unfold gl3
 refine wpS_bind (bz x1 ?_)
 refine wpS_bind (dH (κ:=κ) (kk:=key κ x) (hL st hk) x2 (by lia) (fun i hi=>?_) (fun i j hij hj hbj=>?_) fun t kn kt kf=>?_)
 ·obtain ⟨p,p1,p2,p3,_⟩:=item T.kb (i:=0+i) (by lia)
  exact ⟨p,_,p1,p2,p3⟩
 ·have mono:=jt T.kb T.sb (i:=0+i) (j:=0+j) (by lia) (by lia)
  exact KeyOrd.klt_of_kle_of_klt mono hbj
 ·have early:∀ y∈b.toList.take t,∀ z,a[na - 1]?=some z->leK κ y z:=fun y hy z hz=>by
   rw [x1] at hz
   cases hz
   obtain ⟨j,j1,j2,j3⟩:=take_key0 T.kb hy
   have:=kt j j1
   rw [Nat.zero_add,j3] at this
   exact KeyOrd.kle_of_klt this
  by_cases h0:nb - t > 0
  ·dsimp only
   rw [if_pos h0]
   have m':=GD T mi (show t<=nb by lia) b2 fun z hz y hy=>by
    obtain ⟨j,j1,j2,j3,j4⟩:=take_key T.kb hz
    have:=kf j j1 j2
    rw [Nat.zero_add,j4] at this
    exact dq (wk T.ka T.sa a1 a2 x3 y hy) (show leK κ x z from this)
   by_cases e:t=1
   ·rw [if_pos (by simpa using e)]
    exact wpS_pure ⟨sg,.inl ⟨_,rfl,e_f T F m' e⟩⟩
   ·rw [if_neg (by simpa using e)]
    by_cases e2:t=0
    ·rw [if_pos (by simpa using e2)]
     exact wpS_pure ⟨sg,.inl ⟨_,rfl,e_b T m' e2⟩⟩
    ·rw [if_neg (by simpa using e2)]
     exact nu T sg ⟨m',a1,a2,by lia,by lia⟩ (by lia) early
  ·dsimp only
   rw [if_neg h0]
   have e:t=nb:=by lia
   rw [e] at early
   exact nu T sg m hn early
theorem nA (hL:LtAll prog w A E s κ ks)(T:Two κ a b)(F:FirstB κ a b){g na nb k bc n:Nat}{out:Array Keyed}{st0 st:SortSt}(hk:kindOf st=ks)(sg:SG st0 st)(m:At κ a b out na nb)(hn:na+nb<=n)(h:∀ x∈a.toList.take na,∀ y,b[nb - 1]?=some y->leK κ x y) :
  wpS (model prog w) A E s (gl2 a b na nb out g k bc) (G2 κ a b n st0) st:=by
 obtain ⟨mi,a1,a2,b1,b2⟩:=m
 obtain ⟨y,y1,y2,y3,y4⟩:=gn T.kb (show 1<=nb by lia) b2
 unfold gl2
 refine wpS_bind (bz y1 ?_)
 have m':=pushB T mi (by lia) b2 y4 fun z hz=>h z hz y y1
 by_cases h0:nb - 1=1
 ·rw [if_pos (by simpa using h0)]
  exact wpS_pure ⟨sg,.inl ⟨_,rfl,e_f T F m' h0⟩⟩
 ·rw [if_neg (by simpa using h0)]
  exact uR hL T F hk sg ⟨m',a1,a2,by lia,by lia⟩ (by lia)
theorem uT (hL:LtAll prog w A E s κ ks)(T:Two κ a b)(F:FirstB κ a b){g na nb ac bc n:Nat}{out:Array Keyed}{st0 st:SortSt}(hk:kindOf st=ks)(sg:SG st0 st)(m:At κ a b out na nb)(hn:na+nb<=n) :
  wpS (model prog w) A E s (gl1 a b na nb out g ac bc) (G2 κ a b n st0) st:=by
 obtain ⟨mi,a1,a2,b1,b2⟩:=id m
 obtain ⟨y,y1,y2,y3,y4⟩:=gn T.kb (show 1<=nb by lia) b2
 unfold gl1
 refine wpS_bind (iy fun st' sg'=>?_)
 have hk':kindOf st'=ks:=sg'.kind.trans hk
 have sg2:SG st0 st':=⟨sg'.kind.trans sg.kind,sg'.arr.trans sg.arr,sg'.pend.trans sg.pend,sg'.fail.trans sg.fail⟩
 refine wpS_bind (bz y1 ?_)
 refine wpS_bind (dH (κ:=κ) (kk:=key κ y) (hL st' hk') y2 (by lia) (fun i hi=>?_) (fun i j hij hj hbj=>?_) fun t kn kt kf=>?_)
 ·obtain ⟨p,p1,p2,p3,_⟩:=item T.ka (i:=0+i) (by lia)
  exact ⟨p,_,p1,p2,p3⟩
 ·have mono:=jt T.ka T.sa (i:=0+i) (j:=0+j) (by lia) (by lia)
  have hbj:(!κ.blt (key κ y) (KK κ a (0+j)))=true:=hbj
  show (!κ.blt (key κ y) (KK κ a (0+i)))=true
  rw [Bool.not_eq_true'] at hbj ⊢
  exact KeyOrd.kle_trans mono hbj
 ·have early:∀ x∈a.toList.take t,∀ z,b[nb - 1]?=some z->leK κ x z:=fun x hx z hz=>by
   rw [y1] at hz
   cases hz
   obtain ⟨j,j1,j2,j3⟩:=take_key0 T.ka hx
   have:=kt j j1
   rw [Nat.zero_add,j3] at this
   have this:(!κ.blt (key κ y) (key κ x))=true:=this
   rw [Bool.not_eq_true'] at this
   exact this
  by_cases h0:na - t > 0
  ·dsimp only
   rw [if_pos h0]
   have m':=GC T mi (show t<=na by lia) a2 fun z hz x hx=>by
    obtain ⟨j,j1,j2,j3,j4⟩:=take_key T.ka hz
    have:=kf j j1 j2
    rw [Nat.zero_add,j4] at this
    have this:(!κ.blt (key κ y) (key κ z))=false:=this
    rw [Bool.not_eq_false'] at this
    exact dq (wk T.kb T.sb (by lia) b2 y3 x hx) (KeyOrd.kle_of_klt this)
   by_cases e:t=0
   ·rw [if_pos (by simpa using e)]
    exact wpS_pure ⟨sg2,.inl ⟨_,rfl,e_a T m' e⟩⟩
   ·rw [if_neg (by simpa using e)]
    exact nA hL T F hk' sg2 ⟨m',by lia,by lia,b1,b2⟩ (by lia) early
  ·dsimp only
   rw [if_neg h0]
   have e:t=na:=by lia
   rw [e] at early
   exact nA hL T F hk' sg2 m hn early
theorem nC (hL:LtAll prog w A E s κ ks)(T:Two κ a b)(F:FirstB κ a b){g na nb:Nat}{out:Array Keyed}{st0 st:SortSt}(hk:kindOf st=ks)(sg:SG st0 st)(m:At κ a b out na nb) :
  wpS (model prog w) A E s (round a b na nb out g) (fun r st'=>SG st0 st'/\match r with
   | .done c=>∃ z,c.1=some z/\Rs κ a b z
   | .yield c=>c.1=none/\At κ a b c.2.2.2.1 c.2.1 c.2.2.1/\c.2.1+c.2.2.1 < na+nb) st:=by
 unfold round
 have tot:0 < a.size+b.size:=by
  have:=m.a1
  have:=m.a2
  lia
 refine wpS_bind (wpS_mono (wpS_forRange (I:=fun x c st'=>st'=st/\c.1=none/\At κ a b c.2.2.2.1 c.2.1 c.2.2.1/\c.2.1+c.2.2.1+x=na+nb)
  (Q:=fun c st'=>st'=st/\((∃ z,c.1=some z/\Rs κ a b z)\/(c.1=none/\At κ a b c.2.2.2.1 c.2.1 c.2.2.1/\c.2.1+c.2.2.1 < na+nb))) ?_ ?_ ⟨rfl,rfl,m,rfl⟩) ?_)
 ·rintro x ⟨c0,i,j,o,ac,bc⟩ st' _ hx ⟨rfl,rfl,m',e⟩
  dsimp only at m' e ⊢
  refine wpS_mono (uQ hL T F hk m') fun r st2 h2=>?_
  obtain ⟨rfl,h2⟩:=h2
  cases r with
  | done c =>
   rcases h2 with h2 | ⟨h2,h3,h4⟩
   ·exact ⟨rfl,.inl h2⟩
   ·exact ⟨rfl,.inr ⟨h2,h3,by lia⟩⟩
  | yield c =>
   obtain ⟨h2,h3,h4⟩:=h2
   exact ⟨rfl,h2,h3,by lia⟩
 ·rintro c st' ⟨rfl,h1,h2,h3⟩
  exact ⟨rfl,.inr ⟨h1,h2,by lia⟩⟩
 ·rintro ⟨c0,i,j,o,ac,bc⟩ st' ⟨rfl,h⟩
  dsimp only at h ⊢
  rcases h with ⟨z,rfl,hz⟩ | ⟨rfl,m',hij⟩
  ·exact wpS_pure ⟨sg,z,rfl,hz⟩
  ·dsimp only
   refine wpS_bind (wpS_lift (wpAny_rule ⟨rfl,?_⟩))
   refine wpS_bind (wpS_mono (wpS_forRange (I:=fun x c st2=>SG st0 st2/\c.1=none/\At κ a b c.2.2.2.1 c.2.1 c.2.2.1/\c.2.1+c.2.2.1 < na+nb)
    (Q:=fun c st2=>SG st0 st2/\((∃ z,c.1=some z/\Rs κ a b z)\/(c.1=none/\At κ a b c.2.2.2.1 c.2.1 c.2.2.1/\c.2.1+c.2.2.1 < na+nb))) ?_ ?_ ⟨sg,rfl,m',hij⟩) ?_)
   ·rintro x ⟨c0,i,j,o,g2,ac,bc⟩ st2 _ hx ⟨sg2,rfl,m2,e2⟩
    dsimp only at m2 e2 ⊢
    have hk2:kindOf st2=ks:=sg2.kind.trans (sg.kind.symm.trans hk)
    have go:∀ g',wpS (model prog w) A E s (gl1 a b i j o g' ac bc) (G2 κ a b (na+nb) st0) st2:=fun g'=>uT hL T F hk2 sg2 m2 (by lia)
    unfold gal
    split
    ·refine wpS_mono (go _) fun r st3 h3=>?_
     obtain ⟨h3,h4⟩:=h3
     cases r with
     | done c=>exact ⟨h3,h4⟩
     | yield c=>exact ⟨h3,h4⟩
    ·refine wpS_mono (go _) fun r st3 h3=>?_
     obtain ⟨h3,h4⟩:=h3
     cases r with
     | done c=>exact ⟨h3,h4⟩
     | yield c=>exact ⟨h3,h4⟩
   ·rintro c st2 ⟨h0,h1,h2,h3⟩
    exact ⟨h0,.inr ⟨h1,h2,h3⟩⟩
   ·rintro ⟨c0,i,j,o,g2,ac,bc⟩ st2 ⟨sg2,h⟩
    dsimp only at h ⊢
    rcases h with ⟨z,rfl,hz⟩ | ⟨rfl,m2,hij2⟩
    ·exact wpS_pure ⟨sg2,z,rfl,hz⟩
    ·dsimp only
     refine wpS_bind (iy fun st3 sg3=>wpS_pure ⟨⟨sg3.kind.trans sg2.kind,sg3.arr.trans sg2.arr,sg3.pend.trans sg2.pend,sg3.fail.trans sg2.fail⟩,rfl,m2,hij2⟩)
theorem hi_wp (hL:LtAll prog w A E s κ ks)(T:Two κ a b)(L:iG κ a b)(F:FirstB κ a b)(ha:0 < a.size)(hb:0 < b.size){st:SortSt}(hk:kindOf st=ks){Q:Array Keyed->SortSt->Prop}
  (h:∀ r st',SG st st'->Rs κ a b r->Q r st'):wpS (model prog w) A E s (ju a b) Q st:=by
 rw [Gz]
 obtain ⟨x,x1,x2,x3,x4⟩:=gn T.ka (n:=a.size) ha (zA3 _)
 refine wpS_bind (wpS_lift (wpAny_rule ⟨rfl,?_⟩))
 refine wpS_bind (bz x1 ?_)
 have m0:Mh κ a b #[] a.size b.size:=by
  refine ⟨?_,List.Pairwise.nil,fun x hx=>absurd hx (by simp)⟩
  rw [List.drop_of_length_le (by rw [zA9];exact zA3 _),List.drop_of_length_le (by rw [zA9];exact zA3 _)]
  exact List.Perm.nil
 have m:Mh κ a b #[x] (a.size - 1) b.size:=pushA (out:=#[]) T m0 ha (zA3 _) x4 fun y hy=>L y (List.mem_of_mem_take hy) x (by
  rw [<- zA9,zAm,zA9] at x4
  rw [x4]
  exact List.mem_cons_self)
 by_cases e1:a.size - 1=0
 ·rw [if_pos (by simpa using e1)]
  exact wpS_pure (h _ st (SG.refl _) (e_a T m e1))
 ·rw [if_neg (by simpa using e1)]
  by_cases e2:b.size=1
  ·rw [if_pos (by simpa using e2)]
   exact wpS_pure (h _ st (SG.refl _) (e_f T F m e2))
  ·rw [if_neg (by simpa using e2)]
   refine wpS_bind (wpS_get ?_)
   refine wpS_bind (wpS_mono (wpS_forRange (I:=fun x c st'=>SG st st'/\c.1=none/\At κ a b c.2.2.2.1 c.2.1 c.2.2.1/\c.2.1+c.2.2.1+x < a.size+b.size)
    (Q:=fun c st'=>SG st st'/\∃ z,c.1=some z/\Rs κ a b z) ?_ ?_ ⟨SG.refl _,rfl,⟨m,by dsimp only;lia,by dsimp only;lia,by dsimp only;lia,Nat.le_refl _⟩,by dsimp only;lia⟩) ?_)
   ·rintro x ⟨c0,i,j,o,g⟩ st' _ hx ⟨sg,rfl,m',e⟩
    dsimp only at m' e ⊢
    refine wpS_mono (nC hL T F (sg.kind.trans hk) sg m') fun r st2 h2=>?_
    obtain ⟨sg2,h2⟩:=h2
    cases r with
    | done c=>exact ⟨sg2,h2⟩
    | yield c =>
     obtain ⟨h2,h3,h4⟩:=h2
     exact ⟨sg2,h2,h3,by lia⟩
   ·rintro c st' ⟨sg,h1,m',e⟩
    exact absurd e (by lia)
   ·rintro ⟨c0,i,j,o,g⟩ st' ⟨sg,z,e,hz⟩
    dsimp only at e
    rw [e]
    exact wpS_pure (h z st' sg hz)
end
end Hi
end Srt

namespace Srt
open PySem PyProof.Rows
def over (arr:Array Keyed)(n:Nat)(l:List Keyed):Array Keyed:=l.zipIdx.foldl (fun a p=>a.setIfInBounds (n+p.2) p.1) arr
theorem qU:∀ (l:List Keyed) (j n:Nat) (arr:Array Keyed),n+j+l.length<=arr.size ->
  (((l.zipIdx j).foldl (fun a p=>a.setIfInBounds (n+p.2) p.1) arr).size=arr.size/\∀ i,((l.zipIdx j).foldl (fun a p=>a.setIfInBounds (n+p.2) p.1) arr)[i]?=if n+j<=i/\i < n+j+l.length then l[i - (n+j)]? else arr[i]?)
 | [],j,n,arr,_=>by
  refine ⟨rfl,fun i=>?_⟩
  rw [if_neg (by rw [List.length_nil];lia)]
  rfl
 | p::l,j,n,arr,h=>by
  rw [zAe] at h
  rw [List.zipIdx_cons,List.foldl_cons]
  obtain ⟨h1,h2⟩:=qU l (j+1) n (arr.setIfInBounds (n+j) p) (by rw [Array.size_setIfInBounds];lia)
  refine ⟨by rw [h1,Array.size_setIfInBounds],fun i=>?_⟩
  rw [h2 i,zAe,Array.getElem?_setIfInBounds]
  by_cases e:n+j=i
  ·subst e
   rw [if_neg (by lia),if_pos rfl,if_pos (by lia),if_pos (by lia)]
   simp
  ·rw [if_neg e]
   by_cases e2:n+(j+1)<=i/\i < n+(j+1)+l.length
   ·rw [if_pos e2,if_pos (by lia),show i - (n+j)=(i - (n+(j+1)))+1 by lia]
    rfl
   ·rw [if_neg e2,if_neg (by lia)]
theorem xT {arr:Array Keyed}{n:Nat}{l:List Keyed}(h:n+l.length<=arr.size):(over arr n l).toList=arr.toList.take n++l++arr.toList.drop (n+l.length):=by
 obtain ⟨h1,h2⟩:=qU l 0 n arr (by lia)
 refine List.ext_getElem? fun i=>?_
 rw [Array.getElem?_toList]
 show ((l.zipIdx 0).foldl (fun a p=>a.setIfInBounds (n+p.2) p.1) arr)[i]?=_
 have hl:arr.toList.length=arr.size:=zA9
 rw [h2 i,zAf,List.getElem?_append,zAd,hl,show min n arr.size=n by lia,List.getElem?_append]
 by_cases e1:i < n
 ·rw [if_neg (by lia),if_pos e1,List.getElem?_take,if_pos e1,Array.getElem?_toList]
 ·rw [if_neg e1]
  by_cases e2:i < n+l.length
  ·rw [if_pos (by lia),if_pos (by lia)]
   rfl
  ·rw [if_neg (by lia),if_neg (by lia),List.getElem?_drop,Array.getElem?_toList]
   congr 1
   lia
theorem pw_of_seg {κ:PyProof.Rows.KeyKind}{arr:Array Keyed}(ka:KeysOf κ arr){lo hi:Nat}(hh:hi<=arr.size)(h:Seg κ arr lo hi):((arr.toList.take hi).drop lo).Pairwise (leK κ):=by
 rw [List.pairwise_iff_getElem]
 intro i j hi' hj' hij
 rw [List.length_drop,zAd,zA9] at hi' hj'
 rw [List.getElem_drop,List.getElem_drop,List.getElem_take,List.getElem_take]
 have key_at:∀ k,(hk:k < arr.toList.length)->k < arr.size->key κ arr.toList[k]=KK κ arr k:=fun k hk hk'=>by
  obtain ⟨p,p1,p2,p3,p4⟩:=item ka hk'
  rw [p3]
  have e:arr.toList[k]?=some p:=by
   rw [Array.getElem?_toList]
   exact p1
  rw [zA0 hk] at e
  rw [zAl e]
 unfold leK
 rw [key_at _ _ (by lia),key_at _ _ (by lia)]
 exact h _ _ (by lia) (by lia) (by lia)
theorem xU {κ:PyProof.Rows.KeyKind}{arr:Array Keyed}(ka:KeysOf κ arr){lo hi:Nat}(hh:hi<=arr.size)(h:((arr.toList.take hi).drop lo).Pairwise (leK κ)):Seg κ arr lo hi:=by
 intro i j h1 h2 h3
 by_cases e:i=j
 ·rw [e]
  exact KeyOrd.kle_refl _
 ·rw [List.pairwise_iff_getElem] at h
  have key_at:∀ k,(hk:k < arr.toList.length)->k < arr.size->key κ arr.toList[k]=KK κ arr k:=fun k hk hk'=>by
   obtain ⟨p,p1,p2,p3,p4⟩:=item ka hk'
   rw [p3]
   have e:arr.toList[k]?=some p:=by
    rw [Array.getElem?_toList]
    exact p1
   rw [zA0 hk] at e
   rw [zAl e]
  have:=h (i - lo) (j - lo) (by rw [List.length_drop,zAd,zA9];lia) (by rw [List.length_drop,zAd,zA9];lia) (by lia)
  rw [List.getElem_drop,List.getElem_drop,List.getElem_take,List.getElem_take] at this
  unfold leK at this
  rw [key_at _ _ (by lia),key_at _ _ (by lia)] at this
  rw [show lo+(i - lo)=i by lia,show lo+(j - lo)=j by lia] at this
  exact this
theorem GF (i:Nat):mergeAt' i=(do
  let s <- get
  match (pendingOf s)[i]?,(pendingOf s)[i+1]? with
  | some p,some q=>do
   set (setPending s (((pendingOf s).setIfInBounds i (p.1,p.2.1+q.2.1,p.2.2)).eraseIdxIfInBounds (i+1)))
   let y <- elem' (arrOf s) q.1
   let r <- fu false y (arrOf s) p.1 p.2.1 0
   match r with
   | some k =>
    if (p.2.1 - k == 0)=true then pure true
    else do
     let x <- elem' (arrOf s) (p.1+k+(p.2.1 - k) - 1)
     let r <- fu true x (arrOf s) q.1 q.2.1 (q.2.1 - 1)
     match r with
     | some n =>
      if (n == 0)=true then pure true
      else do
       let m <- if p.2.1 - k<=n then jn ((arrOf s).extract (p.1+k) q.1) ((arrOf s).extract q.1 (q.1+n)) else ju ((arrOf s).extract (p.1+k) q.1) ((arrOf s).extract q.1 (q.1+n))
       modify fun s'=>setArr s' (over (arrOf s') (p.1+k) m.toList)
       let s' <- get
       pure (failedOf s').isNone
     | _=>pure false
   | _=>pure false
  | _,_=>liftM (unsupported "internal:list.sort.pending")):=by
 delta mergeAt'
 refine bc rfl (funext fun s=>?_)
 generalize e1:(pendingOf s)[i]?=o1
 generalize e2:(pendingOf s)[i+1]?=o2
 cases o1 with
 | none=>cases o2 <;> rfl
 | some p =>
  obtain ⟨sa,na,pw⟩:=p
  cases o2 with
  | none=>rfl
  | some q =>
   obtain ⟨sb,nb,pw2⟩:=q
   refine bc rfl (funext fun u=>bc rfl (funext fun y=>bc rfl (funext fun r=>?_)))
   cases r with
   | none=>rfl
   | some k =>
    refine ic rfl (bc rfl (funext fun x=>bc rfl (funext fun r=>?_)))
    cases r with
    | none=>rfl
    | some n=>exact ic rfl (ic (bc rfl (funext fun m=>rfl)) (bc rfl (funext fun m=>rfl)))
theorem keys_perm {κ:PyProof.Rows.KeyKind}{a₀ xs:Array Keyed}(h0:KeysOf κ a₀)(h:xs.Perm a₀):KeysOf κ xs:=fun p hp=>h0 p ((Array.perm_iff_toList_perm.mp h).mem_iff.mp hp)
theorem tD {κ:PyProof.Rows.KeyKind}{xs:Array Keyed}(h0:KeysOf κ xs)(i j:Nat):KeysOf κ (xs.extract i j):=fun p hp=>by
 rw [fQ] at hp
 exact h0 p (List.mem_of_mem_drop (List.mem_of_mem_take hp))
section
variable {prog:Program}{w:World}{A:Around}{E:Value->Shared->Prop}{s:Shared}{κ:PyProof.Rows.KeyKind}{ks:SortKind}{a₀:Array Keyed}
structure Mg (κ:PyProof.Rows.KeyKind)(ks:SortKind)(a₀:Array Keyed)(st st':SortSt)(sa hi:Nat)(pend:Array (Nat×Nat×Nat)):Prop where
 base:SB ks a₀ st'
 out:∀ k,(k < sa\/hi<=k)->(arrOf st')[k]?=(arrOf st)[k]?
 seg:Seg κ (arrOf st') sa hi
 pend:pendingOf st'=pend
theorem zE {l:List Keyed}{i j k m:Nat}(h1:i<=j)(h2:j<=k)(h3:k<=m)(h4:m<=l.length):(l.take m).drop i=(l.take j).drop i++((l.take k).drop j++(l.take m).drop k):=by
 have c:∀ {x y z:Nat},x<=y->y<=z->z<=l.length->(l.take z).drop x=(l.take y).drop x++(l.take z).drop y:=fun {x y z} a b d=>by
  have:=Hi.cut_drop (l:=l.take z) (t:=x) (n:=y) a (by rw [zAd];lia)
  rw [List.take_take,show min y z=y by lia] at this
  exact this.symm
 rw [c h1 (by lia) h4,c h2 h3 h4]
theorem GJ (hL:LtAll prog w A E s κ ks)(h0:KeysOf κ a₀){st:SortSt}(B:SB ks a₀ st){i sa na pw nb pw2:Nat}(e1:(pendingOf st)[i]?=some (sa,na,pw))(e2:(pendingOf st)[i+1]?=some (sa+na,nb,pw2))
  (n1:1<=na) (n2:1<=nb) (hz:sa+na+nb<=a₀.size) (s1:Seg κ (arrOf st) sa (sa+na)) (s2:Seg κ (arrOf st) (sa+na) (sa+na+nb)) {Q:Bool->SortSt->Prop}
  (h:∀ st',Mg κ ks a₀ st st' sa (sa+na+nb) (((pendingOf st).setIfInBounds i (sa,na+nb,pw)).eraseIdxIfInBounds (i+1))->Q true st'):wpS (model prog w) A E s (mergeAt' i) Q st:=by
 rw [GF]
 refine wpS_bind (wpS_get ?_)
 rw [e1,e2]
 dsimp only
 have kA:KeysOf κ (arrOf st):=keys_perm h0 B.pm
 have hsz:(arrOf st).size=a₀.size:=B.size
 have hll:(arrOf st).toList.length=a₀.size:=by rw [zA9,hsz]
 obtain ⟨P,eP⟩:∃ P,P=((pendingOf st).setIfInBounds i (sa,na+nb,pw)).eraseIdxIfInBounds (i+1):=⟨_,rfl⟩
 rw [<- eP] at h ⊢
 have setw:∀ {R:PUnit->SortSt->Prop},R ⟨⟩ (setPending st P)->wpS (model prog w) A E s (set (setPending st P):Sm PUnit) R st:=fun hR=>by
  unfold wpS
  rw [StateT.run_set]
  exact wpAny_pure ⟨rfl,hR⟩
 refine wpS_bind (setw ?_)
 obtain ⟨st1,es1⟩:∃ st1,st1=setPending st P:=⟨_,rfl⟩
 have k1:kindOf st1=ks:=by rw [es1];exact B.kind
 have a1:arrOf st1=arrOf st:=by rw [es1]
 have p1:pendingOf st1=P:=by rw [es1]
 have f1:failedOf st1=none:=by rw [es1];exact B.ok
 rw [<- es1]
 have all:Seg κ (arrOf st) sa (sa+na+nb)->Mg κ ks a₀ st st1 sa (sa+na+nb) P:=fun sg=>⟨⟨k1,f1,by rw [a1];exact B.pm⟩,fun k _=>by rw [a1],by rw [a1];exact sg,p1⟩
 obtain ⟨y,y1,y2,y3,y4⟩:=item kA (i:=sa+na) (by lia)
 refine wpS_bind (bz y1 ?_)
 refine wpS_bind (dH (κ:=κ) (kk:=key κ y) (hL st1 k1) y2 (by lia) (fun j hj=>?_) (fun j j' hjj hj' hb=>?_) fun k kn kt kf=>?_)
 ·obtain ⟨p,q1,q2,q3,_⟩:=item kA (i:=sa+j) (by lia)
  exact ⟨p,_,q1,q2,q3⟩
 ·have mono:=s1 (sa+j) (sa+j') (by lia) (by lia) (by lia)
  have hb:(!κ.blt (key κ y) (KK κ (arrOf st) (sa+j')))=true:=hb
  show (!κ.blt (key κ y) (KK κ (arrOf st) (sa+j)))=true
  rw [Bool.not_eq_true'] at hb ⊢
  exact KeyOrd.kle_trans mono hb
 ·have kt':∀ j,sa<=j->j < sa+k->κ.kle (KK κ (arrOf st) j) (KK κ (arrOf st) (sa+na)):=fun j j1 j2=>by
   have:=kt (j - sa) (by lia)
   rw [show sa+(j - sa)=j by lia] at this
   have this:(!κ.blt (key κ y) (KK κ (arrOf st) j))=true:=this
   rw [Bool.not_eq_true'] at this
   rw [y3]
   exact this
  have kf':∀ j,sa+k<=j->j < sa+na->κ.kle (KK κ (arrOf st) (sa+na)) (KK κ (arrOf st) j):=fun j j1 j2=>by
   have:=kf (j - sa) (by lia) (by lia)
   rw [show sa+(j - sa)=j by lia] at this
   have this:(!κ.blt (key κ y) (KK κ (arrOf st) j))=false:=this
   rw [Bool.not_eq_false'] at this
   rw [y3]
   exact KeyOrd.kle_of_klt this
  dsimp only
  by_cases hk0:na - k=0
  ·rw [if_pos (by simpa using hk0)]
   refine wpS_pure (h st1 (all fun u v hu huv hv=>?_))
   by_cases c1:v < sa+na
   ·exact s1 u v hu huv c1
   ·by_cases c2:u < sa+na
    ·exact KeyOrd.kle_trans (kt' u hu (by lia)) (s2 (sa+na) v (zA3 _) (by lia) hv)
    ·exact s2 u v (by lia) huv hv
  ·rw [if_neg (by simpa using hk0)]
   rw [show sa+k+(na - k) - 1=sa+na - 1 by lia]
   obtain ⟨x,x1,x2,x3,x4⟩:=item kA (i:=sa+na - 1) (by lia)
   refine wpS_bind (bz x1 ?_)
   refine wpS_bind (dH (κ:=κ) (kk:=key κ x) (hL st1 k1) x2 (by lia) (fun j hj=>?_) (fun j j' hjj hj' hb=>?_) fun n nn nt nf=>?_)
   ·obtain ⟨p,q1,q2,q3,_⟩:=item kA (i:=sa+na+j) (by lia)
    exact ⟨p,_,q1,q2,q3⟩
   ·exact KeyOrd.klt_of_kle_of_klt (s2 (sa+na+j) (sa+na+j') (by lia) (by lia) (by lia)) hb
   ·have nt':∀ j,sa+na<=j->j < sa+na+n->κ.kle (KK κ (arrOf st) j) (KK κ (arrOf st) (sa+na - 1)):=fun j j1 j2=>by
     have:=nt (j - (sa+na)) (by lia)
     rw [show sa+na+(j - (sa+na))=j by lia] at this
     rw [x3]
     exact KeyOrd.kle_of_klt this
    have nf':∀ j,sa+na+n<=j->j < sa+na+nb->κ.kle (KK κ (arrOf st) (sa+na - 1)) (KK κ (arrOf st) j):=fun j j1 j2=>by
     have:=nf (j - (sa+na)) (by lia) (by lia)
     rw [show sa+na+(j - (sa+na))=j by lia] at this
     rw [x3]
     exact this
    dsimp only
    by_cases hn0:n=0
    ·rw [if_pos (by simpa using hn0)]
     refine wpS_pure (h st1 (all fun u v hu huv hv=>?_))
     by_cases c1:v < sa+na
     ·exact s1 u v hu huv c1
     ·by_cases c2:u < sa+na
      ·exact KeyOrd.kle_trans (s1 u (sa+na - 1) hu (by lia) (by lia)) (nf' v (by lia) hv)
      ·exact s2 u v (by lia) huv hv
    ·rw [if_neg (by simpa using hn0)]
     obtain ⟨X,eX⟩:∃ X,X=(arrOf st).extract (sa+k) (sa+na):=⟨_,rfl⟩
     obtain ⟨Y,eY⟩:∃ Y,Y=(arrOf st).extract (sa+na) (sa+na+n):=⟨_,rfl⟩
     rw [<- eX,<- eY]
     have lX:X.toList=((arrOf st).toList.take (sa+na)).drop (sa+k):=by rw [eX,Hi.ext_cut]
     have lY:Y.toList=((arrOf st).toList.take (sa+na+n)).drop (sa+na):=by rw [eY,Hi.ext_cut]
     have zX:X.size=na - k:=by rw [<- zA9,lX,List.length_drop,zAd,hll];lia
     have zY:Y.size=n:=by rw [<- zA9,lY,List.length_drop,zAd,hll];lia
     have pA:=pw_of_seg kA (by lia) s1
     have pB:=pw_of_seg kA (by lia) s2
     have eA:=zE (l:=(arrOf st).toList) (i:=sa) (j:=sa+k) (k:=sa+na) (m:=sa+na) (by lia) (by lia) (zA3 _) (by rw [hll];lia)
     have eB:=zE (l:=(arrOf st).toList) (i:=sa+na) (j:=sa+na+n) (k:=sa+na+nb) (m:=sa+na+nb) (by lia) (by lia) (zA3 _) (by rw [hll];lia)
     have nilA:((arrOf st).toList.take (sa+na)).drop (sa+na)=[]:=List.drop_of_length_le (by rw [zAd];lia)
     have nilB:((arrOf st).toList.take (sa+na+nb)).drop (sa+na+nb)=[]:=List.drop_of_length_le (by rw [zAd];lia)
     rw [nilA,zAn,<- lX] at eA
     rw [nilB,zAn,<- lY] at eB
     obtain ⟨A1,eA1⟩:∃ A1,A1=((arrOf st).toList.take (sa+k)).drop sa:=⟨_,rfl⟩
     obtain ⟨B2,eB2⟩:∃ B2,B2=((arrOf st).toList.take (sa+na+nb)).drop (sa+na+n):=⟨_,rfl⟩
     rw [<- eA1] at eA
     rw [<- eB2] at eB
     rw [eA] at pA
     rw [eB] at pB
     obtain ⟨pA1,pX,pAX⟩:=List.pairwise_append.mp pA
     obtain ⟨pY,pB2,pYB⟩:=List.pairwise_append.mp pB
     have inX:∀ z∈X.toList,∃ j,sa+k<=j/\j < sa+na/\KK κ (arrOf st) j=key κ z:=fun z hz'=>by
      rw [lX] at hz'
      obtain ⟨j,j1,j2,_,j4⟩:=Hi.take_key kA hz'
      exact ⟨j,j1,j2,j4⟩
     have inY:∀ z∈Y.toList,∃ j,sa+na<=j/\j < sa+na+n/\KK κ (arrOf st) j=key κ z:=fun z hz'=>by
      rw [lY] at hz'
      obtain ⟨j,j1,j2,_,j4⟩:=Hi.take_key kA hz'
      exact ⟨j,j1,j2,j4⟩
     have inA:∀ z∈A1,∃ j,sa<=j/\j < sa+k/\KK κ (arrOf st) j=key κ z:=fun z hz'=>by
      rw [eA1] at hz'
      obtain ⟨j,j1,j2,_,j4⟩:=Hi.take_key kA hz'
      exact ⟨j,j1,j2,j4⟩
     have inB:∀ z∈B2,∃ j,sa+na+n<=j/\j < sa+na+nb/\KK κ (arrOf st) j=key κ z:=fun z hz'=>by
      rw [eB2] at hz'
      obtain ⟨j,j1,j2,_,j4⟩:=Hi.take_key kA hz'
      exact ⟨j,j1,j2,j4⟩
     have TT:Two κ X Y:=⟨by rw [eX];exact tD kA _ _,by rw [eY];exact tD kA _ _,pX,pY⟩
     have LL:iG κ X Y:=fun z hz' v hv=>by
      obtain ⟨j,j1,j2,j3⟩:=inY z hz'
      obtain ⟨j',j1',j2',j3'⟩:=nq TT.ka hv
      have ej:j'=X.size - 1:=by lia
      have e:KK κ X j'=KK κ (arrOf st) (sa+na - 1):=by
       refine KK_congr ?_
       rw [eX,Array.getElem?_extract,if_pos (by lia)]
       congr 1
       lia
      show κ.kle (key κ z) (key κ v)
      rw [<- j3,<- j3',e]
      exact nt' j j1 j2
     have F0:∀ v∈X.toList,∀ z,Y[0]?=some z->leK κ z v:=fun v hv z hz'=>by
      obtain ⟨j,j1,j2,j3⟩:=inX v hv
      have ez:z=y:=by
       rw [eY,Array.getElem?_extract,if_pos (by lia),Nat.add_zero,y1] at hz'
       exact (zAl hz').symm
      show κ.kle (key κ z) (key κ v)
      rw [ez,<- y3,<- j3]
      exact kf' j j1 j2
     have FB:Hi.FirstB κ X Y:=fun z hz' v hv=>by
      obtain ⟨j,j1,j2,j3⟩:=Hi.take_key0 TT.kb hz'
      obtain ⟨q,q1,q2,q3,_⟩:=item TT.kb (i:=0) (by lia)
      have e0:j=0:=by lia
      rw [e0,q3] at j3
      have:=F0 v hv q q1
      unfold leK at this ⊢
      rw [<- j3]
      exact this
     have fin:∀ m st2,SG st1 st2->Rs κ X Y m->wpS (model prog w) A E s (do
       modify fun s'=>setArr s' (over (arrOf s') (sa+k) m.toList)
       let s' <- get
       pure (failedOf s').isNone) Q st2:=fun m st2 sg D=>by
      refine wpS_bind (wpS_modify (wpS_bind (wpS_get (wpS_pure ?_))))
      have ft:(failedOf (setArr st2 (over (arrOf st2) (sa+k) m.toList))).isNone=true:=by
       show (failedOf st2).isNone=true
       rw [sg.fail,f1]
       rfl
      rw [ft]
      have am:arrOf st2=arrOf st:=sg.arr.trans a1
      have lm:m.toList.length=na - k+n:=by
       rw [D.pm.length_eq,zA2,zA9,zA9,zX,zY]
      have ol:(over (arrOf st) (sa+k) m.toList).toList=(arrOf st).toList.take (sa+k)++m.toList++(arrOf st).toList.drop (sa+na+n):=by
       rw [xT (by rw [lm,hsz];lia),lm,show sa+k+(na - k+n)=sa+na+n by lia]
      have permL:(over (arrOf st) (sa+k) m.toList).toList.Perm (arrOf st).toList:=by
       rw [ol]
       have e:(arrOf st).toList=(arrOf st).toList.take (sa+k)++(X.toList++Y.toList)++(arrOf st).toList.drop (sa+na+n):=by
        rw [lX,lY]
        have c1:=Hi.cut_drop (l:=(arrOf st).toList) (t:=sa+na) (n:=sa+na+n) (by lia) (by rw [hll];lia)
        have c2:=Hi.cut_drop (l:=(arrOf st).toList) (t:=sa+k) (n:=sa+na) (by lia) (by rw [hll];lia)
        rw [zAf,zAf,c1,c2,List.take_append_drop]
       conv=>rhs;rw [e]
       exact List.Perm.append_right _ (List.Perm.append_left _ D.pm)
      have permA:(over (arrOf st) (sa+k) m.toList).Perm (arrOf st):=Array.perm_iff_toList_perm.mpr permL
      have kO:KeysOf κ (over (arrOf st) (sa+k) m.toList):=keys_perm kA permA
      have zO:(over (arrOf st) (sa+k) m.toList).size=a₀.size:=permA.size_eq.trans hsz
      have og:∀ j,(over (arrOf st) (sa+k) m.toList)[j]?=if sa+k+0<=j/\j < sa+k+0+m.toList.length then m.toList[j - (sa+k+0)]? else (arrOf st)[j]?:=(qU m.toList 0 (sa+k) (arrOf st) (by rw [lm,hsz];lia)).2
      refine h _ ⟨⟨sg.kind.trans k1,by show failedOf st2=none;rw [sg.fail,f1],?_⟩,fun j hj=>?_,?_,?_⟩
      ·show (over (arrOf st2) (sa+k) m.toList).Perm a₀
       rw [am]
       exact permA.trans B.pm
      ·show (over (arrOf st2) (sa+k) m.toList)[j]?=_
       rw [am,og j,if_neg (by rw [lm];lia)]
      ·show Seg κ (over (arrOf st2) (sa+k) m.toList) sa (sa+na+nb)
       rw [am]
       refine xU kO (by rw [zO];exact hz) ?_
       have cut:((over (arrOf st) (sa+k) m.toList).toList.take (sa+na+nb)).drop sa=A1++(m.toList++B2):=by
        rw [ol,eA1,eB2]
        have tl:((arrOf st).toList.take (sa+k)).length=sa+k:=by rw [zAd,hll];lia
        rw [zAf,List.take_append,tl,List.take_of_length_le (l:=(arrOf st).toList.take (sa+k)) (by rw [tl];lia),List.take_append,lm,List.take_of_length_le (l:=m.toList) (by rw [lm];lia)]
        rw [List.drop_append_of_le_length (by rw [tl];lia)]
        congr 2
        rw [List.drop_take]
        congr 1
        lia
       rw [cut]
       refine List.pairwise_append.mpr ⟨pA1,List.pairwise_append.mpr ⟨D.sr,pB2,fun u hu v hv=>?_⟩,fun u hu v hv=>?_⟩
       ·rcases zA6.mp (D.pm.mem_iff.mp hu) with c | c
        ·obtain ⟨j,j1,j2,j3⟩:=inX u c
         obtain ⟨j',j1',j2',j3'⟩:=inB v hv
         show κ.kle (key κ u) (key κ v)
         rw [<- j3,<- j3']
         exact KeyOrd.kle_trans (s1 j (sa+na - 1) (by lia) (by lia) (by lia)) (nf' j' j1' j2')
        ·exact pYB u c v hv
       ·obtain ⟨j,j1,j2,j3⟩:=inA u hu
        rcases zA6.mp hv with c | c
        ·rcases zA6.mp (D.pm.mem_iff.mp c) with c | c
         ·exact pAX u hu v c
         ·obtain ⟨j',j1',j2',j3'⟩:=inY v c
          show κ.kle (key κ u) (key κ v)
          rw [<- j3,<- j3']
          exact KeyOrd.kle_trans (kt' j j1 j2) (s2 (sa+na) j' (zA3 _) j1' (by lia))
        ·obtain ⟨j',j1',j2',j3'⟩:=inB v c
         show κ.kle (key κ u) (key κ v)
         rw [<- j3,<- j3']
         exact KeyOrd.kle_trans (kt' j j1 j2) (s2 (sa+na) j' (zA3 _) (by lia) j2')
      ·show pendingOf st2=P
       rw [sg.pend,p1]
     by_cases hc:na - k<=n
     ·rw [if_pos hc]
      exact wpS_bind (Gy hL TT LL (by lia) (by lia) F0 k1 fun m st2 sg D=>fin m st2 sg D)
     ·rw [if_neg hc]
      exact wpS_bind (Hi.hi_wp hL TT LL FB (by lia) (by lia) k1 fun m st2 sg D=>fin m st2 sg D)
end
end Srt

namespace Srt
open PySem PyProof.Rows
abbrev Run:=Nat×Nat×Nat
def Ch (κ:PyProof.Rows.KeyKind)(arr:Array Keyed):List Run->Nat->Nat->Prop
 | [],a,b=>a=b
 | r::l,a,b=>r.1=a/\1<=r.2.1/\Seg κ arr a (a+r.2.1)/\Ch κ arr l (a+r.2.1) b
theorem Ch.le {κ:PyProof.Rows.KeyKind}{arr:Array Keyed}:∀ {l:List Run} {a b:Nat},Ch κ arr l a b->a+l.length<=b
 | [],a,b,h=>by
  have h:a=b:=h
  simp [h]
 | r::l,a,b,h=>by
  have:=Ch.le h.2.2.2
  have:=h.2.1
  rw [zAe]
  lia
theorem Ch.split {κ:PyProof.Rows.KeyKind}{arr:Array Keyed}:∀ {l1 l2:List Run} {a b:Nat},Ch κ arr (l1++l2) a b↔∃ m,Ch κ arr l1 a m/\Ch κ arr l2 m b
 | [],l2,a,b=>⟨fun h=>⟨a,rfl,h⟩,fun ⟨m,h1,h2⟩=>by
  have h1:a=m:=h1
  rw [h1]
  exact h2⟩
 | r::l1,l2,a,b=>by
  constructor
  ·intro h
   obtain ⟨m,h1,h2⟩:=Ch.split.mp h.2.2.2
   exact ⟨m,⟨h.1,h.2.1,h.2.2.1,h1⟩,h2⟩
  ·rintro ⟨m,h1,h2⟩
   exact ⟨h1.1,h1.2.1,h1.2.2.1,Ch.split.mpr ⟨m,h1.2.2.2,h2⟩⟩
theorem tE {κ:PyProof.Rows.KeyKind}{arr arr':Array Keyed}{a b:Nat}(h:Seg κ arr a b)(e:∀ k,a<=k->k < b->arr'[k]?=arr[k]?):Seg κ arr' a b:=fun i j h1 h2 h3=>by
 rw [KK_congr (e i h1 (by lia)),KK_congr (e j (by lia) h3)]
 exact h i j h1 h2 h3
theorem Ch.same {κ:PyProof.Rows.KeyKind}{arr arr':Array Keyed}:∀ {l:List Run} {a b:Nat},Ch κ arr l a b->(∀ k,a<=k->k < b->arr'[k]?=arr[k]?)->Ch κ arr' l a b
 | [],_,_,h,_=>h
 | r::l,a,b,h,e=>by
  have:=Ch.le h.2.2.2
  exact ⟨h.1,h.2.1,tE h.2.2.1 fun k k1 k2=>e k k1 (by lia),h.2.2.2.same fun k k1 k2=>e k (by lia) k2⟩
theorem xV {p:Array Run}{i:Nat}{v:Run}(h:i+1 < p.size):((p.setIfInBounds i v).eraseIdxIfInBounds (i+1)).toList=p.toList.take i++v::p.toList.drop (i+2):=by
 have hl:p.toList.length=p.size:=zA9
 have e1:(p.setIfInBounds i v).eraseIdxIfInBounds (i+1)=(p.setIfInBounds i v).eraseIdx (i+1) (by rw [Array.size_setIfInBounds];exact h):=by
  rw [Array.eraseIdxIfInBounds,dif_pos (by rw [Array.size_setIfInBounds];exact h)]
 rw [e1,Array.toList_eraseIdx,Array.toList_setIfInBounds,List.eraseIdx_eq_take_drop_succ,List.take_set,List.drop_set,if_pos (by lia)]
 have e2:p.toList.take (i+1)=p.toList.take i++[p.toList[i]'(by lia)]:=by
  rw [zAj,zA0 (by lia)]
  rfl
 rw [e2,List.set_append_right _ _ (by rw [zAd];lia)]
 rw [zAd,show i - min i p.toList.length=0 by lia]
 simp
section
variable {prog:Program}{w:World}{A:Around}{E:Value->Shared->Prop}{s:Shared}{κ:PyProof.Rows.KeyKind}{ks:SortKind}{a₀:Array Keyed}
structure St (κ:PyProof.Rows.KeyKind)(ks:SortKind)(a₀:Array Keyed)(st:SortSt)(lo:Nat):Prop where
 base:SB ks a₀ st
 ch:Ch κ (arrOf st) (pendingOf st).toList 0 lo
 le:lo<=a₀.size
theorem tG (hL:LtAll prog w A E s κ ks)(h0:KeysOf κ a₀){st:SortSt}{lo i:Nat}(S:St κ ks a₀ st lo)(hi:i+1 < (pendingOf st).size){Q:Bool->SortSt->Prop}
  (h:∀ st',St κ ks a₀ st' lo->(pendingOf st').size+1=(pendingOf st).size->(∀ k,lo<=k->(arrOf st')[k]?=(arrOf st)[k]?)->Q true st'):wpS (model prog w) A E s (mergeAt' i) Q st:=by
 have hl:(pendingOf st).toList.length=(pendingOf st).size:=zA9
 have d1:(pendingOf st).toList.drop i=(pendingOf st).toList[i]'(by lia)::(pendingOf st).toList.drop (i+1):=List.drop_eq_getElem_cons (by lia)
 have d2:(pendingOf st).toList.drop (i+1)=(pendingOf st).toList[i+1]'(by lia)::(pendingOf st).toList.drop (i+2):=List.drop_eq_getElem_cons (by lia)
 have g1:(pendingOf st)[i]?=some ((pendingOf st).toList[i]'(by lia)):=by rw [<- Array.getElem?_toList,zA0 (by lia)]
 have g2:(pendingOf st)[i+1]?=some ((pendingOf st).toList[i+1]'(by lia)):=by rw [<- Array.getElem?_toList,zA0 (by lia)]
 obtain ⟨⟨sa,na,pw⟩,ep⟩:∃ r,r=(pendingOf st).toList[i]'(by lia):=⟨_,rfl⟩
 obtain ⟨⟨sb,nb,pw2⟩,eq⟩:∃ r,r=(pendingOf st).toList[i+1]'(by lia):=⟨_,rfl⟩
 rw [<- ep] at d1 g1
 rw [<- eq] at d2 g2
 have c:=S.ch
 rw [<- List.take_append_drop i (pendingOf st).toList,d1,d2] at c
 obtain ⟨m,c1,c2⟩:=Ch.split.mp c
 obtain ⟨q1,q2,q3,q4,q5,q6,q7⟩:=c2
 dsimp only at q1 q2 q3 q4 q5 q6 q7
 subst q1
 subst q4
 have lb:=Ch.le q7
 have lm:=Ch.le c1
 refine GJ hL h0 S.base g1 g2 q2 q5 (by have:=S.le;lia) q3 q6 fun st' M=>?_
 have pl:(pendingOf st').toList=(pendingOf st).toList.take i++(sa,na+nb,pw)::(pendingOf st).toList.drop (i+2):=by rw [M.pend,xV hi]
 refine h st' ⟨M.base,?_,S.le⟩ ?_ fun k hk=>M.out k (.inr (by lia))
 ·rw [pl]
  refine Ch.split.mpr ⟨sa,c1.same fun k _ k2=>M.out k (.inl k2),rfl,by dsimp only;lia,?_,?_⟩
  ·dsimp only
   rw [<- Nat.add_assoc]
   exact M.seg
  ·dsimp only
   rw [<- Nat.add_assoc]
   exact q7.same fun k k1 _=>M.out k (.inr k1)
 ·rw [<- zA9,pl,zA2,zAe,zAd,List.length_drop]
  lia
def rest (z lo n:Nat):Sm (ForInStep (Option Unit×Nat)):=do
 let s <- get
 match (pendingOf s).back? with
 | some (s1,n1,_)=>do
  let c <- forIn [0:z] ((none,()):Option Unit×Unit) fun _ _=>do
    let s <- get
    match (if (pendingOf s).size > 1 then (pendingOf s)[(pendingOf s).size - 2]? else none) with
    | some (_,_,older) =>
     if older<=power' z (2 * s1+n1) (2 * s1+n1+n1+n) z then pure (ForInStep.done (none,()))
     else do
      let b <- mergeAt' ((pendingOf s).size - 2)
      if (!b)=true then pure (ForInStep.done (some (),())) else pure (ForInStep.yield (none,()))
    | _=>pure (ForInStep.done (none,()))
  match c.1 with
  | some r=>pure (ForInStep.done (some r,lo))
  | none=>do
   modify fun s=>setPending s ((pendingOf s).modify ((pendingOf s).size - 1) fun x=>(x.1,x.2.1,power' z (2 * s1+n1) (2 * s1+n1+n1+n) z))
   modify fun s=>setPending s ((pendingOf s).push (lo,n,0))
   pure (ForInStep.yield (none,lo+n))
 | _=>do
  modify fun s=>setPending s ((pendingOf s).push (lo,n,0))
  pure (ForInStep.yield (none,lo+n))
theorem Ch.pw {κ:PyProof.Rows.KeyKind}{arr:Array Keyed}(f:Run->Run)(hf:∀ r,(f r).1=r.1/\(f r).2.1=r.2.1):∀ {l:List Run} {a b i:Nat},Ch κ arr l a b->Ch κ arr (l.modify i f) a b
 | [],a,b,i,h=>by
  cases i <;> exact h
 | r::l,a,b,0,h=>by
  obtain ⟨e1,e2⟩:=hf r
  refine ⟨e1.trans h.1,by rw [e2];exact h.2.1,by rw [e2];exact h.2.2.1,?_⟩
  rw [e2]
  exact h.2.2.2
 | r::l,a,b,i+1,h=>⟨h.1,h.2.1,h.2.2.1,Ch.pw f hf h.2.2.2⟩
theorem St.push {st:SortSt}{lo n:Nat}(S:St κ ks a₀ st lo)(n1:1<=n)(hn:lo+n<=a₀.size)(sg:Seg κ (arrOf st) lo (lo+n)):St κ ks a₀ (setPending st ((pendingOf st).push (lo,n,0))) (lo+n):=by
 refine ⟨⟨S.base.kind,S.base.ok,S.base.pm⟩,?_,hn⟩
 show Ch κ (arrOf st) ((pendingOf st).push (lo,n,0)).toList 0 (lo+n)
 rw [Array.toList_push]
 exact Ch.split.mpr ⟨lo,S.ch,rfl,n1,sg,rfl⟩
theorem St.pw {st:SortSt}{lo i:Nat}(S:St κ ks a₀ st lo)(f:Run->Run)(hf:∀ r,(f r).1=r.1/\(f r).2.1=r.2.1):St κ ks a₀ (setPending st ((pendingOf st).modify i f)) lo:=by
 refine ⟨⟨S.base.kind,S.base.ok,S.base.pm⟩,?_,S.le⟩
 show Ch κ (arrOf st) ((pendingOf st).modify i f).toList 0 lo
 rw [Array.toList_modify]
 exact S.ch.pw f hf
theorem wu (hL:LtAll prog w A E s κ ks)(h0:KeysOf κ a₀){st:SortSt}{lo n x:Nat}(S:St κ ks a₀ st lo)(n1:1<=n)(hn:lo+n<=a₀.size)(sg:Seg κ (arrOf st) lo (lo+n))(hx:x<=lo){Q:ForInStep (Option Unit×Nat)->SortSt->Prop}
  (h:∀ st',St κ ks a₀ st' (lo+n)->Q (.yield (none,lo+n)) st'):wpS (model prog w) A E s (rest a₀.size lo n) Q st:=by
 unfold rest
 refine wpS_bind (wpS_get ?_)
 cases (pendingOf st).back? with
 | none=>exact wpS_bind (wpS_modify (wpS_pure (h _ (S.push n1 hn sg))))
 | some q =>
  obtain ⟨s1,n1',p1⟩:=q
  dsimp only
  refine wpS_bind (wpS_mono (wpS_forRange (I:=fun _ c st'=>c=(none,())/\St κ ks a₀ st' lo/\Seg κ (arrOf st') lo (lo+n)) (Q:=fun c st'=>c=(none,())/\St κ ks a₀ st' lo/\Seg κ (arrOf st') lo (lo+n)) ?_ (fun _ _ z=>z) ⟨rfl,S,sg⟩) ?_)
  ·rintro y c st' _ _ ⟨rfl,S',sg'⟩
   refine wpS_bind (wpS_get ?_)
   by_cases h1:(pendingOf st').size > 1
   ·rw [if_pos h1]
    have hl:(pendingOf st').size - 2 < (pendingOf st').size:=by lia
    rw [Array.getElem?_eq_getElem hl]
    obtain ⟨⟨a1,a2,older⟩,eo⟩:∃ r,r=(pendingOf st')[(pendingOf st').size - 2]:=⟨_,rfl⟩
    rw [<- eo]
    dsimp only
    split
    ·exact wpS_pure ⟨rfl,S',sg'⟩
    ·refine wpS_bind (tG hL h0 S' (by lia) fun st2 S2 _ o2=>?_)
     rw [if_neg (by decide)]
     exact wpS_pure ⟨rfl,S2,tE sg' fun k k1 _=>o2 k k1⟩
   ·rw [if_neg h1]
    exact wpS_pure ⟨rfl,S',sg'⟩
  ·rintro c st' ⟨rfl,S',sg'⟩
   dsimp only
   refine wpS_bind (wpS_modify (wpS_bind (wpS_modify (wpS_pure (h _ ?_)))))
   exact (S'.pw (fun x=>(x.1,x.2.1,power' a₀.size (2 * s1+n1') (2 * s1+n1'+n1'+n) a₀.size)) fun _=>⟨rfl,rfl⟩).push n1 hn sg'
theorem ifl (c:Prop)[Decidable c](n:Nat):(if c then n - 1 else n)<=n:=by split <;> lia
theorem runs_wp (hL:LtAll prog w A E s κ ks)(h0:KeysOf κ a₀){st:SortSt}(B:SB ks a₀ st)(hp:pendingOf st=#[]){Q:Unit->SortSt->Prop}
  (h:∀ st',SB ks a₀ st'->Seg κ (arrOf st') 0 a₀.size->Q () st'):wpS (model prog w) A E s sortRuns' Q st:=by
 rw [sortRuns'_eq]
 refine wpS_bind (wpS_get ?_)
 dsimp only
 rw [B.size]
 generalize minRun' a₀.size a₀.size 0=mr
 refine wpS_bind (wpS_mono (wpS_forRange (I:=fun x c st'=>c.1=none/\St κ ks a₀ st' c.2/\x<=c.2) (Q:=fun c st'=>c.1=none/\St κ ks a₀ st' a₀.size) ?_ ?_ ⟨rfl,⟨B,by rw [hp];rfl,zAp _⟩,zA3 _⟩) ?_)
 ·rintro x ⟨c0,lo⟩ st' _ hx ⟨rfl,S,hlo⟩
  dsimp only at S hlo ⊢
  by_cases hge:lo ≥ a₀.size
  ·rw [if_pos hge]
   have e:lo=a₀.size:=by
    have:=S.le
    lia
   refine wpS_pure ⟨rfl,?_⟩
   rw [<- e]
   exact S
  ·rw [if_neg hge]
   refine wpS_bind (zz hL h0 (by lia) (by lia) S.base fun n st1 B1 O1 n1 n2 sg1=>?_)
   dsimp only
   have S1:St κ ks a₀ st1 lo:=⟨B1,by rw [O1.pend];exact S.ch.same fun k _ k2=>O1.out k (.inl k2),S.le⟩
   have tr:∀ {m m':Sm (ForInStep (Option Unit×Nat))} {R:ForInStep (Option Unit×Nat)->SortSt->Prop} {st2:SortSt},m=m'->wpS (model prog w) A E s m' R st2->wpS (model prog w) A E s m R st2:=fun e h=>e ▸ h
   by_cases hm:n < mr
   ·rw [if_pos hm]
    refine wpS_bind (wpS_lift (wpAny_rule ⟨rfl,?_⟩))
    refine wpS_bind (Ey hL h0 (by lia) (by lia) B1 sg1 fun st2 B2 O2 sg2=>?_)
    rw [if_neg (by decide)]
    refine tr ?_ (wu hL h0 ⟨B2,by rw [O2.pend];exact S1.ch.same fun k _ k2=>O2.out k (.inl k2),S.le⟩ (by lia) (by lia) sg2 hlo fun st3 S3=>⟨rfl,S3,by dsimp only;lia⟩)
    ·skip
     unfold rest
     refine bc rfl (funext fun s=>?_)
     cases (pendingOf s).back? with
     | none=>rfl
     | some q =>
      obtain ⟨s1,n1,p⟩:=q
      refine bc (fi (funext fun x=>funext fun c=>bc rfl (funext fun s=>?_))) (funext fun c=>?_)
      ·generalize (if (pendingOf s).size > 1 then (pendingOf s)[(pendingOf s).size - 2]? else none)=o
       cases o with
       | none=>rfl
       | some r =>
        obtain ⟨r1,r2,r3⟩:=r
        exact ic rfl (bc rfl (funext fun b=>rfl))
      ·obtain ⟨r,u⟩:=c
       cases r <;> rfl
   ·rw [if_neg hm]
    refine tr ?_ (wu hL h0 S1 n1 (by lia) sg1 hlo fun st3 S3=>⟨rfl,S3,by dsimp only;lia⟩)
    ·skip
     unfold rest
     refine bc rfl (funext fun s=>?_)
     cases (pendingOf s).back? with
     | none=>rfl
     | some q =>
      obtain ⟨s1,n1,p⟩:=q
      refine bc (fi (funext fun x=>funext fun c=>bc rfl (funext fun s=>?_))) (funext fun c=>?_)
      ·generalize (if (pendingOf s).size > 1 then (pendingOf s)[(pendingOf s).size - 2]? else none)=o
       cases o with
       | none=>rfl
       | some r =>
        obtain ⟨r1,r2,r3⟩:=r
        exact ic rfl (bc rfl (funext fun b=>rfl))
      ·obtain ⟨r,u⟩:=c
       cases r <;> rfl
 ·rintro ⟨c0,lo⟩ st' ⟨h1,S,h2⟩
  dsimp only at h1 S h2 ⊢
  have e:lo=a₀.size:=by
   have:=S.le
   lia
  rw [<- e]
  exact ⟨h1,S⟩
 ·rintro ⟨c0,lo⟩ st' ⟨h1,S⟩
  dsimp only at h1
  subst h1
  dsimp only
  have one:∀ {st':SortSt},St κ ks a₀ st' a₀.size->(pendingOf st').size<=1->Seg κ (arrOf st') 0 a₀.size:=fun {st'} S hs=>by
   have c:=S.ch
   rw [<- zA9] at hs
   cases e:(pendingOf st').toList with
   | nil =>
    rw [e] at c
    have c:0=a₀.size:=c
    intro i j _ _ h3
    lia
   | cons r l =>
    rw [e] at c hs
    have l0:l=[]:=by
     cases l with
     | nil=>rfl
     | cons _ _=>rw [zAe,zAe] at hs;lia
    rw [l0] at c
    obtain ⟨_,_,sg,c4⟩:=c
    have c4:0+r.2.1=a₀.size:=c4
    rw [c4] at sg
    exact sg
  have p0:(pendingOf st').size<=a₀.size:=by
   have:=Ch.le S.ch
   rw [zA9] at this
   lia
  refine wpS_bind (wpS_mono (wpS_forRange (I:=fun x c st2=>c=(none,())/\St κ ks a₀ st2 a₀.size/\(pendingOf st2).size+x<=a₀.size) (Q:=fun c st2=>c=(none,())/\St κ ks a₀ st2 a₀.size/\(pendingOf st2).size<=1) ?_ ?_ ⟨rfl,S,by lia⟩) ?_)
  ·rintro x c st2 _ hx ⟨rfl,S2,hp2⟩
   refine wpS_bind (wpS_get ?_)
   by_cases h1:(pendingOf st2).size<=1
   ·rw [if_pos h1]
    exact wpS_pure ⟨rfl,S2,h1⟩
   ·rw [if_neg h1]
    have hz:2<=(pendingOf st2).size:=by lia
    refine wpS_bind (tG hL h0 S2 (Nat.lt_of_le_of_lt (Nat.succ_le_succ (ifl _ _)) (show (pendingOf st2).size - 2+1 < (pendingOf st2).size by lia)) fun st3 S3 z3 _=>?_)
    rw [if_neg (by decide)]
    exact wpS_pure ⟨rfl,S3,by lia⟩
  ·rintro c st2 ⟨rfl,S2,hp2⟩
   exact ⟨rfl,S2,by lia⟩
  ·rintro c st2 ⟨rfl,S2,hp2⟩
   exact wpS_pure (h st2 S2.base (one S2 hp2))
end
end Srt

namespace L2
open PySem PySem.Spec PyProof.Rows PySem.Calls
theorem qW:∀ a:List Int,HT.lexLt a a=false
 | []=>rfl
 | x::xs=>by
  rw [HT.lexLt_cons,if_pos rfl]
  exact qW xs
theorem lK:∀ a b:List Int,HT.lexLt a b=false->HT.lexLt b a=false->a=b
 | [],[],_,_=>rfl
 | [],_::_,h,_=>by cases h
 | _::_,[],_,h=>by cases h
 | x::xs,y::ys,h1,h2=>by
  rw [HT.lexLt_cons] at h1 h2
  by_cases e:x=y
  ·subst e
   rw [if_pos rfl] at h1 h2
   rw [lK xs ys h1 h2]
  ·rw [if_neg e] at h1
   rw [if_neg (Ne.symm e)] at h2
   have h1:=of_decide_eq_false h1
   have h2:=of_decide_eq_false h2
   lia
theorem qX:∀ a b c:List Int,HT.lexLt a b=true->HT.lexLt b c=true->HT.lexLt a c=true
 | [],[],_,h,_=>by cases h
 | [],_::_,[],_,h=>by cases h
 | [],_::_,_::_,_,_=>rfl
 | _::_,[],_,h,_=>by cases h
 | _::_,_::_,[],_,h=>by cases h
 | x::xs,y::ys,z::zs,h1,h2=>by
  rw [HT.lexLt_cons] at h1 h2 ⊢
  by_cases e1:x=y
  ·subst e1
   rw [if_pos rfl] at h1
   by_cases e2:x=z
   ·subst e2
    rw [if_pos rfl] at h2 ⊢
    exact qX xs ys zs h1 h2
   ·rw [if_neg e2] at h2 ⊢
    exact h2
  ·rw [if_neg e1] at h1
   have h1:=of_decide_eq_true h1
   by_cases e2:y=z
   ·subst e2
    rw [if_neg e1]
    exact decide_eq_true h1
   ·rw [if_neg e2] at h2
    have h2:=of_decide_eq_true h2
    rw [if_neg (by lia)]
    exact decide_eq_true (by lia)
theorem wy (a b c:List Int)(h:HT.lexLt a c=true):HT.lexLt a b=true\/HT.lexLt b c=true:=by
 cases e1:HT.lexLt a b with
 | true=>exact .inl rfl
 | false =>
  cases e2:HT.lexLt b a with
  | true=>exact .inr (qX b a c e2 h)
  | false=>exact .inr (by rw [<- lK a b e1 e2];exact h)
def BR (ads:List Addr)(row:Addr->List Int):PyProof.Rows.KeyKind where
 α:=List Int
 blt:=HT.lexLt
 irrefl:=qW
 trans:=qX
 negTrans:=wy
 total:=lK
 keyOf:=fun u=>match u with
  | .ref a=>if ads.contains a=true then some (row a) else none
  | _=>none
 dflt:=[]
section
open PySem.W
variable {prog:Program}{w:World}{A:Around}{E:Value->Shared->Prop}{s:Shared}
theorem zF {Q:Bool->Shared->Prop}:∀ {ns ms:List Int} {us vs:List Value} {i:Nat},Vals (ns.map V.int) us->Vals (ms.map V.int) vs->Q (HT.lexLt ns ms) s->KatLex prog w A true (decide (ns.length < ms.length)) Q (us.zip vs) i s
 | [],[],_,_,_,.nil,.nil,h=>h
 | [],_::_,_,_,_,.nil,.cons _ _,h=>by
  refine kat_nil ?_
  rw [decide_eq_true (by simp)]
  exact h
 | _::_,[],_,_,_,.cons _ _,.nil,h=>by
  refine kat_nil ?_
  rw [decide_eq_false (by simp)]
  exact h
 | x::ns,y::ms,_,_,i,.cons r1 t1,.cons r2 t2,h=>by
  obtain ⟨k1,rfl⟩:=r1
  obtain ⟨k2,rfl⟩:=r2
  rw [HT.lexLt_cons] at h
  refine kat_cons (wpAny_eqBool_int ?_)
  by_cases e:x=y
  ·subst e
   rw [if_pos rfl] at h
   rw [show (x == x)=true from beq_self_eq_true x]
   refine kat_yes ?_
   have:=zF (i:=i+1) t1 t2 h
   rw [show decide ((x::ns).length < (x::ms).length)=decide (ns.length < ms.length) by rw [zAe,zAe];exact decide_eq_decide.mpr (by lia)]
   exact this
  ·rw [if_neg e] at h
   rw [show (x == y)=false from beq_false_of_ne e]
   refine kat_no ?_
   cases hi:(true && i == 0) with
   | true=>exact oneLt_int h
   | false=>exact kat_one _ _ (lt_int h)
theorem BV {x y:Addr}{ox oy:Obj}{nx ny:Nat}{ns ms:List Int}{us vs:List Value}{Q:Bool->Shared->Prop}(hx:s.heap.get? x=some ox)(dx:ox.data=.seq us.toArray nx)(hy:s.heap.get? y=some oy)(dy:oy.data=.seq vs.toArray ny)
  (r1:Vals (ns.map V.int) us) (r2:Vals (ms.map V.int) vs) (h:Q (HT.lexLt ns ms) s):wpAny (model prog w) A (keyLt' (tuples' true) (.ref x) (.ref y)) Q E s:=by
 refine kat_lt hx dx hy dy ?_
 have l1:=r1.length
 have l2:=r2.length
 rw [zA1] at l1 l2
 have:=zF (prog:=prog) (w:=w) (A:=A) (s:=s) (Q:=Q) (i:=0) r1 r2 h
 rw [zA8,zA8,<- l1,<- l2]
 exact this
theorem BW {l:Addr}{vs:List Value}{Q:Value->Shared->Prop}{R:List Value->Prop}(lst:s.heap.IsList l vs.toArray)(fits:vs.length<=sizeLine)(small:vs.length < 2->R vs)
  (big:2<=vs.length->∀ g,(∀ b o,s.heap.get? b=some o->g.get? b=some o)->wpAny (model prog w) A.in1.in1 (keyKind' vs.toArray) (fun κ s1=>s1={ s with heap:=g } /\
    wpS (model prog w) A.in1.in1 (fun _ _=>False) { s with heap:=g } sortRuns' (fun _ st=>failedOf st=none/\∃ out,(arrOf st).map (·.2)=List.toArray out/\R out) (SortSt.mk' κ (vs.toArray.zip vs.toArray) #[] 7 none)) (fun _ _=>False) { s with heap:=g })
  (len:∀ out,R out->out.length=vs.length)
  (fin:∀ out,R out->∀ h2 c,(∀ b o,s.heap.get? b=some o->h2.get? b=some o)->h2.get? (s.heap.objs.size+1)=some (seqObj "list" out.toArray c)->Q (.ref (s.heap.objs.size+1)) { s with heap:=h2 }) :
  wpAny (model prog w) A (call (.builtin "sorted") [.ref l]) Q E s:=by
 refine call_function_entry kind_sorted plain_sorted entry_sorted (args_sorted1 _) ?_
 unfold Builtin.«sorted»
 refine wpAny_bind (m:=checkCount "sorted" 1 1 _) (wpAny_pure (wpAny_bind (collect_list lst ?_ fits)))
 refine wpAny_bind (wpAny_newList ?_ fits)
 have size1:((s.heap.push (seqObj "list" #[] 0)).update s.heap.objs.size (Obj.mapSeq (·++vs.toArray))).objs.size=s.heap.objs.size+1:=by rw [Heap.size_update,Heap.size_push]
 obtain ⟨g1,eg1⟩:∃ g1,g1=((s.heap.push (seqObj "list" #[] 0)).update s.heap.objs.size (Obj.mapSeq (·++vs.toArray))).push (seqObj "list" vs.toArray 0):=⟨_,rfl⟩
 have at1:g1.get? (s.heap.objs.size+1)=some (seqObj "list" vs.toArray 0):=by rw [eg1,<- size1];exact Heap.get?_push_size _ rfl
 have kp1:∀ b o,s.heap.get? b=some o->g1.get? b=some o:=fun b o q=>by
  have lt:b < s.heap.objs.size:=Heap.lt_size q
  rw [eg1,Heap.get?_push_ne _ _ _ (by rw [size1];exact Nat.ne_of_lt (Nat.lt_succ_of_lt lt)),Heap.get?_update_ne _ _ _ _ (Nat.ne_of_lt lt),Heap.get?_push_ne _ _ _ (Nat.ne_of_lt lt)]
  exact q
 show wpAny _ _ _ _ _ { s with heap:=_ }
 rw [size1,show ((s.heap.push (seqObj "list" #[] 0)).update s.heap.objs.size (Obj.mapSeq (·++vs.toArray))).push (seqObj "list" vs.toArray 0)=g1 from eg1.symm]
 refine wpAny_bind (wpAny_holding (wpAny_call_entry slot_list_sort ⟨_,at1,rfl⟩ entry_list_sort ?body (args_list_sort _)))
 obtain ⟨D,eD⟩:∃ D,D=s.heap.objs.size+1:=⟨_,rfl⟩
 rw [<- eD] at at1 fin ⊢
 have apart:∀ b o,s.heap.get? b=some o->b≠D:=fun b o q e=>by
  have lt:b < s.heap.objs.size:=Heap.lt_size q
  rw [e,eD] at lt
  exact absurd lt (Nat.not_lt_of_le (Nat.le_succ _))
 obtain ⟨g2,eg2⟩:∃ g2,g2=g1.update D (Obj.mapSeq fun _=>(#[]:Array Value)):=⟨_,rfl⟩
 have sb2:Heap.SameBut D g1 g2:=eg2 ▸ Heap.SameBut.update g1 D _
 obtain ⟨e1,at2⟩:∃ e1,g2.get? D=some (seqObj "list" #[] e1):=⟨_,eg2 ▸ get?_update_seq at1 fun _=>#[]⟩
 obtain ⟨g3,eg3⟩:∃ g3,g3=(g2.push (seqObj "tuple" vs.toArray 0)).push (seqObj "list" #[] 0):=⟨_,rfl⟩
 have at3:g3.get? D=some (seqObj "list" #[] e1):=eg3 ▸ Heap.get?_push_of_some _ (Heap.get?_push_of_some _ at2)
 have kp3:∀ b o,s.heap.get? b=some o->g3.get? b=some o:=fun b o q=>eg3 ▸ Heap.get?_push_of_some _ (Heap.get?_push_of_some _ ((sb2.2 b (apart b o q)).trans (kp1 b o q)))
 rw [list_sort_plain]
 refine wpAny_bind (listItems_at at1 rfl (wpAny_bind (listUpdate_at at1 rfl ?_ (by rw [zA8];exact fits) (zAp _))))
 rw [<- eg2]
 refine wpAny_bind (seqEpoch_at at2 rfl (wpAny_bind (wpAny_newTuple (wpAny_bind (wpAny_newList (wpAny_holding ?_) (zAp _))) fits)))
 show wpAny (model prog w) A.in1.in1 _ _ _ { s with heap:=(g2.push (seqObj "tuple" vs.toArray 0)).push (seqObj "list" #[] 0) }
 rw [<- eg3]
 dsimp only
 by_cases two:vs.toArray.size < 2
 ·have two':vs.length < 2:=by rw [zA8] at two;exact two
  rw [if_pos two,if_pos two]
  refine wpAny_bind (wpAny_pure ?_)
  show wpAny _ _ (do let r <- (pure ((),SortSt.mk' general' (vs.toArray.zip vs.toArray) #[] 7 none):Sem (Unit×SortSt));_) _ _ _
  refine wpAny_bind (wpAny_pure ?_)
  dsimp only
  have em:(vs.toArray.zip vs.toArray).map (·.2)=vs.toArray:=by
   apply Array.toList_inj.mp
   simp only [Array.toList_map,Array.toList_zip]
   exact List.map_snd_zip (zA3 _)
  rw [em]
  refine wpAny_bind (seqEpoch_at at3 rfl (wpAny_bind (listUpdate_at at3 rfl ?_ (zAp _) (by rw [zA8];lia))))
  simp only [bne_self_eq_false,Bool.false_eq_true,if_false]
  have sb4:=Heap.SameBut.update g3 D (Obj.mapSeq fun _=>vs.toArray)
  exact wpAny_pure ⟨_,rfl,wpAny_pure ⟨_,rfl,fin vs (small two') _ _ (fun b o z=>(sb4.2 b (apart b o z)).trans (kp3 b o z)) (get?_update_seq at3 _)⟩⟩
 ·have two':2<=vs.length:=by rw [zA8] at two;lia
  rw [if_neg two,if_neg two]
  refine wpAny_bind (wpAny_mono (big two' g3 kp3) (fun κ s1 ⟨es1,run⟩=>?_) fun _ _ x=>x.elim)
  subst es1
  refine wpAny_bind (wpAny_mono run ?_ fun _ _ x=>x.elim)
  rintro ⟨⟨⟩,st⟩ s2 ⟨es2,efl,out,eout,hR⟩
  subst es2
  dsimp only at efl eout ⊢
  rw [eout]
  refine wpAny_bind (seqEpoch_at at3 rfl (wpAny_bind (listUpdate_at at3 rfl ?_ (zAp _) (by rw [zA8,len out hR];lia))))
  rw [efl]
  simp only [bne_self_eq_false,Bool.false_eq_true,if_false]
  have sb4:=Heap.SameBut.update g3 D (Obj.mapSeq fun _=>out.toArray)
  exact wpAny_pure ⟨_,rfl,wpAny_pure ⟨_,rfl,fin out hR _ _ (fun b o z=>(sb4.2 b (apart b o z)).trans (kp3 b o z)) (get?_update_seq at3 _)⟩⟩
theorem nF {g:Heap}{ads:List Addr}{row:Addr->List Int}:∀ {l:List Addr},(∀ a∈l,∃ (us:List Value) (o:Obj) (n:Nat),g.get? a=some o/\o.cls=.type "tuple" /\ o.data=.seq us.toArray n/\Vals ((row a).map V.int) us/\row a≠[])->∃ fs,KatTups g (l.map Value.ref) fs/\fs.length=l.length/\∀ v∈fs,∃ i t,v=.int i t
 | [],_=>⟨[],.nil,rfl,fun _ h=>absurd h (by simp)⟩
 | a::l,h=>by
  obtain ⟨us,o,n,h1,h2,h3,h4,h5⟩:=h a (.head _)
  obtain ⟨fs,k,hl,hi⟩:=nF (ads:=ads) (row:=row) (l:=l) fun b hb=>h b (.tail _ hb)
  cases er:row a with
  | nil=>exact absurd er h5
  | cons i r =>
   rw [er] at h4
   cases h4 with
   | cons r1 t1 =>
    obtain ⟨t,rfl⟩:=r1
    refine ⟨_,.cons h1 h2 h3 (f:=.int i t) (by simp) k,by rw [List.length_cons,List.length_cons,hl],fun v hv=>?_⟩
    rcases zAo.mp hv with z | z
    ·exact ⟨i,t,z⟩
    ·exact hi v z
theorem BX {l:List Addr}{row:Addr->List Int}{Q:SortKind->Shared->Prop}(obj:∀ a∈l,∃ (us:List Value) (o:Obj) (n:Nat),s.heap.get? a=some o/\o.cls=.type "tuple" /\ o.data=.seq us.toArray n/\Vals ((row a).map V.int) us/\row a≠[])(hl:0 < l.length)(h:Q (tuples' true) s) :
  wpAny (model prog w) A (keyKind' (l.map Value.ref).toArray) Q E s:=by
 obtain ⟨fs,kt,fl,fi⟩:=nF (ads:=l) (row:=row) obj
 refine PySem.W.kat_kind (T:=.type "int") kt (by rw [fl];exact hl) (fun v hv=>?_) (by decide) h
 obtain ⟨i,t,rfl⟩:=fi v hv
 exact .now
theorem uU {l:List Addr}{row:Addr->List Int}(obj:∀ a∈l,∃ (us:List Value) (o:Obj) (n:Nat),s.heap.get? a=some o/\o.cls=.type "tuple" /\ o.data=.seq us.toArray n/\Vals ((row a).map V.int) us/\row a≠[]) :
  Srt.LtAll prog w A E s (BR l row) (tuples' true):=fun st hk x y a b Q' ka kb hQ=>by
 obtain ⟨x1,x2⟩:=x
 obtain ⟨y1,y2⟩:=y
 cases x1 with
 | ref xa =>
  cases y1 with
  | ref ya =>
   have ka:(if l.contains xa=true then some (row xa) else none)=some a:=ka
   have kb:(if l.contains ya=true then some (row ya) else none)=some b:=kb
   by_cases c1:l.contains xa=true
   ·rw [if_pos c1] at ka
    by_cases c2:l.contains ya=true
    ·rw [if_pos c2] at kb
     cases ka
     cases kb
     obtain ⟨us1,o1,n1,g1,_,d1,r1,_⟩:=obj xa (by simpa using c1)
     obtain ⟨us2,o2,n2,g2,_,d2,r2,_⟩:=obj ya (by simpa using c2)
     rw [lt'_eq]
     refine wpS_bind (wpS_get ?_)
     rw [hk]
     refine wpS_bind (wpS_lift (wpAny_attempt (BV g1 d1 g2 d2 r1 r2 ⟨rfl,?_⟩)))
     exact wpS_pure hQ
    ·rw [if_neg c2] at kb
     cases kb
   ·rw [if_neg c1] at ka
    cases ka
  | _=>cases kb
 | _=>cases ka
theorem tH (l:List Addr):((l.map Value.ref).toArray.zip (l.map Value.ref).toArray).toList=l.map fun a=>(Value.ref a,Value.ref a):=by
 rw [Array.toList_zip]
 show (l.map Value.ref).zip (l.map Value.ref)=_
 rw [List.zip_map']
theorem pP (l:List Addr)(row:Addr->List Int):KeysOf (BR l row) ((l.map Value.ref).toArray.zip (l.map Value.ref).toArray):=fun z hz'=>by
 rw [tH] at hz'
 obtain ⟨a,ha,rfl⟩:=zA5.mp hz'
 refine ⟨row a,?_⟩
 show (if l.contains a=true then some (row a) else none)=some (row a)
 rw [if_pos (by simpa using ha)]
def zG (p:Keyed):Addr:=match p.1 with
 | .ref a=>a
 | _=>0
theorem tK {l:List Addr}{row:Addr->List Int}{a:Addr}(h:a∈l):Srt.key (BR l row) (Value.ref a,Value.ref a)=row a:=by
 show (if l.contains a=true then some (row a) else none).getD []=row a
 rw [if_pos (by simpa using h)]
 rfl
theorem xW {l:List Addr}{row:Addr->List Int}(obj:∀ a∈l,∃ (us:List Value) (o:Obj) (n:Nat),s.heap.get? a=some o/\o.cls=.type "tuple" /\ o.data=.seq us.toArray n/\Vals ((row a).map V.int) us/\row a≠[]){Q:Unit->SortSt->Prop}
  (h:∀ st (l':List Addr),failedOf st=none->(arrOf st).map (·.2)=List.toArray (l'.map Value.ref)->l'.Perm l->l'.Pairwise (fun a b=>HT.lexLt (row b) (row a)=false)->Q () st) :
  wpS (model prog w) A E s sortRuns' Q (SortSt.mk' (tuples' true) ((l.map Value.ref).toArray.zip (l.map Value.ref).toArray) #[] 7 none):=by
 refine Srt.runs_wp (κ:=BR l row) (ks:=tuples' true) (uU obj) (pP l row) ⟨rfl,rfl,.refl _⟩ rfl fun st' B sg=>?_
 have pmL:=Array.perm_iff_toList_perm.mp B.pm
 rw [tH] at pmL
 have e:(arrOf st').toList=((arrOf st').toList.map zG).map (fun a=>(Value.ref a,Value.ref a)):=by
  rw [zAr]
  conv=>lhs;rw [<- List.map_id (arrOf st').toList]
  refine List.map_congr_left fun z hz'=>?_
  obtain ⟨a,ha,rfl⟩:=zA5.mp (pmL.mem_iff.mp hz')
  rfl
 have pm:((arrOf st').toList.map zG).Perm l:=by
  have:=pmL.map zG
  rw [zAr] at this
  rw [show (zG ∘ fun a=>(Value.ref a,Value.ref a))=id from rfl,List.map_id] at this
  exact this
 generalize (arrOf st').toList.map zG=l' at e pm
 refine h st' l' B.ok ?_ pm ?_
 ·apply Array.toList_inj.mp
  rw [Array.toList_map,e,zAr]
  rfl
 ·have ka:=Srt.keys_perm (pP l row) B.pm
  have:=Srt.pw_of_seg ka (by rw [B.size];exact zA3 _) sg
  rw [List.drop_zero,<- B.size,<- zA9,zAm,e,List.pairwise_map] at this
  refine this.imp_of_mem fun {a b} ha hb hle=>?_
  unfold Srt.leK at hle
  rw [tK (pm.mem_iff.mp ha),tK (pm.mem_iff.mp hb)] at hle
  exact hle
end
section
variable {X:Cx}
theorem pQ:∀ {l:List Addr} {us:List Value},Vals (l.map V.ref) us->us=l.map Value.ref
 | [],_,.nil=>rfl
 | a::l,_,.cons r t=>by
  rw [pQ t,show _=Value.ref a from r]
  rfl
theorem wz:∀ (l:List Addr),Vals (l.map V.ref) (l.map Value.ref)
 | []=>.nil
 | _::l=>.cons rfl (wz l)
theorem zH {α:Type}{R:α->α->Prop}:∀ {l:List α},l.length < 2->l.Pairwise R
 | [],_=>.nil
 | [_],_=>List.pairwise_singleton _ _
 | _::_::_,h=>absurd h (by simp)
theorem fK:fj X (.builtin "sorted") (fun xs H Q=>∃ (p:Addr) (l:List Addr) (row:Addr->List Int),xs=[.ref p]/\SqL X.K H p (l.map V.ref)/\(∀ a∈l,SqT X.K H a ((row a).map V.int)/\row a≠[]) /\
  ∀ (q:Addr) (l':List Addr),H q=none->q≠sysModules->l'.Perm l->l'.Pairwise (fun a b=>HT.lexLt (row b) (row a)=false)->Q (.ref q) (upd H q (.lst (l'.map V.ref)))):=by
 intro pins s σ H xs us Q I r h
 obtain ⟨p,l,row,rfl,hp,hrow,q⟩:=h
 obtain ⟨u,rfl,ru⟩:=vals1 r
 cases ru
 obtain ⟨its,rv,pl,hz⟩:=I.list hp
 have ei:=pQ rv
 subst ei
 have hlen:(l.map Value.ref).length<=sizeLine:=by
  rw [zA1] at hz ⊢
  exact hz
 have obj:∀ a∈l,∃ (us:List Value) (o:Obj) (n:Nat),s.heap.get? a=some o/\o.cls=.type "tuple" /\ o.data=.seq us.toArray n/\Vals ((row a).map V.int) us/\row a≠[]:=fun a ha=>by
  obtain ⟨ht,hne⟩:=hrow a ha
  obtain ⟨as,ra,pa,_⟩:=I.tuple ht
  obtain ⟨oa,ga,ca,na,da⟩:=pa
  exact ⟨as,oa,na,ga,ca,da,ra,hne⟩
 refine BW (R:=fun out=>∃ l':List Addr,out=l'.map Value.ref/\l'.Perm l/\l'.Pairwise fun a b=>HT.lexLt (row b) (row a)=false) pl.isList hlen (fun hs=>⟨l,rfl,.refl _,?_⟩) (fun hb g kp=>?_) (fun out ⟨l',e,pm,_⟩=>by rw [e,zA1,zA1,pm.length_eq]) fun out ⟨l',e,pm,pw⟩ h2 c kp2 at2=>?_
 ·rw [zA1] at hs
  exact zH hs
 ·have obj':∀ a∈l,∃ (us:List Value) (o:Obj) (n:Nat),g.get? a=some o/\o.cls=.type "tuple" /\ o.data=.seq us.toArray n/\Vals ((row a).map V.int) us/\row a≠[]:=fun a ha=>by
   obtain ⟨us,o,n,h1,h2⟩:=obj a ha
   exact ⟨us,o,n,kp _ _ h1,h2⟩
  refine BX (s:={ s with heap:=g }) obj' (by rw [zA1] at hb;lia) ?_
  refine ⟨rfl,xW (s:={ s with heap:=g }) obj' fun st l' e1 e2 e3 e4=>⟨e1,l'.map Value.ref,e2,l',rfl,e3,e4⟩⟩
 ·subst e
  exact ⟨.ref (s.heap.objs.size+1),_,I.laid (t':=s.toks) kp2 (Nat.le_succ _) (show ObjOk X.prog X.w _ h2 _ (.lst (l'.map V.ref)) from ⟨by rw [zA1,pm.length_eq];rw [zA1] at hz;exact hz,_,c,wz l',at2⟩),rfl,q _ l' (I.hok.fresh (Nat.le_succ _)) (Nat.ne_of_gt (Nat.lt_of_lt_of_le I.big (Nat.le_succ _))) pm pw⟩
theorem qY:fj X (.builtin "sorted") (fun xs H Q=>∃ (p:Addr) (l:List Addr) (row:Addr->List Int),xs=[.ref p]/\SqL X.K H p (l.map V.ref)/\(∀ a∈l,SqT X.K H a ((row a).map V.int)/\row a≠[]) /\
  ∀ (q:Addr) (l':List Addr),H q=none->l'.Perm l->l'.Pairwise (fun a b=>HT.lexLt (row b) (row a)=false)->Q (.ref q) (upd H q (.lst (l'.map V.ref)))):=by
 intro pins s σ H xs us Q I r h
 obtain ⟨p,l,row,e,hp,hrow,q⟩:=h
 exact fK pins s σ H xs us Q I r ⟨p,l,row,e,hp,hrow,fun q' l' a _ b c=>q q' l' a b c⟩
end
end L2



namespace K74
open PySem L2
def Els (H:Hp)(xs:List V)(rs:List (List Int)):Prop:=xs.length=rs.length/\∀ (i:Nat) (r:List Int),rs[i]?=some r->∃ t,xs[i]?=some (V.ref t)/\H t=some (.tup (r.map V.int))
theorem Els.keep {H H':Hp}{xs:List V}{rs:List (List Int)}(h:Els H xs rs)(k:∀ b l,H b=some (.tup l)->H' b=some (.tup l)):Els H' xs rs :=
 ⟨h.1,fun i r e=>by
  obtain ⟨t,e1,e2⟩:=h.2 i r e
  exact ⟨t,e1,k _ _ e2⟩⟩
theorem Els.same {H H':Hp}{xs:List V}{rs:List (List Int)}(h:Els H xs rs)(s:Same H H'):Els H' xs rs:=h.keep fun _ _ e=>s _ _ e
theorem Els.nil {H:Hp}:Els H [] []:=⟨rfl,fun i r e=>by simp at e⟩
theorem Els.app {H:Hp}{xs ys:List V}{rs qs:List (List Int)}(h:Els H xs rs)(g:Els H ys qs):Els H (xs++ys) (rs++qs):=by
 refine ⟨by rw [zA2,zA2,h.1,g.1],fun i r e=>?_⟩
 by_cases hi:i < rs.length
 ·rw [List.getElem?_append_left hi] at e
  obtain ⟨t,e1,e2⟩:=h.2 i r e
  exact ⟨t,by rw [List.getElem?_append_left (by rw [h.1];exact hi)];exact e1,e2⟩
 ·rw [List.getElem?_append_right (by lia)] at e
  obtain ⟨t,e1,e2⟩:=g.2 _ r e
  exact ⟨t,by rw [List.getElem?_append_right (by rw [h.1];lia),h.1];exact e1,e2⟩
theorem Els.one {H:Hp}{t:Addr}{r:List Int}(e:H t=some (.tup (r.map V.int))):Els H [.ref t] [r]:=⟨rfl,fun i q e'=>by
 cases i with
 | zero =>
  rw [List.getElem?_cons_zero] at e'
  cases e'
  exact ⟨t,rfl,e⟩
 | succ i=>simp at e'⟩
theorem fU {r:List Int}(h:r.length=4):r=[fl r 0,fl r 1,fl r 2,fl r 3]:=by
 match r,h with
 | [a,b,c,d],_=>rfl
theorem BZ {t:TS}{D:Ends}{N:L2.St->Hp->Prop}{σ:L2.St}{H:Hp}(h:∀ D':Ends,(∀ σ H,N σ H->D'.nx σ H)->t D' σ H):t { D with nx:=N,ct:=N,bk:=D.nx } σ H:=h _ fun _ _ z=>z
theorem dF {J:It}{g:TG}{te:TE}{σ0:St}{H0:Hp}{Fin:List V->Hp->Prop}(n:Nat)(Pv:Nat->List V->St->Hp->Prop)(h0:Pv 0 [] σ0 H0)(hz:n < sizeLine)
  (step:∀ i ys σ H,i < n->ys.length=i->Pv i ys σ H->J.go i H/\∀ x H',J.yld i H x H'->∀ R:V->St->Hp->Prop,(∀ y σ2 H4,Pv (i+1) (ys++[y]) σ2 H4->R y σ2 H4)->g x σ H' fun σ2 H2=>te σ2 H2 fun y H4=>R y σ2 H4)
  (fin:∀ ys σ H,ys.length=n->Pv n ys σ H->J.stop n H/\Fin ys H):j9 J g qz te Fin σ0 H0:=by
 refine ⟨fun i m ys σ H=>m=n - i/\i<=n/\ys.length=i/\Pv i ys σ H,⟨_,rfl,zAp _,rfl,h0⟩,?_⟩
 rintro i m ys σ H ⟨rfl,hi,hy,p⟩
 refine ⟨by lia,?_⟩
 by_cases hlt:i < n
 ·obtain ⟨go,st⟩:=step i ys σ H hlt hy p
  exact .inr ⟨go,fun x H' y=>st x H' y _ fun y σ2 H4 p2=>⟨n - (i+1),by lia,rfl,hlt,by rw [zA2,hy];rfl,p2⟩⟩
 ·have e:i=n:=by lia
  subst e
  exact .inl (fin ys σ H hy p)
def wts (rs:List (List Int)):List Int:=rs.map fun r=>fl r 3
def dG (rs:List (List Int)):Int:=(wts rs).sum
inductive SpSacksI (vs:List V)(H:Hp)(Q:VK):Prop
 | mk:∀ l xs rs,(vs=[.ref l])->(H l=some (.lst xs))->(Els H xs rs)->((∀ r∈rs,r.length=4))->(rs.length<=100000)->(∀ H',Same H H'->Q (.int (dG rs)) H')->SpSacksI  vs H Q
def lM:Sp:=fun vs H Q _=>SpSacksI  vs H Q
section
variable {P:Program}{w:World}{K:PySem.W.Frag}{mg:Str->Option Value}{base:Heap}
theorem boot_sum:bootBuiltins "sum" = some (.builtin "sum"):=by decide +kernel
theorem nd4:(["due","number","holder","sacks"]:List Str).Nodup:=by decide +kernel
theorem IK:FnScope ["rows"] ["rows"] (aJ (top 50)):=⟨rfl,rfl,rfl,by decide +kernel,rfl,by decide +kernel,by decide +kernel⟩
theorem zJ {f:Addr}{fd:FuncData}(F:Fun K "sacks_of" "sacks_of" (top 50) f fd)(Ts:mg "sum" = none):FnOk P w K mg base CX0 1 f fd ["rows"] lM:=by
 refine F.ok IK (fun vs H Q E h=>?_) (fun cdv A outer s H vs Q E hr h=>?_)
 ·obtain ⟨l,xs,rs,rfl,_⟩:=h
  rfl
 ·obtain ⟨l,xs,rs,rfl,el,els,h4,hz,q⟩:=h
  refine ⟨_,aH (aU (aO (eQ rfl) rfl Ts boot_sum (az (bZ (g:=lq K 4 (cA (bK 0) (cA (bK 1) (cA (bK 2) (cA (bK 3) lV))))) ["due","number","holder","sacks"] [none,none,none,none] rfl (fX (pv 0))
   (fun C fp pins s₂ H₂=>⟨dJ rfl rfl (aq (au (i:=0) nd4 rfl (Or.inl rfl) (Or.inr rfl)) (aq (au (i:=1) nd4 rfl (Or.inl rfl) (Or.inr rfl)) (aq (au (i:=2) nd4 rfl (Or.inl rfl) (Or.inr rfl)) (aq (au (i:=3) nd4 rfl (Or.inl rfl) (Or.inr rfl)) aY)))),bT,pv 3⟩) (fun C=>trivial) ⟨rfl,rfl,rfl,rfl⟩) aj))),?_⟩
  refine ⟨_,rfl,l,rfl,⟨_,SqL.of el⟩,dF rs.length (fun i ys σ Hc=>Same H Hc/\(∃ o1 o2 o3 o4,σ=[o1,o2,o3,o4])/\ys=(wts (rs.take i)).map V.int) ⟨Same.refl H,⟨_,_,_,_,rfl⟩,rfl⟩ (by rw [sizeLine_eq];lia) ?_ ?_⟩
  ·rintro i ys σ Hc hi hy ⟨s1,⟨o1,o2,o3,o4,rfl⟩,rfl⟩
   obtain ⟨t,ex,et⟩:=els.2 i rs[i] (zA0 hi)
   rw [fU (h4 _ (zAh hi))] at et
   refine ⟨⟨_,_,SqL.of (s1 _ _ el),ex⟩,fun v H' y R hR=>?_⟩
   obtain ⟨rfl,y⟩:=y
   have hv:=y _ (SqL.of (s1 _ _ el))
   rw [ex] at hv
   cases hv
   refine ⟨t,_,rfl,SqT.of (s1 _ _ et),rfl,_,_,rfl,_,_,rfl,_,_,rfl,_,_,rfl,rfl,_,rfl,hR _ _ _ ⟨s1,⟨_,_,_,_,rfl⟩,?_⟩⟩
   unfold wts
   rw [zAj,zA0 hi,zA4,zA4]
   rfl
  ·rintro ys σ Hc hy ⟨s1,_,rfl⟩
   refine ⟨⟨_,SqL.of (s1 _ _ el),by rw [els.1];exact zA3 _⟩,fun D hD=>?_⟩
   rw [zAm]
   exact ⟨D,wts rs,rfl,.inl (SqL.of ao),q _ (s1.updR hD)⟩
end
end K74

namespace K74P
open PySem L2
def top (i:Nat):Stmt:=PySem.Challenge.pw_woolyears_k74_whole_a_keeper_is_its_book.main.body.getD i (.Pass ⟨0,0,0,0⟩)
def cQ (d:PyData):Bool:=mO d && !lF d
def items:PyData->List PyData
 | .tuple ds=>ds
 | _=>[]
def intOf:PyData->Int
 | .int i=>i
 | _=>0
def bB (d:PyData)(f m:Int):Bool:=mQ d && (decide (f<=(items d).length) && decide (((items d).length:Int)<=m))
theorem nd1 (x:Str):([x]:List Str).Nodup:=by simp
theorem uL (d:PyData):1<=sz d:=by cases d <;> simp [sz]
theorem jf:∀ (ds:List PyData),ds.length<=szs ds
 | []=>zAp _
 | d::ds=>by
  have:=jf ds
  have:=uL d
  simp only [List.length_cons,szs]
  lia
theorem jg:∀ {ds:List PyData} {d:PyData},d∈ds->sz d<=szs ds
 | x::ds,d,h=>by
  simp only [szs]
  rcases zAo.mp h with e | e
  ·rw [e];lia
  ·have:=jg e
   lia
theorem jh {ds:List PyData}{d:PyData}(h:d∈ds)(hz:sz (.tuple ds)<=4000):sz d<=4000:=by
 have:=jg h
 simp only [sz] at hz
 lia
theorem f9 {S:Addr->Prop}{H:Hp}{xs:List V}{ds:List PyData}(r:IsThs S H xs ds)(hz:sz (.tuple ds)<=4000):xs.length < sizeLine:=by
 have:=jf ds
 have:=r.length
 simp only [sz] at hz
 rw [sizeLine_eq]
 lia
def spT (f:PyData->Bool):Sp:=fun vs H Q _=>∃ S v d,vs=[v]/\IsTh S H v d/\sz d<=4000/\∀ H',Same H H'->Q (.bl (f d)) H'
def lA (f:PyData->Int->Int->Bool):Sp:=fun vs H Q _=>∃ S v d n m,vs=[v,.int n,.int m]/\IsTh S H v d/\sz d<=4000/\∀ H',Same H H'->Q (.bl (f d n m)) H'
structure Mg (mg:Str->Option Value):Prop where
 isinstance:mg "isinstance" = none
 int:mg "int" = none
 bool:mg "bool" = none
 tuple:mg "tuple" = none
 len:mg "len" = none
 all:mg "all" = none
theorem boot_tuple:bootBuiltins "tuple" = some (.type "tuple"):=by decide +kernel
theorem boot_all:bootBuiltins "all" = some (.builtin "all"):=by decide +kernel
theorem d9 {K:PySem.W.Frag}{S:Addr->Prop}{te:TE}{src:List (Option Nat)}{i j:Nat}{σ:St}{H:Hp}{Q:VK}{a:Addr}{xs:List V}{ds:List PyData}(f:PyData->Bool)(hσ:σ[i]?=some (some (.ref a)))(ea:H a=some (.tup xs))(r:IsThs S H xs ds)(hl:xs.length < sizeLine)
  (hte:∀ v d H1 Q1,d∈ds->Same H H1->IsTh S H1 v d->(∀ H',Same H1 H'->Q1 (.bl (f d)) H')->te ((capσ σ src).set j (some v)) H1 Q1) (q:∀ H',Same H H'->Q (.bl (ds.all f)) H') :
  tCB (fun xs H Q=>∃ (p:Addr) (bs:List Bool),xs=[.ref p]/\SqL K H p (bs.map V.bl)/\Q (.bl (bs.all id)) H) (kh (vL (Eb K (wV i)) src (bK j) qz te) qw) σ H Q:=by
 refine ⟨_,hσ,a,rfl,⟨xs,SqT.of ea⟩,kW (j:=j) f ea r hl hte fun H2 s2 D hD=>⟨D,ds.map f,rfl,?_,?_⟩⟩
 ·rw [<- sS]
  exact SqL.of ao
 ·rw [yX]
  exact q _ (s2.updR hD)
structure Nums (mg:Str->Option Value):Prop where
 many:∃ t,mg "MOST_WEIGHTS" = some (.int 80 t)
 most:∃ t,mg "MOST_WEIGHT" = some (.int 99 t)
def Cal (P:Program)(w:World)(K:PySem.W.Frag)(mg:Str->Option Value)(base:Heap)(k:Nat)(x:Str)(ps:List Str)(sp:Sp):Prop :=
 ∃ f fd,FnOk P w K mg base CX0 k f fd ps sp/\mg x=some (.ref f)/\PySem.W.keepIn K (.ref f)=true/\Binds K fd ps []
theorem aK {X:Cx}{k j:Nat}{x:Str}{ps:List Str}{sp:Sp}{p pos:Pos}{e:Expr}{es:List Expr}{t:TA}(c:Cal X.prog X.w X.K X.mg X.base j x ps sp)(hr:Room k X.A)(hjk:j<=k)(hg:Gl X x)(ha:PA X (e::es) t)
  (hdb:(x == ("__debug__" : Str))=false:=by decide) (he:starEach (e::es) X.env=(false,eval e X.env)::starEach es X.env:=by rfl) (hpl:(backTo pos (starEach es X.env)).any (·.1)=false:=by rfl) :
  PE X (.Call (.Name x p) (e::es) [] pos) (yI sp [] E0 t):=by
 obtain ⟨f,fd,F,hm,hk,hb⟩:=c
 exact vB F (hr.mono hjk) hg hm hk hb .nil rR ha hdb he hpl
def oJ (d:PyData)(lo hi:Int):Bool:=cQ d && (decide (lo<=intOf d) && decide (intOf d<=hi))
def gY (d:PyData):Bool:=bB d 1 80 && (items d).all fun x=>oJ x 1 99
theorem boot_sorted:bootBuiltins "sorted" = some (.builtin "sorted"):=by decide +kernel
theorem boot_sum:bootBuiltins "sum" = some (.builtin "sum"):=by decide +kernel
theorem dF {J:It}{g:TG}{te:TE}{σ0:St}{H0:Hp}{Fin:List V->Hp->Prop}(n:Nat)(Pv:Nat->List V->St->Hp->Prop)(h0:Pv 0 [] σ0 H0)(hz:n < sizeLine)
  (step:∀ i ys σ H,i < n->ys.length=i->Pv i ys σ H->J.go i H/\∀ x H',J.yld i H x H'->∀ R:V->St->Hp->Prop,(∀ y σ2 H4,Pv (i+1) (ys++[y]) σ2 H4->R y σ2 H4)->g x σ H' fun σ2 H2=>te σ2 H2 fun y H4=>R y σ2 H4)
  (fin:∀ ys σ H,ys.length=n->Pv n ys σ H->J.stop n H/\Fin ys H):j9 J g qz te Fin σ0 H0:=by
 refine ⟨fun i m ys σ H=>m=n - i/\i<=n/\ys.length=i/\Pv i ys σ H,⟨_,rfl,zAp _,rfl,h0⟩,?_⟩
 rintro i m ys σ H ⟨rfl,hi,hy,p⟩
 refine ⟨by lia,?_⟩
 by_cases hlt:i < n
 ·obtain ⟨go,st⟩:=step i ys σ H hlt hy p
  exact .inr ⟨go,fun x H' y=>st x H' y _ fun y σ2 H4 p2=>⟨n - (i+1),by lia,rfl,hlt,by rw [zA2,hy];rfl,p2⟩⟩
 ·have e:i=n:=by lia
  subst e
  exact .inl (fin ys σ H hy p)
theorem nd2 (x y:Str)(h:x≠y):([x,y]:List Str).Nodup:=by simp [h]
section
variable {P:Program}{w:World}{K:PySem.W.Frag}{mg:Str->Option Value}{base:Heap}

theorem sc1:FnScope ["thing"] ["thing"] (aJ (top 15)):=⟨rfl,rfl,rfl,by decide +kernel,rfl,by decide +kernel,by decide +kernel⟩
theorem sc19:FnScope ["thing"] ["thing"] (aJ (top 44)):=⟨rfl,rfl,rfl,by decide +kernel,rfl,by decide +kernel,by decide +kernel⟩
theorem ok_are_weights {f:Addr}{fd:FuncData}(F:Fun K "are_weights" "are_weights" (top 44) f fd)(T:Mg mg)(N:Nums mg)(c1:Cal P w K mg base 2 "is_whole_from" ["thing","least","most"] (lA oJ))(c2:Cal P w K mg base 1 "is_tuple_of" ["thing","fewest","most"] (lA bB)) :
  FnOk P w K mg base CX0 4 f fd ["thing"] (spT gY):=by
 refine F.ok sc19 (fun vs H Q E h=>?_) (fun cdv A outer s H vs Q E hr h=>?_)
 ·obtain ⟨S,v,d,rfl,_⟩:=h
  rfl
 ·obtain ⟨S,v,d,rfl,th,hz,q⟩:=h
  obtain ⟨t3,e3⟩:=N.many
  obtain ⟨t4,e4⟩:=N.most
  refine ⟨_,aH (aU (cD (aK c2 hr (by decide) rfl (aQ (pv 0) (aQ aA (aQ (bR (v:=.int 80) rfl e3 ⟨_,rfl⟩) aj))))
   (dR (aO (dM rfl) rfl T.all boot_all (aQ (bZ ["part"] [none] rfl (dU (pv 0))
    (fun C fp pins s₂ H₂=>⟨au (i:=0) (nd1 _) rfl (Or.inl rfl),bT,aK c1 hr (by decide) rfl (aQ (pv 0) (aQ aA (aQ (bR (v:=.int 99) rfl e4 ⟨_,rfl⟩) aj)))⟩) (fun C=>trivial) ⟨rfl,rfl,rfl,rfl⟩) aj))))),?_⟩
  refine ⟨_,rfl,S,v,d,1,80,rfl,th,hz,fun H1 s1=>⟨_,rfl,?_⟩⟩
  have th1:=th.same s1
  have fin:=fun H' (s:Same H H')=>q H' s
  unfold gY at fin
  cases e:bB d 1 80 with
  | false =>
   rw [e] at fin
   exact bD (fin _ s1)
  | true =>
   rw [e] at fin
   refine cj ?_
   cases th1 with
   | @tup a xs ds ea r=>exact d9 (fun x=>oJ x 1 99) rfl ea r (f9 r hz) (fun v d H2 Q2 hm s2 t2 q2=>⟨_,rfl,S,v,d,1,99,rfl,t2,jh hm hz,q2⟩) fun H2 s2=>fin _ (s1.trans s2)
   | _=>cases e
end
theorem iu {X:Cx}:DY X (fun x y H Q=>∃ p xs i v,x=.ref p/\y=.int i/\SqL X.K H p xs/\0<=i/\xs[i.toNat]?=some v/\Q v H):=by
 intro pins s σ H x y v u Q I rx ry h
 obtain ⟨p,xs,i,z,rfl,rfl,hq,h0,he,q⟩:=h
 cases rx
 obtain ⟨t,rfl⟩:=ry
 obtain ⟨its,r,pl,hz⟩:=I.list hq
 obtain ⟨w,ew,rw'⟩:=r.get he
 have hn:=iH
 have hl:=r.length
 have hi:=(zAa.mp he).1
 exact PySem.wpAny_getItem_list pl.isList h0 (by lia) (by simpa using ew) ⟨z,H,I,rw',q⟩
section
variable {X:Cx}{K:PySem.W.Frag}{tg l:Expr}{tl:TE}
theorem ix_tupK (hK:X.K=K):IxR X (Gf K):=by
 subst hK
 exact bG
end
section
variable {P:Program}{w:World}{K:PySem.W.Frag}{mg:Str->Option Value}{base:Heap}
end
theorem ok_b {X:Cx}{body:List Stmt}{t:TS}{R:TS->Prop}(h:BSs X body t)(q:R t):∃ t,PSs X body t/\R t:=⟨t,h.run,q⟩
end K74P

namespace K74P
def rr (rs:List Int)(i:Nat):Int:=rs.getD i 0
def bef (rs:List Int)(i j:Nat):Bool:=decide (rr rs j < rr rs i) || (decide (rr rs i=rr rs j) && decide (i<=j))
theorem jw {rs:List Int}{i j:Nat}:bef rs i j=true↔rr rs j < rr rs i\/(rr rs i=rr rs j/\i<=j):=by
 unfold bef
 rw [Bool.or_eq_true,zAc,decide_eq_true_iff,decide_eq_true_iff,decide_eq_true_iff]
structure Ord (rs:List Int)(pl:List Nat):Prop where
 pm:pl.Perm (List.range rs.length)
 so:pl.Pairwise fun i j=>bef rs i j=true
theorem gZ (rs:List Int):∃ pl,Ord rs pl:=by
 refine ⟨(List.range rs.length).mergeSort (bef rs),List.mergeSort_perm _ _,List.pairwise_mergeSort (fun a b c h1 h2=>?_) (fun a b=>?_) _⟩
 ·rw [jw] at h1 h2 ⊢
  lia
 ·rw [Bool.or_eq_true,jw,jw]
  lia
theorem Ez {rs:List Int}{p q:List Nat}(h:Ord rs p)(h':Ord rs q):p=q:=by
 refine List.Perm.eq_of_pairwise (fun a b _ _ h1 h2=>?_) h.so h'.so (h.pm.trans h'.pm.symm)
 rw [jw] at h1 h2
 lia
def du (fs:List Int)(pl:List Nat):List Int:=pl.foldl (fun l i=>l.set i (l.getD i 0+1)) fs
theorem uV (fs:List Int)(pl:List Nat)(i:Nat):du fs (pl++[i])=(du fs pl).set i ((du fs pl).getD i 0+1):=by
 unfold du
 rw [List.foldl_append]
 rfl
theorem jT:∀ (pl:List Nat) (fs:List Int),(du fs pl).length=fs.length
 | [],_=>rfl
 | i::pl,fs=>by
  show (du (fs.set i _) pl).length=_
  rw [jT pl,List.length_set]
end K74P

namespace K74P
open PySem L2
def fs (n:Int)(ws:List Int):List Int:=ws.map fun w=>n * w / ws.sum
def rs (n:Int)(ws:List Int):List Int:=ws.map fun w=>n * w % ws.sum
def lf (n:Int)(ws:List Int):Int:=n - (fs n ws).sum
def OkW (ws:List Int):Prop:=1<=ws.length/\ws.length<=80/\∀ w∈ws,1<=w/\w<=99
theorem qZ {B:Int}:∀ {l:List Int},(∀ a∈l,a<=B)->l.sum<=B * l.length
 | [],_=>by simp
 | a::l,h=>by
  have h1:=qZ (B:=B) (l:=l) fun b hb=>h b (.tail _ hb)
  have h2:=h a (.head _)
  rw [List.sum_cons,List.length_cons,show B * ((l.length+1:Nat):Int)=B * l.length+B by rw [Int.natCast_add,Int.mul_add];simp]
  lia
theorem iW:∀ {l:List Int},(∀ a∈l,0<=a)->0<=l.sum
 | [],_=>by simp
 | a::l,h=>by
  have h1:=iW (l:=l) fun b hb=>h b (.tail _ hb)
  have h2:=h a (.head _)
  rw [List.sum_cons]
  lia
theorem OkW.pos {ws:List Int}(h:OkW ws):1<=ws.sum:=by
 obtain ⟨h1,_,h3⟩:=h
 match ws,h1,h3 with
 | w::ws,_,h3 =>
  have:=iW (l:=ws) fun a ha=>by have:=h3 a (.tail _ ha);lia
  have:=h3 w (.head _)
  rw [List.sum_cons]
  lia
theorem OkW.top {ws:List Int}(h:OkW ws):ws.sum<=7920:=by
 have h1:=qZ (B:=99) fun a ha=>(h.2.2 a ha).2
 have:=h.2.1
 lia
theorem divs (n T:Int):∀ ws:List Int,T * (ws.map fun w=>n * w / T).sum+(ws.map fun w=>n * w % T).sum=n * ws.sum
 | []=>by simp
 | w::ws=>by
  have h1:=divs n T ws
  have h2:=Int.mul_ediv_add_emod (n * w) T
  simp only [List.map_cons,List.sum_cons,Int.mul_add]
  lia
theorem EY (n:Int)(ws:List Int):ws.sum * lf n ws=(rs n ws).sum:=by
 have h:=divs n ws.sum ws
 unfold lf fs rs
 rw [Int.mul_sub,Int.mul_comm ws.sum n]
 lia
theorem GK {n:Int}{ws:List Int}(h:OkW ws):∀ r∈rs n ws,0<=r:=fun r hr=>by
 obtain ⟨w,_,rfl⟩:=zA5.mp hr
 have:=h.pos
 exact Int.emod_nonneg _ (by lia)
theorem GP {n:Int}{ws:List Int}(h:OkW ws):∀ r∈rs n ws,r<=ws.sum:=fun r hr=>by
 obtain ⟨w,_,rfl⟩:=zA5.mp hr
 have:=h.pos
 exact Int.le_of_lt (Int.emod_lt_of_pos _ (by lia))
theorem rm (n:Int)(ws:List Int):(fs n ws).length=ws.length:=zA1 _
theorem jU (n:Int)(ws:List Int):(rs n ws).length=ws.length:=zA1 _
theorem zK {n:Int}{ws:List Int}(h:OkW ws):0<=lf n ws:=by
 have h1:=EY n ws
 have h2:=iW (GK (n:=n) h)
 have h3:=h.pos
 refine Int.le_of_not_gt fun c=>?_
 have:=Int.mul_le_mul_of_nonneg_left (c:=ws.sum) (show lf n ws<=-1 by lia) (by lia)
 lia
theorem Dp {n:Int}{ws:List Int}(h:OkW ws):lf n ws<=ws.length:=by
 have h1:=EY n ws
 have h2:=qZ (GP (n:=n) h)
 rw [jU] at h2
 have h3:=h.pos
 refine Int.le_of_not_gt fun c=>?_
 have:=Int.mul_le_mul_of_nonneg_left (c:=ws.sum) (show (ws.length:Int)+1<=lf n ws by lia) (by lia)
 rw [Int.mul_add] at this
 lia
theorem Fb {ws:List Int}(h:OkW ws):lf ws.sum ws=0:=by
 have h1:=EY ws.sum ws
 have h2:(rs ws.sum ws).sum<=0:=by
  have:=qZ (B:=0) (l:=rs ws.sum ws) fun r hr=>by
   obtain ⟨w,_,rfl⟩:=zA5.mp hr
   rw [Int.mul_emod_right]
   exact Int.le_refl _
  lia
 have h3:=h.pos
 have h4:=zK (n:=ws.sum) h
 refine Int.le_antisymm (Int.le_of_not_gt fun c=>?_) h4
 have:=Int.mul_le_mul_of_nonneg_left (c:=ws.sum) (show 1<=lf ws.sum ws by lia) (by lia)
 lia
theorem pR:∀ (pl:List Nat) (l:List Int) (i:Nat),i < l.length->(du l pl).getD i 0=l.getD i 0+pl.count i
 | [],l,i,_=>by simp [du]
 | j::pl,l,i,h=>by
  show (du (l.set j (l.getD j 0+1)) pl).getD i 0=_
  rw [pR pl _ i (by rw [List.length_set];exact h),List.count_cons]
  by_cases e:j=i
  ·subst e
   rw [zA7,List.getElem?_set_self h,Option.getD_some,beq_self_eq_true,if_pos rfl]
   lia
  ·rw [List.getD_eq_getElem?_getD,List.getElem?_set_ne e,<- List.getD_eq_getElem?_getD,if_neg (by simp [e])]
   lia
theorem Ord.nd {r:List Int}{pl:List Nat}(h:Ord r pl):pl.Nodup:=h.pm.nodup_iff.mpr List.nodup_range
theorem Ord.len {r:List Int}{pl:List Nat}(h:Ord r pl):pl.length=r.length:=by rw [h.pm.length_eq,List.length_range]
theorem Ord.lt {r:List Int}{pl:List Nat}(h:Ord r pl):∀ i∈pl,i < r.length:=fun i hi=>List.mem_range.mp (h.pm.mem_iff.mp hi)
def res (n:Int)(ws:List Int):List Int:=du (fs n ws) ((gZ (rs n ws)).choose.take (lf n ws).toNat)
theorem Fd {n:Int}{ws:List Int}{pl:List Nat}(h:Ord (rs n ws) pl):du (fs n ws) (pl.take (lf n ws).toNat)=res n ws:=by
 unfold res
 rw [Ez h (gZ (rs n ws)).choose_spec]
theorem res_len (n:Int)(ws:List Int):(res n ws).length=ws.length:=by
 unfold res
 rw [jT,rm]
theorem res_get {n:Int}{ws:List Int}(h:OkW ws)(n0:0<=n)(n1:n<=ws.sum){i:Nat}{r w:Int}(hr:(res n ws)[i]?=some r)(hw:ws[i]?=some w):0<=r/\r<=w:=by
 have hi:i < ws.length:=(zAa.mp hw).1
 have hp:=h.pos
 have ww:=h.2.2 w (List.mem_of_getElem? hw)
 have e:r=n * w / ws.sum+((gZ (rs n ws)).choose.take (lf n ws).toNat).count i:=by
  have:=pR ((gZ (rs n ws)).choose.take (lf n ws).toNat) (fs n ws) i (by rw [rm];exact hi)
  have e2:(fs n ws).getD i 0=n * w / ws.sum:=by
   unfold fs
   rw [zA7,zAb,hw]
   rfl
  rw [e2] at this
  rw [<- this,show du (fs n ws) _=res n ws from rfl,zA7,hr]
  rfl
 have c1:((gZ (rs n ws)).choose.take (lf n ws).toNat).count i<=1:=List.nodup_iff_count.mp ((gZ (rs n ws)).choose_spec.nd.sublist (List.take_sublist _ _)) i
 have q0:0<=n * w / ws.sum:=Int.ediv_nonneg (Int.mul_nonneg n0 (by lia)) (by lia)
 refine ⟨by lia,?_⟩
 by_cases en:n=ws.sum
 ·have:((gZ (rs n ws)).choose.take (lf n ws).toNat)=[]:=by
   rw [en,Fb h]
   rfl
  rw [this] at e
  rw [en,Int.mul_ediv_cancel_left _ (by lia)] at e
  simp at e
  lia
 ·have:n * w / ws.sum < w:=by
   refine Int.ediv_lt_of_lt_mul (by lia) ?_
   rw [Int.mul_comm w]
   exact Int.mul_lt_mul_of_pos_right (by lia) (by lia)
  lia
end K74P

namespace K74P
open PySem L2
theorem pU {K:PySem.W.Frag}{te:TE}{p:Addr}{ws:List Int}{σ0:St}{H0:Hp}{Fin:List V->Hp->Prop}(f:Int->Int)(ep:H0 p=some (.tup (ws.map V.int)))(hl:ws.length < sizeLine)
  (hte:∀ (z:Int) (Q:VK),z∈ws->Q (.int (f z)) H0->te (σ0.set 0 (some (.int z))) H0 Q) (fin:Fin ((ws.map f).map V.int) H0):j9 (Itt K p) (bK 0) qz te Fin σ0 H0:=by
 refine dF ws.length (fun i ys σ H=>H=H0/\(∀ o,σ.set 0 o=σ0.set 0 o)/\ys=((ws.take i).map f).map V.int) ⟨rfl,fun _=>rfl,rfl⟩ hl ?_ ?_
 ·rintro i ys σ H hi hy ⟨rfl,hσ,rfl⟩
  have hz:(ws.map V.int)[i]?=some (.int ws[i]):=by rw [zAb,zA0 hi];rfl
  refine ⟨⟨_,_,SqT.of ep,hz⟩,fun v H' y' R hR=>?_⟩
  obtain ⟨rfl,y'⟩:=y'
  have hv:=y' _ (SqT.of ep)
  rw [hz] at hv
  cases hv
  show te (σ.set 0 (some (.int ws[i]))) _ _
  rw [hσ]
  refine hte ws[i] _ (zAh hi) (hR _ _ _ ⟨rfl,fun o=>by rw [List.set_set],?_⟩)
  rw [zAj,zA0 hi,zA4,zA4]
  rfl
 ·rintro ys σ H hy ⟨rfl,hσ,rfl⟩
  refine ⟨⟨_,SqT.of ep,by rw [zA1];exact zA3 _⟩,?_⟩
  rw [zAm]
  exact fin
def wD (ws:List Int):PyData:=.tuple (ws.map PyData.int)
theorem tL:∀ (r:List Int),szs (r.map PyData.int)=r.length
 | []=>rfl
 | _::r=>by
  show 1+szs (r.map PyData.int)=r.length+1
  rw [tL r,Nat.add_comm]
theorem IV (ws:List Int):sz (wD ws)=1+ws.length:=by
 show 1+szs (ws.map PyData.int)=_
 rw [tL]
theorem IW {ws:List Int}(h:OkW ws):gY (wD ws)=true:=by
 unfold gY
 rw [zAc]
 refine ⟨?_,List.all_eq_true.mpr fun d hd=>?_⟩
 ·show (true && (decide (1<=((ws.map PyData.int).length:Int)) && decide (((ws.map PyData.int).length:Int)<=80)))=true
  have h1:=h.1
  have h2:=h.2.1
  rw [zA1,decide_eq_true (by lia),decide_eq_true (by lia)]
  rfl
 ·obtain ⟨w,hw,rfl⟩:=zA5.mp hd
  have:=h.2.2 w hw
  show (true && (decide (1<=w) && decide (w<=99)))=true
  rw [decide_eq_true this.1,decide_eq_true this.2]
  rfl
inductive SpRefuseI (vs:List V)(H:Hp)(Q:VK):Prop
 | mk:∀ n p ws,(vs=[.int n,.ref p])->(H p=some (.tup (ws.map V.int)))->(OkW ws)->(0<=n)->(n<=ws.sum)->(∀ H',Same H H'->Q .non H')->SpRefuseI  vs H Q
def tM:Sp:=fun vs H Q _=>SpRefuseI  vs H Q
inductive SpPlacesI (vs:List V)(H:Hp)(Q:VK):Prop
 | mk:∀ p rests,(vs=[.ref p])->(H p=some (.lst ((rests:List Int).map V.int)))->(rests.length < sizeLine)->(∀ H' q pl,Ord rests pl->Same H H'->H q=none->H' q=some (.lst (pl.map fun j:Nat=>V.int (j:Int)))->Q (.ref q) H')->SpPlacesI  vs H Q
def tO:Sp:=fun vs H Q _=>SpPlacesI  vs H Q
inductive SpPartsI (vs:List V)(H:Hp)(Q:VK):Prop
 | mk:∀ n p ws,(vs=[.int n,.ref p])->(H p=some (.tup (ws.map V.int)))->(OkW ws)->(0<=n)->(n<=ws.sum)->(∀ H' q,Same H H'->H' q=some (.tup ((res n ws).map V.int))->Q (.ref q) H')->SpPartsI  vs H Q
def spParts:Sp:=fun vs H Q _=>SpPartsI  vs H Q
def gB (H:Hp)(a:Addr):Nat:=match H a with
 | some (.tup [_,.int y])=>y.toNat
 | _=>0
def rowAt (H:Hp)(a:Addr):List Int:=match H a with
 | some (.tup [.int x,.int y])=>[x,y]
 | _=>[]
theorem GQ {rests:List Int}{i:Nat}{x:Int}(h:rests[i]?=some x):rr rests i=x:=by
 unfold rr
 rw [zA7,h]
 rfl
theorem Ca {rests:List Int}{i j:Nat}(h:HT.lexLt [-(rr rests j),(j:Int)] [-(rr rests i),(i:Int)]=false):bef rests i j=true:=by
 rw [jw]
 rw [HT.lexLt_cons] at h
 by_cases e:-(rr rests j)=-(rr rests i)
 ·rw [if_pos e,HT.lexLt_cons] at h
  by_cases e2:(j:Int)=(i:Int)
  ·exact .inr ⟨by lia,by lia⟩
  ·rw [if_neg e2] at h
   have:=of_decide_eq_false h
   exact .inr ⟨by lia,by lia⟩
 ·rw [if_neg e] at h
  have:=of_decide_eq_false h
  exact .inl (by lia)
section
variable {P:Program}{w:World}{K:PySem.W.Frag}{mg:Str->Option Value}{base:Heap}
theorem J0:FnScope ["sacks","weights"] ["sacks","weights"] (aJ (top 45)):=⟨rfl,rfl,rfl,by decide +kernel,rfl,by decide +kernel,by decide +kernel⟩
theorem ok_refuse {f:Addr}{fd:FuncData}(F:Fun K "refuse_unpartable" "refuse_unpartable" (top 45) f fd)(Ts:mg "sum" = none)(c1:Cal P w K mg base 4 "are_weights" ["thing"] (spT gY))(c2:Cal P w K mg base 2 "is_whole_from" ["thing","least","most"] (lA oJ)) :
  FnOk P w K mg base CX0 5 f fd ["sacks","weights"] tM:=by
 refine F.ok J0 (fun vs H Q E h=>?_) (fun cdv A outer s H vs Q E hr h=>?_)
 ·obtain ⟨n,p,ws,rfl,_⟩:=h
  rfl
 ·obtain ⟨n,p,ws,rfl,ep,ok,n0,n1,q⟩:=h
  refine ⟨_,aB (cu (bY (cN (aK c1 hr (by decide) rfl (aQ (pv 1) aj)))) (aH dz) bh)
   (aH (cu (bY (cN (aK c2 hr (by decide) rfl (aQ (pv 0) (aQ aA (aQ (aO (eQ rfl) rfl Ts boot_sum (az (pv 1) aj)) aj)))))) (aH dz) bh)),?_⟩
  refine aG ?_
  refine ⟨_,rfl,fun _=>False,_,wD ws,rfl,.tup ep (IsThs.ints ws),by rw [IV];have:=ok.2.1;lia,fun H1 s1=>⟨_,rfl,?_⟩⟩
  rw [IW ok]
  refine bD ?_
  dsimp only
  refine ⟨_,rfl,_,rfl,p,ws,rfl,.inr (SqT.of (s1 _ _ ep)),fun _=>False,_,.int n,0,_,rfl,.int n,(by show 1<=4000;decide),fun H2 s2=>⟨_,rfl,?_⟩⟩
  have e:oJ (.int n) 0 ws.sum=true:=by
   show (true && (decide (0<=n) && decide (n<=ws.sum)))=true
   rw [decide_eq_true n0,decide_eq_true n1]
   rfl
  rw [e]
  exact bD (q H2 (s1.trans s2))
theorem sc13:FnScope ["rests","ranked"] ["rests"] (aJ (top 46)):=⟨rfl,rfl,rfl,by decide +kernel,rfl,by decide +kernel,by decide +kernel⟩
theorem ok_places {f:Addr}{fd:FuncData}(F:Fun K "places_by_rest" "places_by_rest" (top 46) f fd)(Te:mg "enumerate" = none)(Ts:mg "sorted" = none):FnOk P w K mg base CX0 1 f fd ["rests"] tO:=by
 refine F.ok sc13 (fun vs H Q E h=>?_) (fun cdv A outer s H vs Q E hr h=>?_)
 ·obtain ⟨p,rests,rfl,_⟩:=h
  rfl
 ·obtain ⟨p,rests,rfl,ep,hz,q⟩:=h
  refine ⟨_,aB (bf (i:=1) sc13.nd rfl (Or.inl rfl) (aO qY rfl Ts boot_sorted (az (bZ (g:=lq K 2 (cA (bK 0) (cA (bK 1) lV))) ["at","rest"] [none,none] rfl (EL.pi_enum rfl Te (az (pv 0) aj))
    (fun C fp pins s₂ H₂=>⟨dJ rfl rfl (aq (au (i:=0) (nd2 _ _ (by decide)) rfl (Or.inl rfl) (Or.inr rfl)) (aq (au (i:=1) (nd2 _ _ (by decide)) rfl (Or.inl rfl) (Or.inr rfl)) aY)),bT,
     bH (az (Df yC (pv 1)) (az (pv 0) aj))⟩) (fun C=>trivial) ⟨rfl,rfl,rfl,rfl⟩) aj)))
   (aH (aU (bZ (g:=lq K 2 (cA (bK 0) (cA (bK 1) lV))) ["minus","at"] [none,none] rfl (fX (pv 1))
    (fun C fp pins s₂ H₂=>⟨dJ rfl rfl (aq (au (i:=0) (nd2 _ _ (by decide)) rfl (Or.inl rfl) (Or.inr rfl)) (aq (au (i:=1) (nd2 _ _ (by decide)) rfl (Or.inl rfl) (Or.inr rfl)) aY)),bT,
     pv 1⟩) (fun C=>trivial) ⟨rfl,rfl,rfl,rfl⟩))),?_⟩
  refine aG ?_
  refine ⟨_,rfl,p,_,rfl,SqL.of ep,dF rests.length (fun i ys σ Hc=>Same H Hc/\(∃ o1 o2,σ=[o1,o2])/\∃ ts:List Addr,ys=ts.map V.ref/\∀ j,j < i->∃ a,ts[j]?=some a/\Hc a=some (.tup [.int (-(rr rests j)),.int (j:Int)])) ⟨Same.refl H,⟨_,_,rfl⟩,[],rfl,fun j hj=>absurd hj (Nat.not_lt_zero _)⟩ hz ?_ ?_⟩
  ·rintro i ys σ Hc hi hy ⟨s1,⟨o1,o2,rfl⟩,ts,rfl,hts⟩
   rw [zA1] at hy
   have sq1:SqL K Hc p (rests.map V.int):=SqL.of (s1 _ _ ep)
   have hx:(rests.map V.int)[i]?=some (.int (rr rests i)):=by
    rw [zAb,zA0 hi,GQ (zA0 hi)]
    rfl
   refine ⟨⟨_,_,sq1,hx⟩,fun v H' y R hR=>?_⟩
   obtain ⟨T,nT,rfl,y⟩:=y
   obtain ⟨x',hx',rfl⟩:=y _ sq1
   rw [hx] at hx'
   cases hx'
   have s2:=s1.updR (o:=.tup [.int (i:Int),.int (rr rests i)]) nT
   refine ⟨T,_,rfl,SqT.of ao,rfl,_,_,rfl,_,_,rfl,rfl,_,rfl,rr rests i,rfl,_,rfl,(by show 2<=sizeLine;decide),fun t ht=>?_⟩
   refine hR _ _ _ ⟨s2.updR ht,⟨_,_,rfl⟩,ts++[t],by rw [zA4];rfl,fun j hj=>?_⟩
   by_cases e:j < i
   ·obtain ⟨a,h1,h2⟩:=hts j e
    refine ⟨a,by rw [List.getElem?_append_left (by lia)];exact h1,?_⟩
    exact Same.upd ht _ _ (Same.upd nT _ _ h2)
   ·have e:j=i:=by lia
    subst e
    refine ⟨t,by rw [List.getElem?_append_right (by lia),hy,Nat.sub_self];rfl,ao⟩
  ·rintro ys σ Hc hy ⟨s1,_,ts,rfl,hts⟩
   rw [zA1] at hy
   refine ⟨⟨_,SqL.of (s1 _ _ ep),by rw [zA1];exact zA3 _⟩,fun D hD=>?_⟩
   have s2:=s1.updR (o:=.lst (ts.map V.ref)) hD
   have hts2:∀ j,j < rests.length->∃ a,ts[j]?=some a/\upd Hc D (.lst (ts.map V.ref)) a=some (.tup [.int (-(rr rests j)),.int (j:Int)]):=fun j hj=>by
    obtain ⟨a,h1,h2⟩:=hts j hj
    exact ⟨a,h1,Same.upd hD _ _ h2⟩
   have eD:=ao (H:=Hc) (a:=D) (o:=.lst (ts.map V.ref))
   generalize upd Hc D (.lst (ts.map V.ref))=H2 at s2 hts2 eD ⊢
   clear hts hD s1
   have hta:∀ a∈ts,∃ j,j < rests.length/\H2 a=some (.tup [.int (-(rr rests j)),.int (j:Int)]):=fun a ha=>by
    obtain ⟨j,hj,e⟩:=List.getElem_of_mem ha
    obtain ⟨b,h1,h2⟩:=hts2 j (by lia)
    rw [zA0 hj] at h1
    injection h1 with h1
    refine ⟨j,by lia,?_⟩
    rw [<- e,h1]
    exact h2
   refine ⟨D,ts,rowAt H2,rfl,SqL.of eD,fun a ha=>?_,fun q' l' hq pm so=>?_⟩
   ·obtain ⟨j,hj,e⟩:=hta a ha
    have er:rowAt H2 a=[-(rr rests j),(j:Int)]:=by unfold rowAt;rw [e]
    rw [er]
    exact ⟨SqT.of e,by simp⟩
   have hla:∀ a∈l',∃ j,j < rests.length/\H2 a=some (.tup [.int (-(rr rests j)),.int (j:Int)]):=fun a ha=>hta a (pm.mem_iff.mp ha)
   have sn:∀ a∈l',H2 a=some (.tup [.int (-(rr rests (gB H2 a))),.int (gB H2 a:Int)])/\rowAt H2 a=[-(rr rests (gB H2 a)),(gB H2 a:Int)]:=fun a ha=>by
    obtain ⟨j,hj,e⟩:=hla a ha
    have er:rowAt H2 a=[-(rr rests j),(j:Int)]:=by unfold rowAt;rw [e]
    have es:gB H2 a=j:=by unfold gB;rw [e];exact zAi j
    rw [er,es]
    exact ⟨e,rfl⟩
   have ord:Ord rests (l'.map (gB H2)):=by
    refine ⟨?_,?_⟩
    ·refine (pm.map _).trans (List.Perm.of_eq (List.ext_getElem? fun j=>?_))
     by_cases hj:j < rests.length
     ·obtain ⟨a,h1,h2⟩:=hts2 j hj
      rw [zAb,h1,List.getElem?_range hj]
      show some (gB H2 a)=some j
      unfold gB
      rw [h2]
      exact congrArg some (zAi j)
     ·rw [List.getElem?_eq_none (by rw [zA1];lia),List.getElem?_eq_none (by rw [List.length_range];lia)]
    ·refine List.pairwise_map.mpr (so.imp_of_mem fun {a b} ha hb h=>?_)
     rw [(sn a ha).2,(sn b hb).2] at h
     exact Ca h
   have s3:=s2.updR (o:=.lst (l'.map V.ref)) hq
   have ell:l'.length=rests.length:=by rw [pm.length_eq,hy]
   have eq':=ao (H:=H2) (a:=q') (o:=.lst (l'.map V.ref))
   have sn3:∀ a∈l',upd H2 q' (.lst (l'.map V.ref)) a=some (.tup [.int (-(rr rests (gB H2 a))),.int (gB H2 a:Int)]):=fun a ha=>Same.upd hq _ _ (sn a ha).1
   generalize gB H2=sd at ord sn3
   generalize upd H2 q' (.lst (l'.map V.ref))=H3 at s3 eq' sn3 ⊢
   dsimp only
   refine uK ?_
   refine ⟨_,rfl,q',rfl,⟨_,SqL.of eq'⟩,dF rests.length (fun i ys σ Hc=>Same H3 Hc/\(∃ o1 o2,σ=[o1,o2])/\ys=((l'.take i).map sd).map fun j:Nat=>V.int (j:Int)) ⟨Same.refl H3,⟨_,_,rfl⟩,rfl⟩ hz ?_ ?_⟩
   ·rintro i ys σ Hc hi hy ⟨s4,⟨o1,o2,rfl⟩,rfl⟩
    have hi':i < l'.length:=by lia
    have hu:(l'.map V.ref)[i]?=some (.ref l'[i]):=by rw [zAb,zA0 hi'];rfl
    refine ⟨⟨_,_,SqL.of (s4 _ _ eq'),hu⟩,fun v H' y R hR=>?_⟩
    obtain ⟨rfl,y⟩:=y
    have hv:=y _ (SqL.of (s4 _ _ eq'))
    rw [hu] at hv
    cases hv
    refine ⟨l'[i],_,rfl,SqT.of (s4 _ _ (sn3 _ (zAh hi'))),rfl,_,_,rfl,_,_,rfl,rfl,_,rfl,hR _ _ _ ⟨s4,⟨_,_,rfl⟩,?_⟩⟩
    rw [zAj,zA0 hi',zA4,zA4]
    rfl
   ·rintro ys σ Hc hy' ⟨s4,_,rfl⟩
    refine ⟨⟨_,SqL.of (s4 _ _ eq'),by rw [zA1];lia⟩,fun D' hD'=>?_⟩
    have s5:=s3.trans s4
    have hn:H D'=none:=s5.free hD'
    refine q _ D' _ ord (s5.updR hD') hn ?_
    rw [ao,List.take_of_length_le (by lia)]
end
end K74P

namespace K74P
open PySem L2
theorem ni {xs:List V}{i:Nat}(h:i<=xs.length):lu xs none (some (i:Int))=xs.take i:=by
 unfold lu
 rw [HT.sIx_none,HT.sIx_nat,List.drop_zero,Nat.min_eq_left h,Nat.sub_zero]
theorem Cd {n j:Nat}(h:j < n):ixN n (j:Int)=some j:=by
 unfold ixN
 rw [if_pos (by lia),if_pos (by lia),zAi]
theorem Fe {ws:List Int}(ok:OkW ws):ws.length < sizeLine:=by
 have:=ok.2.1
 rw [sizeLine_eq]
 lia
section
variable {P:Program}{w:World}{K:PySem.W.Frag}{mg:Str->Option Value}{base:Heap}
theorem GR:(["weight","sacks","together"]:List Str).Nodup:=by decide +kernel
theorem sc14:FnScope ["sacks","weights","together","parts","rests","left","at"] ["sacks","weights"] (aJ (top 47)):=⟨rfl,rfl,rfl,by decide +kernel,rfl,by decide +kernel,by decide +kernel⟩
theorem ok_parts {f:Addr}{fd:FuncData}(F:Fun K "parts_of" "parts_of" (top 47) f fd)(T:Mg mg)(Ts:mg "sum" = none)(c1:Cal P w K mg base 1 "places_by_rest" ["rests"] tO):FnOk P w K mg base CX0 2 f fd ["sacks","weights"] spParts:=by
 refine F.ok sc14 (fun vs H Q E h=>?_) (fun cdv A outer s H vs Q E hr h=>?_)
 ·obtain ⟨n,p,ws,rfl,_⟩:=h
  rfl
 ·obtain ⟨n,p,ws,rfl,ep,ok,n0,n1,q⟩:=h
  refine ⟨_,aB (bf (i:=2) sc14.nd rfl (Or.inr rfl) (aO (eQ rfl) rfl Ts boot_sum (az (pv 1) aj)))
   (aB (jb (i:=3) ["weight","sacks","together"] [none,some 0,some 2] rfl sc14.nd rfl (Or.inl rfl) (dU (pv 1))
    (fun C fp pins s₂ H₂=>⟨au (i:=0) GR rfl (Or.inl rfl),bT,aV qu (aV gG (pv 1) (pv 0)) (pv 2)⟩) (fun C=>⟨⟨rfl,.inl rfl,rfl,.inl rfl⟩,⟨rfl,.inl rfl,rfl,.inl rfl⟩,trivial⟩) ⟨rfl,rfl,rfl,rfl⟩)
   (aB (jb (i:=4) ["weight","sacks","together"] [none,some 0,some 2] rfl sc14.nd rfl (Or.inl rfl) (dU (pv 1))
    (fun C fp pins s₂ H₂=>⟨au (i:=0) GR rfl (Or.inl rfl),bT,aV fZ (aV gG (pv 1) (pv 0)) (pv 2)⟩) (fun C=>⟨⟨rfl,.inl rfl,rfl,.inl rfl⟩,⟨rfl,.inl rfl,rfl,.inl rfl⟩,trivial⟩) ⟨rfl,rfl,rfl,rfl⟩)
   (aB (bf (i:=5) sc14.nd rfl (Or.inl rfl) (aV dW (pv 0) (aO (eQ rfl) rfl Ts boot_sum (az (pv 3) aj))))
   (aB (cW PassesOwn.never rfl (fX (rQ Bm (aK c1 hr (by decide) rfl (az (pv 4) aj)) vD (vG (pv 5)))) (au (i:=6) sc14.nd rfl (Or.inl rfl))
    (aH (qp (pv 3) (pv 6) iu aA yu set_list)))
   (aH (aU (dh cM rfl T.tuple boot_tuple (az (pv 3) aj)))))))),?_⟩
  have hp:=ok.pos
  have ht:=ok.top
  have hln:=Fe ok
  refine aG ?_
  refine ⟨_,rfl,p,ws,rfl,.inr (SqT.of ep),?_⟩
  dsimp only
  refine aG ?_
  refine ⟨_,rfl,p,rfl,⟨_,SqT.of ep⟩,pU (fun z=>n * z / ws.sum) ep hln (fun z Q hz h=>⟨_,rfl,_,rfl,_,_,rfl,rfl,.inl ⟨by lia,by lia⟩,_,rfl,_,_,rfl,rfl,⟨by lia,by lia⟩,h⟩) ?_⟩
  rw [show ws.map (fun z=>n * z / ws.sum)=fs n ws from rfl]
  intro l1 hl1
  have s1:=Same.upd (o:=.lst ((fs n ws).map V.int)) hl1
  have el1:=ao (H:=H) (a:=l1) (o:=.lst ((fs n ws).map V.int))
  generalize upd H l1 _=H1 at s1 el1 ⊢
  dsimp only
  refine aG ?_
  refine ⟨_,rfl,p,rfl,⟨_,SqT.of (s1 _ _ ep)⟩,pU (fun z=>n * z % ws.sum) (s1 _ _ ep) hln (fun z Q hz h=>⟨_,rfl,_,rfl,_,_,rfl,rfl,.inl ⟨by lia,by lia⟩,_,rfl,_,_,rfl,rfl,(by show 0 < ws.sum;lia),h⟩) ?_⟩
  rw [show ws.map (fun z=>n * z % ws.sum)=rs n ws from rfl]
  intro l2 hl2
  have s2:=s1.updR (o:=.lst ((rs n ws).map V.int)) hl2
  have el2:=ao (H:=H1) (a:=l2) (o:=.lst ((rs n ws).map V.int))
  have el12:=Same.upd (o:=.lst ((rs n ws).map V.int)) hl2 _ _ el1
  have nl1:H l1=none:=hl1
  clear hl1 hl2
  generalize upd H1 l2 _=H2 at s2 el2 el12 ⊢
  clear el1 s1
  dsimp only
  refine aG ?_
  refine ⟨_,rfl,_,rfl,l1,fs n ws,rfl,.inl (SqL.of el12),_,_,rfl,rfl,?_⟩
  show _
  dsimp only
  rw [show n - (fs n ws).sum=lf n ws from rfl]
  refine aG ?_
  refine ⟨_,rfl,l2,rs n ws,rfl,el2,by rw [jU];exact hln,fun H3 l3 pl ord s3 nl3 el3=>⟨_,rfl,_,rfl,l3,_,rfl,SqL.of el3,fun l4 hl4=>⟨l4,rfl,⟨_,SqL.of ao⟩,?_⟩⟩⟩
  have lnn:=zK (n:=n) ok
  have lle:=Dp (n:=n) ok
  have lpl:=ord.len
  rw [jU] at lpl
  have ecut:lu (pl.map fun j:Nat=>V.int (j:Int)) none (some (lf n ws))=(pl.take (lf n ws).toNat).map fun j:Nat=>V.int (j:Int):=by
   rw [List.map_take,<- ni (i:=(lf n ws).toNat) (by rw [zA1];lia),show ((lf n ws).toNat:Int)=lf n ws by lia]
  rw [ecut]
  have fin:=Fd ord
  have inr:∀ j∈pl.take (lf n ws).toNat,j < ws.length:=fun j hj=>by
   have:=ord.lt j (List.mem_of_mem_take hj)
   rw [jU] at this
   exact this
  generalize pl.take (lf n ws).toNat=pk at fin inr hl4 ⊢
  have s4:=(s2.trans s3).updR (o:=.lst (pk.map fun j:Nat=>V.int (j:Int))) hl4
  have el4:=ao (H:=H3) (a:=l4) (o:=.lst (pk.map fun j:Nat=>V.int (j:Int)))
  have el14:=Same.upd (o:=.lst (pk.map fun j:Nat=>V.int (j:Int))) hl4 _ _ (s3 _ _ el12)
  have n14:l4≠l1:=fun z=>by
   rw [z,s3 _ _ el12] at hl4
   cases hl4
  generalize upd H3 l4 (.lst (pk.map fun j:Nat=>V.int (j:Int)))=H4 at s4 el4 el14 ⊢
  clear hl4 el3 nl3 s3 el12 el2 s2
  refine rM (xs:=pk.map fun j:Nat=>V.int (j:Int)) (fun i σ Hc=>∃ o6,σ=[some (.int n),some (.ref p),some (.int ws.sum),some (.ref l1),some (.ref l2),some (.int (lf n ws)),o6]/\Same H Hc/\Hc l4=some (.lst (pk.map fun j:Nat=>V.int (j:Int)))/\Hc l1=some (.lst ((du (fs n ws) (pk.take i)).map V.int))) ?_ ?_ ?_ ?_
  ·exact ⟨none,rfl,s4,el4,el14⟩
  ·rintro i σ Hc hi ⟨o6,rfl,s5,e4,e1⟩
   exact SqL.of e4
  ·rintro i v σ Hc hv ⟨o6,rfl,s5,e4,e1⟩
   rw [zAb] at hv
   cases hj:pk[i]? with
   | none=>rw [hj] at hv;cases hv
   | some j =>
    rw [hj] at hv
    cases hv
    refine aM ?_
    have kp:∀ o,Same H (upd Hc l1 o):=fun o b u e=>by
     rw [aD (aF e nl1)]
     exact s5 _ _ e
    have hlt:j < (du (fs n ws) (pk.take i)).length:=by
     rw [jT,rm]
     exact inr j (List.mem_of_getElem? hj)
    have hx:((du (fs n ws) (pk.take i)).map V.int)[((j:Nat):Int).toNat]?=some (.int ((du (fs n ws) (pk.take i)).getD j 0)):=by
     rw [zAi,zAb,zA0 hlt,zA7,zA0 hlt]
     rfl
    refine ⟨_,rfl,_,rfl,l1,_,(j:Int),_,rfl,rfl,SqL.of e1,by lia,hx,_,_,rfl,rfl,l1,_,(j:Int),j,rfl,rfl,e1,Cd (by rw [zA1];exact hlt),?_⟩
    refine ⟨_,rfl,kp _,by rw [aD n14];exact e4,?_⟩
    rw [ao,zAj,hj]
    show _=some (HO.lst ((du (fs n ws) (pk.take i++[j])).map V.int))
    rw [uV,List.map_set]
  ·rintro σ Hc ⟨o6,rfl,s5,e4,e1⟩
   rw [zA1,zAm,fin] at e1
   dsimp only
   refine uK ?_
   exact ⟨_,rfl,l1,_,rfl,.inl ⟨SqL.of e1,fun t ht=>q _ t (s5.updR ht) ao⟩⟩
theorem sc15:FnScope ["sacks","weights"] ["sacks","weights"] (aJ (top 48)):=⟨rfl,rfl,rfl,by decide +kernel,rfl,by decide +kernel,by decide +kernel⟩
theorem ok_parted {f:Addr}{fd:FuncData}(F:Fun K "parted" "parted" (top 48) f fd)(c1:Cal P w K mg base 5 "refuse_unpartable" ["sacks","weights"] tM)(c2:Cal P w K mg base 2 "parts_of" ["sacks","weights"] spParts):FnOk P w K mg base CX0 6 f fd ["sacks","weights"] spParts:=by
 refine F.ok sc15 (fun vs H Q E h=>?_) (fun cdv A outer s H vs Q E hr h=>?_)
 ·obtain ⟨n,p,ws,rfl,_⟩:=h
  rfl
 ·obtain ⟨n,p,ws,rfl,ep,ok,n0,n1,q⟩:=h
  refine ⟨_,aB (bA (aK c1 hr (by decide) rfl (az (pv 0) (az (pv 1) aj)))) (aH (aU (aK c2 hr (by decide) rfl (az (pv 0) (az (pv 1) aj))))),?_⟩
  refine aG ?_
  refine ⟨_,rfl,_,rfl,n,p,ws,rfl,ep,ok,n0,n1,fun H1 s1=>?_⟩
  dsimp only
  refine uK ?_
  exact ⟨_,rfl,_,rfl,n,p,ws,rfl,s1 _ _ ep,ok,n0,n1,fun H2 t s2 et=>q H2 t (s1.trans s2) et⟩
end
end K74P

namespace K74
open PySem L2
def cY:Int->List (List Int)->List Int
 | _,[]=>[]
 | w,r::rs=>(if w < fl r 3 then w else fl r 3)::cY (w - (if w < fl r 3 then w else fl r 3)) rs
theorem iY:∀ (w:Int) (rs:List (List Int)) (r:List Int),cY w (rs++[r])=cY w rs++[if w - (cY w rs).sum < fl r 3 then w - (cY w rs).sum else fl r 3]
 | w,[],r=>by
  show [_]=[_]
  rw [show (cY w []).sum=0 from rfl,Int.sub_zero]
 | w,q::rs,r=>by
  rw [List.cons_append]
  unfold cY
  rw [iY _ rs r,List.cons_append,List.sum_cons,show ∀ a b c:Int,a - b - c=a - (b+c) from fun a b c=>by lia]
theorem fV:∀ (w:Int) (rs:List (List Int)),(cY w rs).length=rs.length
 | _,[]=>rfl
 | w,r::rs=>by
  unfold cY
  rw [zAe,zAe,fV]
inductive SpMadeI (vs:List V)(H:Hp)(Q:VK):Prop
 | mk:∀ w l xs rs,(vs=[.int w,.ref l])->(H l=some (.lst xs))->(Els H xs rs)->((∀ r∈rs,r.length=4))->(rs.length<=100000)->(∀ m H',Same H H'->H m=none->H' m=some (.lst ((cY w rs).map V.int))->Q (.ref m) H')->SpMadeI  vs H Q
def zM:Sp:=fun vs H Q _=>SpMadeI  vs H Q
def bQ (w:Int)(rs:List (List Int)):List Int:=if (wts rs).sum<=w then wts rs else K74P.res w (wts rs)
inductive SpSharesI (vs:List V)(H:Hp)(Q:VK):Prop
 | mk:∀ w l xs rs,(vs=[.int w,.ref l])->(H l=some (.lst xs))->(Els H xs rs)->((∀ r∈rs,r.length=4/\1<=fl r 3/\fl r 3<=99))->(rs.length<=80)->(0<=w)->(∀ t H',Same H H'->H' t=some (.tup ((bQ w rs).map V.int))->Q (.ref t) H')->SpSharesI  vs H Q
def tQ:Sp:=fun vs H Q _=>SpSharesI  vs H Q
section
variable {P:Program}{w:World}{K:PySem.W.Frag}{mg:Str->Option Value}{base:Heap}
theorem scT1:FnScope ["wool","owed","shares","left","due","number","holder","sacks","share"] ["wool","owed"] (aJ (top 53)):=⟨rfl,rfl,rfl,by decide +kernel,rfl,by decide +kernel,by decide +kernel⟩
theorem Ce {f:Addr}{fd:FuncData}(F:Fun K "made_good" "made_good" (top 53) f fd)(Tn:mg "min" = none):FnOk P w K mg base CX0 1 f fd ["wool","owed"] zM:=by
 refine F.ok scT1 (fun vs H Q E h=>?_) (fun cdv A outer s H vs Q E hr h=>?_)
 ·obtain ⟨w0,l,xs,rs,rfl,_⟩:=h
  rfl
 ·obtain ⟨w0,l,xs,rs,rfl,el,els,h4,hz,q⟩:=h
  refine ⟨_,aB (bf (i:=2) scT1.nd rfl (Or.inl rfl) (cC aj))
   (aB (bf (i:=3) scT1.nd rfl (Or.inl rfl) (pv 0))
   (aB (cW PassesOwn.never rfl (fX (pv 1)) (bU rfl (aq (au (i:=4) scT1.nd rfl (Or.inl rfl)) (aq (au (i:=5) scT1.nd rfl (Or.inl rfl)) (aq (au (i:=6) scT1.nd rfl (Or.inl rfl)) (aq (au (i:=7) scT1.nd rfl (Or.inl rfl)) aY)))))
    (aB (bf (i:=8) scT1.nd rfl (Or.inl rfl) (aO (il rfl) rfl Tn boot_min (az (pv 7) (az (pv 3) aj))))
    (aB (bA (j8 PySem.F.plainAttrs_list PySem.F.slot_list_append PySem.F.type_list_append di (pv 2) (az (pv 8) aj)))
    (aH (lW (i:=3) scT1.nd rfl (Or.inl rfl) (pv 8) yw)))))
   (aH (aU (pv 2))))),?_⟩
  refine aG ?_
  refine aX ?_
  refine ⟨(by show 0<=sizeLine;decide),fun m hm=>?_⟩
  refine aM ?_
  dsimp only
  refine aG ?_
  refine aX ?_
  refine ⟨_,rfl,?_⟩
  refine aM ?_
  dsimp only
  refine aG ?_
  have s1:=Same.upd (o:=.lst []) hm
  have nl:l≠m:=aF el hm
  refine ⟨_,rfl,l,rfl,⟨_,SqL.of (s1 _ _ el)⟩,?_⟩
  refine rM (xs:=xs) (fun i σ Hc=>∃ x4 x5 x6 x7 x8,σ=[some (.int w0),some (.ref l),some (.ref m),some (.int (w0 - (cY w0 (rs.take i)).sum)),x4,x5,x6,x7,x8]/\(∀ b o,H b=some o->Hc b=some o)/\Hc m=some (.lst ((cY w0 (rs.take i)).map V.int))) ?_ ?_ ?_ ?_
  ·refine ⟨none,none,none,none,none,?_,fun b o e=>s1 _ _ e,ao⟩
   rw [List.take_zero,show (cY w0 []).sum=0 from rfl,Int.sub_zero]
   rfl
  ·rintro i σ Hc hi ⟨x4,x5,x6,x7,x8,rfl,k,em⟩
   exact SqL.of (k _ _ el)
  ·rintro i x σ Hc hx ⟨x4,x5,x6,x7,x8,rfl,k,em⟩
   have hi:i < rs.length:=by
    have:=(zAa.mp hx).1
    rw [els.1] at this
    exact this
   obtain ⟨t,ex,et⟩:=els.2 i rs[i] (zA0 hi)
   rw [ex] at hx
   cases hx
   rw [fU (h4 _ (zAh hi))] at et
   refine ⟨t,_,rfl,SqT.of (k _ _ et),rfl,_,_,rfl,_,_,rfl,_,_,rfl,_,_,rfl,rfl,?_⟩
   refine aG ?_
   refine aX ?_
   refine ⟨_,rfl,_,rfl,_,_,rfl,?_⟩
   refine aM ?_
   dsimp only
   refine aG ?_
   refine ⟨_,rfl,.inl ⟨rfl,_,SqL.of em⟩,_,rfl,m,_,_,rfl,rfl,em,?_,?_⟩
   ·rw [zA1,fV,zAd,sizeLine_eq]
    lia
   have etk:rs.take (i+1)=rs.take i++[rs[i]]:=by rw [zAj,zA0 hi];rfl
   dsimp only
   refine ⟨_,rfl,_,rfl,_,_,rfl,rfl,some (.int (fl rs[i] 0)),some (.int (fl rs[i] 1)),some (.int (fl rs[i] 2)),some (.int (fl rs[i] 3)),some (.int (if w0 - (cY w0 (rs.take i)).sum < fl rs[i] 3 then w0 - (cY w0 (rs.take i)).sum else fl rs[i] 3)),?_,fun b o e=>?_,?_⟩
   ·rw [etk,iY,List.sum_append,List.sum_cons,List.sum_nil,Int.add_zero,show ∀ a b c:Int,a - (b+c)=a - b - c from fun a b c=>by lia]
    rfl
   ·rw [aD (aF e hm)]
    exact k _ _ e
   ·rw [ao,etk,iY,zA4]
    rfl
  ·rintro σ Hc ⟨x4,x5,x6,x7,x8,rfl,k,em⟩
   rw [show xs.length=rs.length from els.1,zAm] at em
   exact ⟨_,rfl,q m Hc (fun b o e=>k b o e) hm em⟩
theorem scT2:FnScope ["wool","claims","weights"] ["wool","claims"] (aJ (top 52)):=⟨rfl,rfl,rfl,by decide +kernel,rfl,by decide +kernel,by decide +kernel⟩
theorem xX {f:Addr}{fd:FuncData}(F:Fun K "shares_of" "shares_of" (top 52) f fd)(T:Mg mg)(Ts:mg "sum" = none)(c1:Cal P w K mg base 6 "parted" ["sacks","weights"] K74P.spParts):FnOk P w K mg base CX0 7 f fd ["wool","claims"] tQ:=by
 refine F.ok scT2 (fun vs H Q E h=>?_) (fun cdv A outer s H vs Q E hr h=>?_)
 ·obtain ⟨w0,l,xs,rs,rfl,_⟩:=h
  rfl
 ·obtain ⟨w0,l,xs,rs,rfl,el,els,h4,hz,hw,q⟩:=h
  refine ⟨_,aB (bf (i:=2) scT2.nd rfl (Or.inl rfl) (dh cM rfl T.tuple boot_tuple (az (bZ (g:=lq K 4 (cA (bK 0) (cA (bK 1) (cA (bK 2) (cA (bK 3) lV))))) ["due","number","holder","sacks"] [none,none,none,none] rfl (fX (pv 1))
    (fun C fp pins s₂ H₂=>⟨dJ rfl rfl (aq (au (i:=0) nd4 rfl (Or.inl rfl) (Or.inr rfl)) (aq (au (i:=1) nd4 rfl (Or.inl rfl) (Or.inr rfl)) (aq (au (i:=2) nd4 rfl (Or.inl rfl) (Or.inr rfl)) (aq (au (i:=3) nd4 rfl (Or.inl rfl) (Or.inr rfl)) aY)))),bT,pv 3⟩) (fun C=>trivial) ⟨rfl,rfl,rfl,rfl⟩) aj)))
   (aH (aU (j5 (bJ bO (aO (eQ rfl) rfl Ts boot_sum (az (pv 2) aj)) (pv 0) (bI _)) (pv 2) (aK c1 hr (by decide) rfl (az (pv 0) (az (pv 2) aj)))))),?_⟩
  refine aG ?_
  refine aX ?_
  refine ⟨_,rfl,l,rfl,⟨_,SqL.of el⟩,dF rs.length (fun i ys σ Hc=>Same H Hc/\(∃ o1 o2 o3 o4,σ=[o1,o2,o3,o4])/\ys=(wts (rs.take i)).map V.int) ⟨Same.refl H,⟨_,_,_,_,rfl⟩,rfl⟩ (by rw [sizeLine_eq];lia) ?_ ?_⟩
  ·rintro i ys σ Hc hi hy ⟨s1,⟨o1,o2,o3,o4,rfl⟩,rfl⟩
   obtain ⟨t,ex,et⟩:=els.2 i rs[i] (zA0 hi)
   rw [fU (h4 _ (zAh hi)).1] at et
   refine ⟨⟨_,_,SqL.of (s1 _ _ el),ex⟩,fun v H' y R hR=>?_⟩
   obtain ⟨rfl,y⟩:=y
   have hv:=y _ (SqL.of (s1 _ _ el))
   rw [ex] at hv
   cases hv
   refine ⟨t,_,rfl,SqT.of (s1 _ _ et),rfl,_,_,rfl,_,_,rfl,_,_,rfl,_,_,rfl,rfl,_,rfl,hR _ _ _ ⟨s1,⟨_,_,_,_,rfl⟩,?_⟩⟩
   unfold wts
   rw [zAj,zA0 hi,zA4,zA4]
   rfl
  ·rintro ys σ Hc hy ⟨s1,_,rfl⟩
   refine ⟨⟨_,SqL.of (s1 _ _ el),by rw [els.1];exact zA3 _⟩,fun D hD=>?_⟩
   rw [zAm]
   refine ⟨D,_,rfl,.inl ⟨SqL.of ao,fun t ht=>?_⟩⟩
   have s2:=(s1.updR (o:=.lst ((wts rs).map V.int)) hD).updR (o:=.tup ((wts rs).map V.int)) ht
   have et:=ao (H:=upd Hc D (.lst ((wts rs).map V.int))) (a:=t) (o:=.tup ((wts rs).map V.int))
   generalize upd (upd Hc D (.lst ((wts rs).map V.int))) t (.tup ((wts rs).map V.int))=H2 at s2 et ⊢
   refine aM ?_
   dsimp only
   refine ⟨_,rfl,t,wts rs,rfl,.inr (SqT.of et),_,rfl,_,_,rfl,rfl,_,rfl,?_⟩
   by_cases hs:(wts rs).sum<=w0
   ·rw [decide_eq_true hs]
    refine cj ⟨_,rfl,q t H2 s2 ?_⟩
    unfold bQ
    rw [if_pos hs]
    exact et
   ·rw [decide_eq_false hs]
    refine bD ⟨_,rfl,_,rfl,w0,t,wts rs,rfl,et,⟨?_,?_,fun x hx=>?_⟩,hw,by lia,fun H3 t3 s3 e3=>q t3 H3 (s2.trans s3) ?_⟩
    ·cases hr':rs with
     | nil =>
      rw [hr'] at hs
      exact absurd hw hs
     | cons r rs' =>
      unfold wts
      rw [zA1,zAe]
      lia
    ·unfold wts
     rw [zA1]
     exact hz
    ·obtain ⟨r,hr',rfl⟩:=zA5.mp hx
     exact (h4 r hr').2
    ·unfold bQ
     rw [if_neg hs]
     exact e3
end
end K74

namespace L2.ZL
open PySem PySem.Spec PyProof.Rows
def Itz (K:PySem.W.Frag)(a b:Addr):It :=
 ⟨fun i H=>∃ xs ys x y,SqL K H a xs/\SqL K H b ys/\xs[i]?=some x/\ys[i]?=some y,
  fun i H v H'=>∃ T,H T=none/\v=.ref T/\∀ xs ys,SqL K H a xs->SqL K H b ys->∃ x y,xs[i]?=some x/\ys[i]?=some y/\H'=upd H T (.tup [x,y]),
  fun i H=>∃ xs ys,SqL K H a xs/\SqL K H b ys/\(xs.length<=i\/ys.length<=i)⟩
def tnz (z TI TO i1 i2 a b:Addr)(i:Nat)(h:Heap):Prop:=IsZip h z TI TO .none/\IsPair h TI (.ref i1) (.ref i2)/\(∃ u v,IsPair h TO u v)/\h.IsListIter i1 a i/\h.IsListIter i2 b i
theorem zN {P:Program}{w:World}{K:PySem.W.Frag}{es:List Expr}{k:Nat}{pos:Pos}{z TI TO i1 i2 a b:Addr}(D:ZipApart z TI TO i1 i2 a b) :
  Turn P w K (.Tuple es k pos) (Itz K a b) [z,TI,TO,i1,i2] z (tnz z TI TO i1 i2 a b) where
 mem:=by simp
 obj:=fun i h st c hc=>by
  obtain ⟨s1,s2,⟨u,v,s3⟩,⟨o4,s4,c4,d4⟩,⟨o5,s5,c5,d5⟩⟩:=st
  simp only [List.mem_cons,List.not_mem_nil,or_false] at hc
  rcases hc with e | e | e | e | e <;> subst e
  ·exact ⟨_,s1,fun v q=>by cases q⟩
  ·exact ⟨_,s2,fun v q=>by cases q⟩
  ·exact ⟨_,s3,fun v q=>by cases q⟩
  ·exact ⟨_,s4,fun v q=>by rw [d4] at q;cases q⟩
  ·exact ⟨_,s5,fun v q=>by rw [d5] at q;cases q⟩
 keep:=fun i h h' st kp=>by
  obtain ⟨s1,s2,⟨u,v,s3⟩,s4,s5⟩:=st
  exact ⟨kp z (by simp) _ s1,kp TI (by simp) _ s2,⟨u,v,kp TO (by simp) _ s3⟩,s4.at fun o e=>kp i1 (by simp) o e,s5.at fun o e=>kp i2 (by simp) o e⟩
 item:=by
  intro X hP hw hK hc i pins s σ H E I hf st hg
  subst hP hw hK
  obtain ⟨s1,s2,⟨u,v,s3⟩,s4,s5⟩:=st
  obtain ⟨xs,ys,x,y,hxs,hys,hx,hy⟩:=hg
  obtain ⟨its,rv,p,_⟩:=I.list hxs
  obtain ⟨jts,rw',q,_⟩:=I.list hys
  obtain ⟨ux,hux,rx⟩:=rv.get hx
  obtain ⟨uy,huy,ry⟩:=rw'.get hy
  refine wpAny_pyNext_zip_item D s1 s2 s3 s4 s5 p.isList q.isList (x:=ux) (y:=uy) (by simpa using hux) (by simpa using huy) fun h1 g1 g2 g3 g4 g5 g6 kp=>?_
  refine ⟨_,rfl,?_⟩
  refine wpAny_letOwnedTupleGo_zip g1 fun h2 e1 sb=>?_
  have ne:∀ c,c∈[z,TI,TO,i1,i2]->c≠s.heap.objs.size:=fun c hc' e=>by
   obtain ⟨f0,f1,f2,f3,f4,f5⟩:=hf c hc'
   have:∃ o,s.heap.get? c=some o:=by
    simp only [List.mem_cons,List.not_mem_nil,or_false] at hc'
    rcases hc' with q | q | q | q | q <;> subst q
    ·exact ⟨_,s1⟩
    ·exact ⟨_,s2⟩
    ·exact ⟨_,s3⟩
    ·exact let ⟨o,h,_⟩:=s4;⟨o,h⟩
    ·exact let ⟨o,h,_⟩:=s5;⟨o,h⟩
   obtain ⟨o,ho⟩:=this
   exact absurd (Heap.lt_size ho) (by rw [e];exact Nat.lt_irrefl _)
  have hT:H s.heap.objs.size=none:=I.hok.fresh (zA3 _)
  have kept:∀ c o,c ∉ [z,TO,i1,i2]->s.heap.get? c=some o->h2.get? c=some o:=fun c o hc' e =>
   sb.extBut _ _ (fun q=>hc' (by simp [q])) (kp c o (fun q=>hc' (by simp [q])) (fun q=>hc' (by simp [q])) (fun q=>hc' (by simp [q])) (fun q=>hc' (by simp [q])) e)
  have inF:∀ c,c∈[z,TO,i1,i2]->c∈[z,TI,TO,i1,i2]:=fun c hc'=>by
   simp only [List.mem_cons,List.not_mem_nil,or_false] at hc' ⊢
   rcases hc' with q | q | q | q <;> simp [q]
  have trk:∀ c o,H c=some o->c ∉ [z,TO,i1,i2]:=fun c o e hc'=>by
   have:=(hf c (inF c hc')).1
   rw [e] at this;cases this
  have newT:h2.get? s.heap.objs.size=some { cls:=.type "tuple",data:=.seq #[ux,uy] }:=sb.extBut _ _ (Ne.symm (ne z (by simp))) g5
  have hok2:HOk X.prog X.w (upd H s.heap.objs.size (.tup [x,y])) h2:=fun c o e=>by
   by_cases hb:c=s.heap.objs.size
   ·subst hb
    rw [ao] at e
    cases e
    exact ⟨by show 2<=sizeLine;decide,[ux,uy],.cons rx (.cons ry .nil),_,newT,rfl,_,rfl⟩
   ·rw [aD hb] at e
    refine (I.hok c o e).stay (fun d v hd q=>kept d v ?_ q) (fun d q=>by rw [aD (aF q hT)];exact q) fun d l q=>by rw [aD (aF q hT)];exact q
    rcases hd with e' | e'
    ·rw [e'];exact trk c o e
    ·exact trk d _ e'
  have I2:Inv X pins σ (upd H s.heap.objs.size (.tup [x,y])) { s with heap:=h2 }:=by
   refine I.step (g':=s.gens) (d':=s.drawn) (t':=s.toks) (ch:=[z,TO,i1,i2]) (fun c hc'=>?_) (fun c o _ _ hn e _=>kept c o hn e) (fun c o _ _ hn e _=>⟨o.slots,kept c o hn e⟩)
    (fun c o _ e n=>by rw [aD (Nat.ne_of_lt (Heap.lt_size e))];exact n) (fun c o hn e=>⟨o,kept c o hn e⟩) (fun c l e=>by rw [aD (aF e hT)];exact e) (fun c o l e=>by rw [aD (aF e hT)];exact e)
    (fun c l e=>⟨#[],by rw [aD (aF e hT),e];simp⟩) (fun m hm=>?_) hok2 I.bare
   ·obtain ⟨f0,f1,f2,f3,f4,f5⟩:=hf c (inF c hc')
    exact ⟨f3,f1,f4,f5⟩
   ·obtain ⟨o,es',ep,ho,r⟩:=hm
    refine ⟨o,es',ep,kept _ o (fun hc'=>?_) ho,r⟩
    exact (hf _ (inF _ hc')).2.1 rfl
  refine ⟨.ref s.heap.objs.size,_,I2,rfl,⟨s.heap.objs.size,hT,rfl,fun xs' ys' e1' e2'=>⟨x,y,?_,?_,rfl⟩⟩,⟨e1,?_,?_,?_,?_⟩,fun c hc'=>?_⟩
  ·rw [I.list_inj e1' hxs];exact hx
  ·rw [I.list_inj e2' hys];exact hy
  ·exact sb.extBut _ _ D.TIz (kp _ _ D.TIz D.TITO D.TIi1 D.TIi2 s2)
  ·exact ⟨_,_,sb.extBut _ _ D.TOz g2⟩
  ·exact g3.extBut sb.extBut D.i1z
  ·exact g4.extBut sb.extBut D.i2z
  ·rw [aD (ne c hc')]
   exact (hf c hc').1
 done:=by
  intro X hP hw hK hc i pins s σ H E I hf st hg
  subst hP hw hK
  obtain ⟨s1,s2,⟨u,v,s3⟩,s4,s5⟩:=st
  obtain ⟨xs,ys,hxs,hys,hlen⟩:=hg
  obtain ⟨its,rv,p,_⟩:=I.list hxs
  obtain ⟨jts,rw',q,_⟩:=I.list hys
  have hl:=rv.length
  have hl2:=rw'.length
  refine wpAny_pyNext_zip_end (I.ok.hd hc) D s1 s2 s3 s4 s5 p.isList q.isList (by simp;lia) fun h' kp=>⟨rfl,?_⟩
  refine I.step (h':=h') (H':=H) (g':=s.gens) (d':=s.drawn) (t':=s.toks) (ch:=[z,TO,i1,i2]) (fun c hc'=>?_) (fun c o _ _ hn e _=>kp c o (fun q=>hn (by simp [q])) (fun q=>hn (by simp [q])) (fun q=>hn (by simp [q])) (fun q=>hn (by simp [q])) e)
   (fun c o _ _ hn e _=>⟨o.slots,kp c o (fun q=>hn (by simp [q])) (fun q=>hn (by simp [q])) (fun q=>hn (by simp [q])) (fun q=>hn (by simp [q])) e⟩) (fun c o _ e n=>n) (fun c o hn e=>⟨o,kp c o (fun q=>hn (by simp [q])) (fun q=>hn (by simp [q])) (fun q=>hn (by simp [q])) (fun q=>hn (by simp [q])) e⟩)
   (fun _ _ e=>e) (fun _ _ _ e=>e) (fun c l e=>⟨#[],by rw [e];simp⟩) (fun m hm=>?_) (fun c o e=>?_) I.bare
  ·have:c∈[z,TI,TO,i1,i2]:=by
    simp only [List.mem_cons,List.not_mem_nil,or_false] at hc' ⊢
    rcases hc' with q | q | q | q <;> simp [q]
   obtain ⟨f0,f1,f2,f3,f4,f5⟩:=hf c this
   exact ⟨f3,f1,f4,f5⟩
  ·obtain ⟨o,es',ep,ho,r⟩:=hm
   exact ⟨o,es',ep,kp _ o (Ne.symm (hf z (by simp)).2.1) (Ne.symm (hf TO (by simp)).2.1) (Ne.symm (hf i1 (by simp)).2.1) (Ne.symm (hf i2 (by simp)).2.1) ho,r⟩
  ·have nn:∀ d v c',c'∈[z,TI,TO,i1,i2]->H d=some v->d≠c':=fun d v c' hc' q e'=>by
    have:=(hf c' hc').1
    rw [<- e',q] at this
    cases this
   have nz:∀ d v,H d=some v->d≠z/\d≠TO/\d≠i1/\d≠i2:=fun d v q=>⟨nn d v z (by simp) q,nn d v TO (by simp) q,nn d v i1 (by simp) q,nn d v i2 (by simp) q⟩
   refine (I.hok c o e).stay (fun d v hd q=>?_) (fun _ q=>q) fun _ _ q=>q
   rcases hd with e' | e'
   ·rw [e'] at q ⊢;exact kp c v (nz c o e).1 (nz c o e).2.1 (nz c o e).2.2.1 (nz c o e).2.2.2 q
   ·exact kp d v (nz d _ e').1 (nz d _ e').2.1 (nz d _ e').2.2.1 (nz d _ e').2.2.2 q
 self:=fun _ _ _ _ _ st h=>wpAny_pyIter_zip st.1 h
section
variable {X:Cx}
def J1 (K:PySem.W.Frag)(t:TA):TI:=fun σ H R=>t σ H fun vs H1=>∃ a b xs ys,vs=[.ref a,.ref b]/\SqL K H1 a xs/\SqL K H1 b ys/\R (Itz K a b) H1
theorem pi_zip {es:List Expr}{k:Nat}{tp:Pos}{a b:Expr}{ta:TA}{p pos:Pos}(hg:Gl X "zip")(hm:X.mg "zip" = none)(ha:PA X [a,b] ta)(hs:starEach [a,b] X.env=[(false,eval a X.env),(false,eval b X.env)]:=by rfl)(hs2:starEach [b] X.env=[(false,eval b X.env)]:=by rfl) :
  PI X (.Tuple es k tp) (.Call (.Name "zip" p) [a,b] [] pos) (J1 X.K ta):=by
 intro pins s σ H R I h
 refine Call_ (gF I hg hm boot_zip (PyProof.Rows.callWith_type1 (thn (ha pos pins s σ H _ I h) fun us s1 ⟨vs,H1,I1,r1,q1⟩=>?_) (by rw [hs,hs2]) (by rw [hs2];rfl)))
 obtain ⟨x,y,xs,ys,e,hx,hy,q⟩:=q1
 subst e
 obtain ⟨u,v,rfl,ru,rv⟩:=vals2 r1
 cases ru
 cases rv
 obtain ⟨its,_,p1,_⟩:=I1.list hx
 obtain ⟨jts,_,p2,_⟩:=I1.list hy
 refine call_zip_2 p1.isList p2.isList fun h' z1 z2 z3 z4 z5 _ kp=>?_
 refine wpAny_pyIter_zip z1 ?_
 have lx:x < s1.heap.objs.size:=by obtain ⟨_,e,_⟩:=p1.isList;exact Heap.lt_size e
 have ly:y < s1.heap.objs.size:=by obtain ⟨_,e,_⟩:=p2.isList;exact Heap.lt_size e
 refine ⟨_,_,_,_,H1,rfl,I1.kept (t':=s1.toks) kp,zN (zipApart_new lx ly),⟨z1,z2,⟨_,_,z3⟩,z4,z5⟩,fun c hc=>?_,q⟩
 have hle:s1.heap.objs.size<=c:=by
  simp only [List.mem_cons,List.not_mem_nil,or_false] at hc
  rcases hc with q | q | q | q | q <;> subst q
  ·exact Nat.le_add_right _ 4
  ·exact Nat.le_add_right _ 2
  ·exact Nat.le_add_right _ 3
  ·exact zA3 _
  ·exact Nat.le_add_right _ 1
 exact I1.fpOk hle (I1.hok.fresh hle)
end
end L2.ZL

namespace L2
open PySem PySem.Spec PyProof.Rows
theorem xY {M:Model}{A:Around}{E:Value->Shared->Prop}{s:Shared}{a b:Value}{Q:Value->Shared->Prop}(ha:s.TypeIs a "list")(hb:s.TypeIs b "list")(hc:wpAny M A (call (.builtin "list.__iadd__") [a,b]) Q E s):wpAny M A (inplaceOp .Add a b) Q E s:=by
 unfold inplaceOp
 refine wpAny_holding ?_
 have hl:typeLookup (.type "list") (dunderI "add")=pure (some (.builtin "list.__iadd__")):=F.slot_list_iadd.lookup
 have hfi:fillsInplaceSlot (.type "list") "add" (Operator.Add == .Add)=pure false:=by
  unfold fillsInplaceSlot
  show (typeLookup (.type "list") (dunderI "add") >>= fun fi=>pure (fi.isSome && !isSeqSlot fi))=pure false
  rw [hl]
  have:isSeqSlot (some (.builtin "list.__iadd__"))=true:=by decide +kernel
  show (pure (true && !isSeqSlot (some (.builtin "list.__iadd__"))):Sem Bool)=_
  rw [this]
  rfl
 have hsi:seqSlot? (.type "list") (dunderI "add")=pure (some (.builtin "list.__iadd__")):=PySem.seqSlot_of F.slot_list_iadd.lookup (by decide +kernel)
 refine wpAny_bind (wpAny_typeOf ha (wpAny_bind (wpAny_of_eq hfi ?_)))
 show wpAny M A (if false=true then _ else _) Q E s
 rw [if_neg zAg]
 refine wpAny_bind (wpAny_binaryOp1_none (nm:="add") ha hb noFill_list_add ?_)
 refine wpAny_bind (wpAny_of_eq hsi ?_)
 exact wpAny_bind (wpAny_rule hc)
inductive RICatI (x:V)(y:V)(H:Hp)(Q:VK):Prop
 | mk:∀ l b xs zs,(x=.ref l)->(y=.ref b)->(H l=some (.lst xs))->(H b=some (.lst zs))->(xs.length+zs.length<=sizeLine)->(Q (.ref l) (upd H l (.lst (xs++zs))))->RICatI  x y H Q
def GX:TIp:=fun x y H Q=>RICatI  x y H Q
theorem rA {X:Cx}:PIp X .Add GX:=by
 intro pins s σ H x y v u Q I rx ru h
 obtain ⟨l,b,xs,zs,rfl,rfl,hH,hB,hz,q⟩:=h
 cases rx
 cases ru
 obtain ⟨z,its,n,r,hl,e⟩:=I.lstM hH
 obtain ⟨z2,its2,n2,r2,hl2,e2⟩:=I.lstM hB
 have hsz:its.toArray.size+its2.toArray.size<=sizeLine:=by rw [zA8,zA8];lia
 have hlong:¬ (!its.toArray.isEmpty && Builtin.List.listTooLong (its.toArray.size+its2.toArray.size))=true:=by
  rw [mD hsz,Bool.and_false]
  exact zAg
 refine xY ⟨_,e,rfl⟩ ⟨_,e2,rfl⟩ (call_meets F.slot_list_iadd ⟨_,e,rfl⟩ F.entry_list_iadd (F.args_list_iadd_2 _ _)
  (AutoSeq1.list___iadd___list_list_0 l its.toArray n b its2.toArray n2 hlong (by rw [zA8];lia) (by lia)) ⟨e,e2,?_⟩)
 refine ⟨.ref l,_,I.lset (its':=its++its2) hH e (by simp) (r.append r2) ?_,rfl,q⟩
 rw [zA2]
 lia
end L2

namespace K74
open PySem L2
theorem jx {J:It}{g:TG}{tt:TT}{te:TE}{σ0:St}{H0:Hp}{Fin:List V->Hp->Prop}(n:Nat)(Pv:Nat->List V->St->Hp->Prop)(h0:Pv 0 [] σ0 H0)(hz:n < sizeLine)
  (step:∀ i ys σ H,i < n->ys.length<=i->Pv i ys σ H->J.go i H/\∀ x H',J.yld i H x H'->∀ R:List V->St->Hp->Prop,(∀ ys' σ2 H4,ys'.length<=i+1->Pv (i+1) ys' σ2 H4->R ys' σ2 H4)->g x σ H' fun σ2 H2=>tt σ2 H2 fun b H3=>if b=true then te σ2 H3 fun y H4=>R (ys++[y]) σ2 H4 else R ys σ2 H3)
  (fin:∀ ys σ H,ys.length<=n->Pv n ys σ H->J.stop n H/\Fin ys H):j9 J g tt te Fin σ0 H0:=by
 refine ⟨fun i m ys σ H=>m=n - i/\i<=n/\ys.length<=i/\Pv i ys σ H,⟨_,rfl,zAp _,zA3 _,h0⟩,?_⟩
 rintro i m ys σ H ⟨rfl,hi,hy,p⟩
 refine ⟨by lia,?_⟩
 by_cases hlt:i < n
 ·obtain ⟨go,st⟩:=step i ys σ H hlt hy p
  exact .inr ⟨go,fun x H' y=>st x H' y (fun ys' σ2 H4=>∃ m',m' < n - i/\m'=n - (i+1)/\i+1<=n/\ys'.length<=i+1/\Pv (i+1) ys' σ2 H4) fun ys' σ2 H4 l2 p2=>⟨n - (i+1),by lia,rfl,hlt,l2,p2⟩⟩
 ·have e:i=n:=by lia
  subst e
  exact .inl (fin ys σ H hy p)
def fM (P:List (List Int×Int)):List (List Int):=(P.filter fun p=>decide (0 < p.2)).map fun p=>[fl p.1 0,fl p.1 1,fl p.1 2,p.2]
def fD (P:List (List Int×Int)):List (List Int):=(P.filter fun p=>decide (p.2 < fl p.1 3)).map fun p=>[fl p.1 0,fl p.1 1,fl p.1 2,fl p.1 3 - p.2]
theorem pW (P:List (List Int×Int))(p:List Int×Int):fM (P++[p])=fM P++(if 0 < p.2 then [[fl p.1 0,fl p.1 1,fl p.1 2,p.2]] else []):=by
 unfold fM
 rw [List.filter_append,zA4]
 congr 1
 by_cases h:0 < p.2
 ·rw [if_pos h,List.filter_cons_of_pos (p:=fun (p:List Int×Int)=>decide (0 < p.2)) (decide_eq_true h)]
  rfl
 ·rw [if_neg h,List.filter_cons_of_neg (p:=fun (p:List Int×Int)=>decide (0 < p.2)) (by rw [decide_eq_true_eq];exact h)]
  rfl
theorem nG (P:List (List Int×Int))(p:List Int×Int):fD (P++[p])=fD P++(if p.2 < fl p.1 3 then [[fl p.1 0,fl p.1 1,fl p.1 2,fl p.1 3 - p.2]] else []):=by
 unfold fD
 rw [List.filter_append,zA4]
 congr 1
 by_cases h:p.2 < fl p.1 3
 ·rw [if_pos h,List.filter_cons_of_pos (p:=fun (p:List Int×Int)=>decide (p.2 < fl p.1 3)) (decide_eq_true h)]
  rfl
 ·rw [if_neg h,List.filter_cons_of_neg (p:=fun (p:List Int×Int)=>decide (p.2 < fl p.1 3)) (by rw [decide_eq_true_eq];exact h)]
  rfl
theorem iZ {w:Int}{rs:List (List Int)}:(bQ w rs).length=rs.length:=by
 unfold bQ
 split
 ·unfold wts
  rw [zA1]
 ·rw [K74P.res_len]
  unfold wts
  rw [zA1]
def shr (w:Int)(cl ow:List (List Int)):List Int:=bQ w cl++cY (w - (bQ w cl).sum) ow
inductive SpSortI (vs:List V)(H:Hp)(Q:VK):Prop
 | mk:∀ w lc xc cl lo xo ow,(vs=[.int w,.ref lc,.ref lo])->(H lc=some (.lst xc))->(Els H xc cl)->((∀ r∈cl,r.length=4/\1<=fl r 3/\fl r 3<=99))->(cl.length<=80)->(0<=w)->(H lo=some (.lst xo))->(Els H xo ow)->((∀ r∈ow,r.length=4))->(ow.length<=10000)->(∀ t g k xg xk H',Same H H'->H' t=some (.tup [.ref g,.ref k])->H g=none->H k=none->H' g=some (.lst xg)->Els H' xg (fM ((cl++ow).zip (shr w cl ow)))->H' k=some (.lst xk)->Els H' xk (fD ((cl++ow).zip (shr w cl ow)))->Q (.ref t) H')->SpSortI  vs H Q
def zP:Sp:=fun vs H Q _=>SpSortI  vs H Q
section
variable {P:Program}{w:World}{K:PySem.W.Frag}{mg:Str->Option Value}{base:Heap}
theorem tR:bootBuiltins "list" = some (.type "list"):=by decide +kernel
theorem nd5:(["due","number","holder","sacks","share"]:List Str).Nodup:=by decide +kernel
theorem scU1:FnScope ["wool","claims","owed","shares","rows","gifts","lacking"] ["wool","claims","owed"] (aJ (top 54)):=⟨rfl,rfl,rfl,by decide +kernel,rfl,by decide +kernel,by decide +kernel⟩
theorem zQ {f:Addr}{fd:FuncData}(F:Fun K "sort_given" "sort_given" (top 54) f fd)(Ts:mg "sum" = none)(Tl:mg "list" = none)(Tz:mg "zip" = none)(c1:Cal P w K mg base 7 "shares_of" ["wool","claims"] tQ)(c2:Cal P w K mg base 1 "made_good" ["wool","owed"] zM):FnOk P w K mg base CX0 8 f fd ["wool","claims","owed"] zP:=by
 refine F.ok scU1 (fun vs H Q E h=>?_) (fun cdv A outer s H vs Q E hr h=>?_)
 ·obtain ⟨w0,lc,xc,cl,lo,xo,ow,rfl,_⟩:=h
  rfl
 ·obtain ⟨w0,lc,xc,cl,lo,xo,ow,rfl,ec,elc,h4c,hzc,hw,eo,elo,h4o,hzo,q⟩:=h
  refine ⟨_,aB (bf (i:=3) scU1.nd rfl (Or.inl rfl) (dh qy rfl Tl tR (az (aK c1 hr (by decide) rfl (az (pv 0) (az (pv 1) aj))) aj)))
   (aB (bf (i:=4) scU1.nd rfl (Or.inl rfl) (aV uF (pv 1) (pv 2)))
   (aB (lW (i:=3) scU1.nd rfl (Or.inl rfl) (aK c2 hr (by decide) rfl (az (aV dW (pv 0) (aO (eQ rfl) rfl Ts boot_sum (az (pv 3) aj))) (az (pv 2) aj))) rA)
   (aB (jb (g:=lq K 2 (cA (lq K 4 (cA (bK 0) (cA (bK 1) (cA (bK 2) (cA (bK 3) lV))))) (cA (bK 4) lV))) (i:=5) ["due","number","holder","sacks","share"] [none,none,none,none,none] rfl scU1.nd rfl (Or.inl rfl) (ZL.pi_zip rfl Tz (az (pv 4) (az (pv 3) aj))) (fun C fp pins s₂ H₂=>⟨dJ rfl rfl (aq (dJ rfl rfl (aq (au (i:=0) nd5 rfl (Or.inl rfl) (Or.inr rfl)) (aq (au (i:=1) nd5 rfl (Or.inl rfl) (Or.inr rfl)) (aq (au (i:=2) nd5 rfl (Or.inl rfl) (Or.inr rfl)) (aq (au (i:=3) nd5 rfl (Or.inl rfl) (Or.inr rfl)) aY))))) (aq (au (i:=4) nd5 rfl (Or.inl rfl) (Or.inr rfl)) aY)),lE (bJ rN (pv 4) aA (bI _)),bH (az (pv 0) (az (pv 1) (az (pv 2) (az (pv 4) aj))))⟩) (fun C=>trivial) ⟨rfl,rfl,rfl,rfl⟩)
   (aB (jb (g:=lq K 2 (cA (lq K 4 (cA (bK 0) (cA (bK 1) (cA (bK 2) (cA (bK 3) lV))))) (cA (bK 4) lV))) (i:=6) ["due","number","holder","sacks","share"] [none,none,none,none,none] rfl scU1.nd rfl (Or.inl rfl) (ZL.pi_zip rfl Tz (az (pv 4) (az (pv 3) aj))) (fun C fp pins s₂ H₂=>⟨dJ rfl rfl (aq (dJ rfl rfl (aq (au (i:=0) nd5 rfl (Or.inl rfl) (Or.inr rfl)) (aq (au (i:=1) nd5 rfl (Or.inl rfl) (Or.inr rfl)) (aq (au (i:=2) nd5 rfl (Or.inl rfl) (Or.inr rfl)) (aq (au (i:=3) nd5 rfl (Or.inl rfl) (Or.inr rfl)) aY))))) (aq (au (i:=4) nd5 rfl (Or.inl rfl) (Or.inr rfl)) aY)),lE (bJ rN (pv 3) (pv 4) (bI _)),bH (az (pv 0) (az (pv 1) (az (pv 2) (az (aV dW (pv 3) (pv 4)) aj))))⟩) (fun C=>trivial) ⟨rfl,rfl,rfl,rfl⟩)
   (aH (aU (bH (az (pv 5) (az (pv 6) aj))))))))),?_⟩
  refine ir fun c_ hc_=>?_
  refine aX ?_
  refine ⟨_,rfl,_,rfl,w0,lc,xc,cl,rfl,ec,elc,h4c,hzc,hw,fun t H1 s1 et=>⟨t,_,rfl,.inr (SqT.of et),fun ls hls=>?_⟩⟩
  have s2:=s1.updR (o:=.lst ((bQ w0 cl).map V.int)) hls
  have nls:H ls=none:=s1.free hls
  have els:=ao (H:=H1) (a:=ls) (o:=.lst ((bQ w0 cl).map V.int))
  generalize upd H1 ls (.lst ((bQ w0 cl).map V.int))=H2 at s2 els ⊢
  refine aM ?_
  refine hc_ _ _ ?_
  clear hc_ c_
  try dsimp only
  refine ir fun c_ hc_=>?_
  refine aX ?_
  refine ⟨_,rfl,_,rfl,lc,lo,xc,xo,rfl,rfl,s2 _ _ ec,s2 _ _ eo,by rw [elc.1,elo.1,sizeLine_eq];lia,fun lr hlr=>?_⟩
  have s3:=s2.updR (o:=.lst (xc++xo)) hlr
  have nlr:H lr=none:=s2.free hlr
  have els3:=Same.upd (o:=.lst (xc++xo)) hlr _ _ els
  have elr:=ao (H:=H2) (a:=lr) (o:=.lst (xc++xo))
  have nrs:lr≠ls:=fun z=>by rw [z,els] at hlr;cases hlr
  generalize upd H2 lr (.lst (xc++xo))=H3 at s3 els3 elr ⊢
  refine aM ?_
  refine hc_ _ _ ?_
  clear hc_ c_
  try dsimp only
  refine ir fun c_ hc_=>?_
  refine ⟨_,rfl,_,rfl,_,rfl,ls,bQ w0 cl,rfl,.inl (SqL.of els3),_,_,rfl,rfl,_,rfl,_,lo,xo,ow,rfl,s3 _ _ eo,elo.same s3,h4o,by lia,fun m H4 s4 nm em=>?_⟩
  refine ⟨ls,m,_,_,rfl,rfl,s4 _ _ els3,em,by rw [zA1,zA1,iZ,fV,sizeLine_eq];lia,?_⟩
  have esh:(bQ w0 cl).map V.int++(cY (w0 - (bQ w0 cl).sum) ow).map V.int=(shr w0 cl ow).map V.int:=by unfold shr;rw [zA4]
  rw [esh]
  have lenS:(shr w0 cl ow).length=(cl++ow).length:=by
   unfold shr
   rw [zA2,zA2,iZ,fV]
  generalize shr w0 cl ow=SH at q lenS
  refine hc_ _ _ ?_
  clear hc_ c_
  try dsimp only
  have k5:Same H (upd H4 ls (.lst (SH.map V.int))):=fun b o e=>by
   rw [aD (aF e nls)]
   exact s4 _ _ (s3 _ _ e)
  have els5:=ao (H:=H4) (a:=ls) (o:=.lst (SH.map V.int))
  have elr5:upd H4 ls (.lst (SH.map V.int)) lr=some (.lst (xc++xo)):=by rw [aD nrs];exact s4 _ _ elr
  generalize upd H4 ls (.lst (SH.map V.int))=H5 at k5 els5 elr5 ⊢
  have elR:Els H (xc++xo) (cl++ow):=elc.app elo
  have h4R:∀ r∈cl++ow,r.length=4:=fun r hr=>(zA6.mp hr).elim (fun z=>(h4c r z).1) (h4o r)
  have hzR:(cl++ow).length<=20000:=by rw [zA2];lia
  generalize xc++xo=xr at elr5 elR
  generalize cl++ow=rr at q lenS elR h4R hzR
  clear els els3 elr esh s1 s2 s3 s4 em et
  obtain ⟨ZP,hZP⟩:∃ ZP,ZP=rr.zip SH:=⟨_,rfl⟩
  rw [<- hZP] at q
  have lenP:ZP.length=rr.length:=by rw [hZP,zAs,lenS,Nat.min_self]
  have zfst:∀ i (h:i < ZP.length),rr[i]?=some ZP[i].1:=fun i h=>by
   have hi:i < rr.length:=by lia
   rw [zA0 hi]
   congr 1
   simp only [hZP,List.getElem_zip]
  have zsnd:∀ i (h:i < ZP.length),SH[i]?=some ZP[i].2:=fun i h=>by
   have hi:i < SH.length:=by lia
   rw [zA0 hi]
   congr 1
   simp only [hZP,List.getElem_zip]
  have row4:∀ i (h:i < ZP.length),(ZP[i].1).length=4:=fun i h=>h4R _ (List.mem_of_getElem? (zfst i h))
  refine ir fun c_ hc_=>?_
  refine ⟨_,rfl,_,rfl,lr,ls,xr,_,rfl,SqL.of elr5,SqL.of els5,jx rr.length (fun i ys σ Hc=>Same H5 Hc/\(∃ o1 o2 o3 o4 o5,σ=[o1,o2,o3,o4,o5])/\Els Hc ys (fM (ZP.take i))) ⟨Same.refl _,⟨_,_,_,_,_,rfl⟩,Els.nil⟩ (by rw [sizeLine_eq];lia) ?_ ?_⟩
  ·rintro i ys σ Hc hi hy ⟨sc,⟨o1,o2,o3,o4,o5,rfl⟩,ht⟩
   have hP:i < ZP.length:=by rw [lenP];exact hi
   obtain ⟨tr,ex,et⟩:=elR.2 i ZP[i].1 (zfst i hP)
   have er:SqL K Hc lr xr:=SqL.of (sc _ _ elr5)
   have es:SqL K Hc ls (SH.map V.int):=SqL.of (sc _ _ els5)
   have hy':(SH.map V.int)[i]?=some (.int ZP[i].2):=by rw [zAb,zsnd i hP];rfl
   have etk:ZP.take (i+1)=ZP.take i++[ZP[i]]:=by rw [zAj,zA0 hP];rfl
   have et':=sc _ _ (k5 _ _ et)
   rw [fU (row4 i hP)] at et'
   refine ⟨⟨_,_,_,_,er,es,ex,hy'⟩,fun x H' yv R hR=>?_⟩
   obtain ⟨T0,nT,rfl,yv⟩:=yv
   obtain ⟨x',y',hx1,hy1,rfl⟩:=yv _ _ er es
   rw [ex] at hx1
   cases hx1
   rw [hy'] at hy1
   cases hy1
   have s2':=sc.updR (o:=.tup [.ref tr,.int ZP[i].2]) nT
   refine ⟨T0,_,rfl,SqT.of ao,rfl,_,_,rfl,?_⟩
   refine ⟨tr,_,rfl,SqT.of (Same.upd nT _ _ et'),rfl,_,_,rfl,_,_,rfl,_,_,rfl,_,_,rfl,rfl,?_⟩
   refine ⟨_,_,rfl,rfl,?_⟩
   refine ⟨_,rfl,_,_,rfl,rfl,_,rfl,?_⟩
   by_cases hpos:0 < ZP[i].2
   ·rw [decide_eq_true hpos]
    refine cj ⟨_,rfl,_,rfl,_,rfl,_,rfl,(by show 4<=sizeLine;decide),fun t ht'=>hR _ _ _ (by rw [zA2];show ys.length+1<=i+1;lia) ⟨s2'.updR ht',⟨_,_,_,_,_,rfl⟩,?_⟩⟩
    rw [etk,pW,if_pos hpos]
    exact (((ht.same (Same.upd nT)).same (Same.upd ht'))).app (Els.one ao)
   ·rw [decide_eq_false hpos]
    refine bD (hR _ _ _ (by lia) ⟨s2',⟨_,_,_,_,_,rfl⟩,?_⟩)
    rw [etk,pW,if_neg hpos,zAn]
    exact ht.same (Same.upd nT)
  rintro ys σ Hc hy ⟨sc,_,ht⟩
  rw [<- lenP,zAm] at ht
  refine ⟨⟨_,_,SqL.of (sc _ _ elr5),SqL.of (sc _ _ els5),.inl (by rw [elR.1];exact zA3 _)⟩,fun g hg=>?_⟩
  have k6:=(k5.trans sc).updR (o:=.lst ys) hg
  have ng:H g=none:=(k5.trans sc).free hg
  have eg:=ao (H:=Hc) (a:=g) (o:=.lst ys)
  have elg:=ht.same (Same.upd (o:=.lst ys) hg)
  have elr6:=Same.upd (o:=.lst ys) hg _ _ (sc _ _ elr5)
  have els6:=Same.upd (o:=.lst ys) hg _ _ (sc _ _ els5)
  generalize upd Hc g (.lst ys)=H6 at k6 eg elg elr6 els6 ⊢
  clear sc ht hy els5 elr5 k5
  refine hc_ _ _ ?_
  clear hc_ c_
  try dsimp only
  refine ir fun c_ hc_=>?_
  refine ⟨_,rfl,_,rfl,lr,ls,xr,_,rfl,SqL.of elr6,SqL.of els6,jx rr.length (fun i ys σ Hc=>Same H6 Hc/\(∃ o1 o2 o3 o4 o5,σ=[o1,o2,o3,o4,o5])/\Els Hc ys (fD (ZP.take i))) ⟨Same.refl _,⟨_,_,_,_,_,rfl⟩,Els.nil⟩ (by rw [sizeLine_eq];lia) ?_ ?_⟩
  ·rintro i ys σ Hc hi hy ⟨sc,⟨o1,o2,o3,o4,o5,rfl⟩,ht⟩
   have hP:i < ZP.length:=by rw [lenP];exact hi
   obtain ⟨tr,ex,et⟩:=elR.2 i ZP[i].1 (zfst i hP)
   have er:SqL K Hc lr xr:=SqL.of (sc _ _ elr6)
   have es:SqL K Hc ls (SH.map V.int):=SqL.of (sc _ _ els6)
   have hy':(SH.map V.int)[i]?=some (.int ZP[i].2):=by rw [zAb,zsnd i hP];rfl
   have etk:ZP.take (i+1)=ZP.take i++[ZP[i]]:=by rw [zAj,zA0 hP];rfl
   have et':=sc _ _ (k6 _ _ et)
   rw [fU (row4 i hP)] at et'
   refine ⟨⟨_,_,_,_,er,es,ex,hy'⟩,fun x H' yv R hR=>?_⟩
   obtain ⟨T0,nT,rfl,yv⟩:=yv
   obtain ⟨x',y',hx1,hy1,rfl⟩:=yv _ _ er es
   rw [ex] at hx1
   cases hx1
   rw [hy'] at hy1
   cases hy1
   have s2':=sc.updR (o:=.tup [.ref tr,.int ZP[i].2]) nT
   refine ⟨T0,_,rfl,SqT.of ao,rfl,_,_,rfl,?_⟩
   refine ⟨tr,_,rfl,SqT.of (Same.upd nT _ _ et'),rfl,_,_,rfl,_,_,rfl,_,_,rfl,_,_,rfl,rfl,?_⟩
   refine ⟨_,_,rfl,rfl,?_⟩
   refine ⟨_,rfl,_,rfl,_,_,rfl,rfl,_,rfl,?_⟩
   by_cases hpos:ZP[i].2 < fl ZP[i].1 3
   ·rw [decide_eq_true hpos]
    refine cj ⟨_,rfl,_,rfl,_,rfl,_,rfl,_,rfl,_,_,rfl,rfl,(by show 4<=sizeLine;decide),fun t ht'=>hR _ _ _ (by rw [zA2];show ys.length+1<=i+1;lia) ⟨s2'.updR ht',⟨_,_,_,_,_,rfl⟩,?_⟩⟩
    rw [etk,nG,if_pos hpos]
    exact (((ht.same (Same.upd nT)).same (Same.upd ht'))).app (Els.one ao)
   ·rw [decide_eq_false hpos]
    refine bD (hR _ _ _ (by lia) ⟨s2',⟨_,_,_,_,_,rfl⟩,?_⟩)
    rw [etk,nG,if_neg hpos,zAn]
    exact ht.same (Same.upd nT)
  rintro ys2 σ Hc hy ⟨sc,_,ht⟩
  rw [<- lenP,zAm] at ht
  refine ⟨⟨_,_,SqL.of (sc _ _ elr6),SqL.of (sc _ _ els6),.inl (by rw [elR.1];exact zA3 _)⟩,fun k hk=>?_⟩
  have k7:=(k6.trans sc).updR (o:=.lst ys2) hk
  have nk:H k=none:=(k6.trans sc).free hk
  have sk:=Same.upd (o:=.lst ys2) hk
  refine hc_ _ _ ?_
  clear hc_ c_
  try dsimp only
  refine ⟨_,rfl,_,rfl,(by show 2<=sizeLine;decide),fun t ht'=>?_⟩
  have st:=Same.upd (o:=.tup [.ref g,.ref k]) ht'
  exact q t g k ys ys2 _ (k7.trans st) ao ng nk (st _ _ (sk _ _ (sc _ _ eg))) (((elg.same sc).same sk).same st) (st _ _ ao) ((ht.same sk).same st)
end
end K74

namespace K74
open PySem L2
def gq (L:List Int)(i:Nat):List (List Int):=((List.range i).filter fun h=>decide (0 < L.getD h 0)).map fun (h:Nat)=>[(h:Int),L.getD h 0]
theorem kZ (L:List Int)(i:Nat):gq L (i+1)=gq L i++(if 0 < L.getD i 0 then [[(i:Int),L.getD i 0]] else []):=by
 unfold gq
 rw [List.range_succ,List.filter_append,zA4]
 congr 1
 by_cases h:0 < L.getD i 0
 ·rw [if_pos h,List.filter_cons_of_pos (p:=fun h=>decide (0 < L.getD h 0)) (decide_eq_true h)]
  rfl
 ·rw [if_neg h,List.filter_cons_of_neg (p:=fun h=>decide (0 < L.getD h 0)) (by rw [decide_eq_true_eq];exact h)]
  rfl
theorem uW (L:List Int)(i:Nat):(gq L i).length<=i:=by
 unfold gq
 rw [zA1]
 have:=List.length_filter_le (fun h=>decide (0 < L.getD h 0)) (List.range i)
 rw [List.length_range] at this
 exact this
def rB (ps ss:List (List Int))(sort year:Int)(n:Nat):List (List Int):=if fl (ps.getD n []) 1=sort then (gq (bL (ps.getD n []) ss n year) 8).map (fun r=>year::(n:Int)::r) else []
def oO (ps ss:List (List Int))(sort year:Int):Nat->List (List Int)
 | 0=>[]
 | k+1=>oO ps ss sort year k++rB ps ss sort year k
def aN (ps ss:List (List Int))(sort year:Int):List (List Int):=oO ps ss sort year ps.length
theorem zR (ps ss:List (List Int))(sort year:Int)(n:Nat):(rB ps ss sort year n).length<=8:=by
 unfold rB
 split
 ·rw [zA1]
  exact uW _ 8
 ·exact zAp _
theorem nH (ps ss:List (List Int))(sort year:Int):∀ k,(oO ps ss sort year k).length<=8 * k
 | 0=>zA3 _
 | k+1=>by
  unfold oO
  rw [zA2]
  have:=nH ps ss sort year k
  have:=zR ps ss sort year k
  lia
inductive SpClaimsI (vs:List V)(H:Hp)(Q:VK):Prop
 | mk:∀ ap xp ps as_ xs ss sort year,(vs=[.ref ap,.ref as_,.int sort,.int year])->(RowsAt H ap xp ps)->(ps.length<=10)->((∀ r∈ps,okP r))->(RowsAt H as_ xs ss)->(ss.length<=12)->((∀ s∈ss,okS s))->(∀ l xl H',Same H H'->H l=none->H' l=some (.lst xl)->Els H' xl (aN ps ss sort year)->Q (.ref l) H')->SpClaimsI  vs H Q
def tU:Sp:=fun vs H Q _=>SpClaimsI  vs H Q
section
variable {P:Program}{w:World}{K:PySem.W.Frag}{mg:Str->Option Value}{base:Heap}
theorem ndV:(["holder","sacks","year","number"]:List Str).Nodup:=by decide +kernel
theorem scV1:FnScope ["promises","sales","sort","year","claims","number","promise","held"] ["promises","sales","sort","year"] (aJ (top 51)):=⟨rfl,rfl,rfl,by decide +kernel,rfl,by decide +kernel,by decide +kernel⟩
theorem xZ {f:Addr}{fd:FuncData}(F:Fun K "claims_in" "claims_in" (top 51) f fd)(Te:mg "enumerate" = none)(c1:Cal P w K mg base 1 "held_in" ["promises","sales","number","year"] uP):FnOk P w K mg base CX0 2 f fd ["promises","sales","sort","year"] tU:=by
 refine F.ok scV1 (fun vs H Q E h=>?_) (fun cdv A outer s H vs Q E hr h=>?_)
 ·obtain ⟨ap,xp,ps,as_,xs,ss,sort,year,rfl,_⟩:=h
  rfl
 ·obtain ⟨ap,xp,ps,as_,xs,ss,sort,year,rfl,rp,lp,okp,rs,ls,oks,q⟩:=h
  refine ⟨_,aB (bf (i:=4) scV1.nd rfl (Or.inl rfl) (cC aj))
   (aB (cW PassesOwn.never rfl (pi_enum rfl Te (az (pv 0) aj)) (bU rfl (aq (au (i:=5) scV1.nd rfl (Or.inr rfl)) (aq (au (i:=6) scV1.nd rfl (Or.inl rfl)) aY)))
    (aH (cu (bJ mj (aZ bG (pv 6) aA (fun _ _=>rfl)) (pv 2) (bI _))
     (aB (bf (i:=7) scV1.nd rfl (Or.inl rfl) (aK c1 hr (by decide) rfl (az (pv 0) (az (pv 1) (az (pv 5) (az (pv 3) aj))))))
     (aH (lW (i:=4) scV1.nd rfl (Or.inl rfl) (bZ (g:=lq K 2 (cA (bK 0) (cA (bK 1) lV))) ["holder","sacks","year","number"] [none,none,some 3,some 5] rfl (EL.pi_enum rfl Te (az (pv 7) aj))
      (fun C fp pins s₂ H₂=>⟨dJ rfl rfl (aq (au (i:=0) ndV rfl (Or.inl rfl) (Or.inr rfl)) (aq (au (i:=1) ndV rfl (Or.inl rfl) (Or.inr rfl)) aY)),lE (bJ rN (pv 1) aA (bI _)),bH (az (pv 2) (az (pv 3) (az (pv 0) (az (pv 1) aj))))⟩)
      (fun C=>⟨⟨rfl,.inl rfl,rfl,.inl rfl⟩,⟨rfl,.inl rfl,rfl,.inl rfl⟩,trivial⟩) ⟨rfl,rfl,rfl,rfl⟩) rA))) bh)))
   (aH (aU (pv 4)))),?_⟩
  refine aG ?_
  refine aX ?_
  refine ⟨(by show 0<=sizeLine;decide),fun l hl=>?_⟩
  refine aM ?_
  dsimp only
  refine aG ?_
  have s0:=Same.upd (o:=.lst []) hl
  refine ⟨_,rfl,ap,xp,rfl,SqT.of (s0 _ _ rp.e),?_⟩
  refine jj (xs:=xp) (fun i σ Hc=>∃ x5 x6 x7 xl,σ=[some (.ref ap),some (.ref as_),some (.int sort),some (.int year),some (.ref l),x5,x6,x7]/\(∀ b o,H b=some o->Hc b=some o)/\Hc l=some (.lst xl)/\Els Hc xl (oO ps ss sort year i)) ?_ ?_ ?_ ?_
  ·exact ⟨none,none,none,[],rfl,fun b o e=>s0 _ _ e,ao,Els.nil⟩
  ·rintro i σ Hc hi ⟨x5,x6,x7,xl,rfl,k,el,ht⟩
   exact SqT.of (k _ _ rp.e)
  ·rintro i x σ Hc T0 hx ⟨x5,x6,x7,xl,rfl,k,el,ht⟩ nT
   have hi:i < ps.length:=by
    have:=(zAa.mp hx).1
    rw [rp.l] at this
    exact this
   obtain ⟨tr,ex2,etr⟩:=rp.g i ps[i] (zA0 hi)
   have:x=.ref tr:=by
    rw [hx] at ex2
    exact zAl ex2
   subst this
   have op:=okp ps[i] (zAh hi)
   have ep:ps.getD i []=ps[i]:=getD_get hi
   rw [eG op.1] at etr
   have sT:=Same.upd (o:=.tup [V.int i,V.ref tr]) nT
   have kT:Same H (upd Hc T0 (.tup [V.int i,V.ref tr])):=fun b o e=>sT _ _ (k _ _ e)
   have elT:=sT _ _ el
   have htT:=ht.same sT
   have eT:=ao (H:=Hc) (a:=T0) (o:=.tup [V.int i,V.ref tr])
   generalize upd Hc T0 (.tup [V.int i,V.ref tr])=H1 at kT elT htT eT ⊢
   refine ⟨T0,_,rfl,SqT.of eT,rfl,_,_,rfl,_,_,rfl,rfl,?_⟩
   refine ⟨_,rfl,tr,_,1,.int (fl ps[i] 1),rfl,rfl,SqT.of (kT _ _ etr),rfl,_,rfl,rfl,_,rfl,?_⟩
   by_cases hs:fl ps[i] 1=sort
   ·rw [decide_eq_true (by rw [hs])]
    refine cj ?_
    refine aG ?_
    refine aX ?_
    refine ⟨_,rfl,_,rfl,_,rfl,_,rfl,ap,xp,ps,as_,xs,ss,i,year,rfl,rp.same kT,rs.same kT,by lia,by lia,by rw [zAi,ep];exact op,ls,oks,fun hd H2 s2 e2=>?_⟩
    rw [zAi,ep] at e2
    have hl8:=eO ps[i] ss i year
    have ecl:rB ps ss sort year i=(gq (bL ps[i] ss i year) 8).map (fun r=>year::(i:Int)::r):=by
     unfold rB
     rw [ep,if_pos hs]
    generalize bL ps[i] ss i year=L at e2 hl8 ecl
    have k2:=kT.trans s2
    have el2:=s2 _ _ elT
    have ht2:=htT.same s2
    refine aM ?_
    dsimp only
    refine ⟨_,rfl,_,rfl,hd,_,rfl,SqL.of e2,jx 8 (fun j ys σ Hj=>Same H2 Hj/\(∃ o1 o2,σ=[o1,o2,some (.int year),some (.int i)])/\Els Hj ys ((gq L j).map (fun r=>year::(i:Int)::r))) ⟨Same.refl _,⟨_,_,rfl⟩,Els.nil⟩ (by rw [sizeLine_eq];decide) ?_ ?_⟩
    ·rintro j ys σ Hj hj hy ⟨sc,⟨o1,o2,rfl⟩,htj⟩
     have sq1:SqL K Hj hd (L.map V.int):=SqL.of (sc _ _ e2)
     have hxj:(L.map V.int)[j]?=some (.int (L.getD j 0)):=by
      have hk':j < L.length:=by lia
      rw [zAb,zA7,zA0 hk']
      rfl
     refine ⟨⟨_,_,sq1,hxj⟩,fun x H' yv R hR=>?_⟩
     obtain ⟨T1,nT1,rfl,yv⟩:=yv
     obtain ⟨x',hx',rfl⟩:=yv _ sq1
     rw [hxj] at hx'
     cases hx'
     have s2':=sc.updR (o:=.tup [.int (j:Int),.int (L.getD j 0)]) nT1
     refine ⟨T1,_,rfl,SqT.of ao,rfl,_,_,rfl,_,_,rfl,rfl,?_⟩
     refine ⟨_,rfl,_,_,rfl,rfl,_,rfl,?_⟩
     by_cases hpos:0 < L.getD j 0
     ·rw [decide_eq_true hpos]
      refine cj ⟨_,rfl,_,rfl,_,rfl,_,rfl,(by show 4<=sizeLine;decide),fun t ht'=>hR _ _ _ (by rw [zA2];show ys.length+1<=j+1;lia) ⟨s2'.updR ht',⟨_,_,rfl⟩,?_⟩⟩
      rw [kZ,if_pos hpos,zA4]
      exact ((htj.same (Same.upd nT1)).same (Same.upd ht')).app (Els.one ao)
     ·rw [decide_eq_false hpos]
      refine bD (hR _ _ _ (by lia) ⟨s2',⟨_,_,rfl⟩,?_⟩)
      rw [kZ,if_neg hpos,zAn]
      exact htj.same (Same.upd nT1)
    ·rintro ys σ Hj hy ⟨sc,_,htj⟩
     refine ⟨⟨_,SqL.of (sc _ _ e2),by rw [zA1];lia⟩,fun D hD=>?_⟩
     have sD:=sc.updR (o:=.lst ys) hD
     have nD:D≠l:=fun z=>by rw [z,sc _ _ el2] at hD;cases hD
     have ll:=nH ps ss sort year i
     have:=ht.1
     refine ⟨l,D,xl,ys,rfl,rfl,sD _ _ el2,ao,by rw [sizeLine_eq];lia,?_⟩
     refine ⟨_,_,_,xl++ys,rfl,fun b o e=>?_,ao,?_⟩
     ·rw [aD (aF e hl)]
      exact sD _ _ (k2 _ _ e)
     ·have e3:=(ht2.same sD).app (htj.same (Same.upd (o:=.lst ys) hD))
      rw [<- ecl] at e3
      refine e3.keep fun b z e=>?_
      rw [aD fun w=>by rw [w,sD _ _ el2] at e;cases e]
      exact e
   ·rw [decide_eq_false (fun z=>hs (by injection z))]
    refine bD ?_
    refine ⟨_,_,_,xl,rfl,fun b o e=>kT _ _ e,elT,?_⟩
    have:oO ps ss sort year (i+1)=oO ps ss sort year i:=by
     show oO ps ss sort year i++rB ps ss sort year i=_
     unfold rB
     rw [ep,if_neg hs,zAn]
    rw [this]
    exact htT
  ·rintro σ Hc ⟨x5,x6,x7,xl,rfl,k,el,ht⟩
   rw [show xp.length=ps.length from rp.l] at ht
   exact ⟨_,rfl,q l xl Hc (fun b o e=>k b o e) hl el ht⟩
end
end K74

namespace K74
open PySem L2
theorem sum_set:∀ (L:List Int) (i:Nat) (a:Int),i < L.length->(L.set i a).sum=L.sum - L.getD i 0+a
 | [],i,a,h=>by simp at h
 | x::L,0,a,h=>by
  rw [List.set_cons_zero,List.sum_cons,List.sum_cons,List.getD_cons_zero]
  lia
 | x::L,i+1,a,h=>by
  rw [List.set_cons_succ,List.sum_cons,List.sum_cons,List.getD_cons_succ,sum_set L i a (by simpa using h)]
  lia
theorem tV {L:List Int}{i v:Int}(h:i.toNat < L.length):(iV L i v).sum=L.sum+v:=by
 unfold iV
 rw [sum_set _ _ _ h]
 lia
theorem iW:∀ {L:List Int},(∀ x∈L,0<=x)->0<=L.sum/\∀ x∈L,x<=L.sum
 | [],_=>⟨Int.le_refl _,fun x hx=>by cases hx⟩
 | y::L,h=>by
  obtain ⟨h1,h2⟩:=iW (L:=L) fun x hx=>h x (.tail _ hx)
  have hy:=h y (.head _)
  rw [List.sum_cons]
  refine ⟨by lia,fun x hx=>?_⟩
  rcases zAo.mp hx with z | z
  ·lia
  ·have:=h2 x z
   lia
theorem rC {L:List Int}(h:∀ x∈L,0<=x)(i:Nat):0<=L.getD i 0:=by
 rw [zA7]
 cases e:L[i]? with
 | none=>exact Int.le_refl _
 | some y=>exact h y (List.mem_of_getElem? e)
theorem wA {L:List Int}{i v:Int}(h:∀ x∈L,0<=x)(hv:0<=L.getD i.toNat 0+v):∀ x∈iV L i v,0<=x:=by
 intro x hx
 unfold iV at hx
 rcases List.mem_or_eq_of_mem_set hx with z | z
 ·exact h x z
 ·rw [z];exact hv
theorem nJ {ps ss:List (List Int)}(h:un ps ss=none):∀ j,j < ss.length->cG ps (ss.take j) (ss.getD j [])=true:=fun j hj=>by
 unfold un at h
 have:=List.find?_eq_none.mp h j (List.mem_range.mpr hj)
 simpa using this
theorem Cg {ps ss:List (List Int)}{n:Nat}{y:Int}(hu:un ps ss=none)(h5:∀ s∈ss,s.length=5)(op:okP (ps.getD n [])) :
  ∀ k,k<=ss.length->(∀ x∈bL (ps.getD n []) (ss.take k) n y,0<=x)/\(bL (ps.getD n []) (ss.take k) n y).sum<=99:=by
 intro k
 by_cases hy:fl (ps.getD n []) 2<=y/\y<=fl (ps.getD n []) 3
 ·obtain ⟨_,⟨a1,a2⟩,_,_,⟨e1,e2⟩,_⟩:=id op
  induction k with
  | zero =>
   intro _
   rw [List.take_zero]
   unfold bL
   rw [if_pos hy]
   show (∀ x∈base0 (ps.getD n []),0<=x)/\(base0 (ps.getD n [])).sum<=99
   unfold base0
   refine ⟨fun x hx=>?_,?_⟩
   ·rcases List.mem_or_eq_of_mem_set hx with z | z
    ·rw [List.eq_of_mem_replicate z]
     exact Int.le_refl _
    ·lia
   ·rw [sum_set _ _ _ (by rw [List.length_replicate];lia)]
    have:(List.replicate 8 (0:Int)).sum=0:=rfl
    have e:(List.replicate 8 (0:Int)).getD (fl (ps.getD n []) 0).toNat 0=0:=by
     rw [zA7,List.getElem?_replicate,if_pos (by lia)]
     rfl
    rw [this,e]
    lia
  | succ k ih =>
   intro hk
   have hk':k < ss.length:=by lia
   obtain ⟨i1,i2⟩:=ih (by lia)
   have hB:=nJ hu k hk'
   rw [getD_get hk'] at hB
   have etk:ss.take (k+1)=ss.take k++[ss[k]]:=by rw [zAj,zA0 hk'];rfl
   have eh:bL (ps.getD n []) (ss.take (k+1)) n y=hstep n y (bL (ps.getD n []) (ss.take k) n y) ss[k]:=by
    unfold bL
    rw [if_pos hy,if_pos hy,etk,List.foldl_append]
    rfl
   have okk:=jm (h5 _ (zAh hk')) hB
   obtain ⟨_,⟨b1,b2⟩,c1,c2⟩:=okk
   have hl:=eO (ps.getD n []) (ss.take k) n y
   rw [eh]
   unfold hstep
   by_cases hc:fl ss[k] 0=n/\fl ss[k] 4<=y
   ·rw [if_pos hc]
    unfold cG at hB
    rw [zAc] at hB
    obtain ⟨hb1,hb2⟩:=hB
    have ep:jl ps ss[k]=ps.getD n []:=by
     unfold jl
     rw [hc.1,zAi]
    have hge:fl ss[k] 3<=(bL (ps.getD n []) (ss.take k) n y).getD (fl ss[k] 1).toNat 0:=by
     have:=List.all_eq_true.mp hb2 y (by
      unfold years
      refine zA5.mpr ⟨(y - fl ss[k] 4).toNat,List.mem_range.mpr ?_,?_⟩
      ·rw [ep]
       lia
      ·lia)
     have:=of_decide_eq_true this
     rw [ep,hc.1] at this
     exact this
    unfold lC at hb1
    simp only [Bool.and_eq_true,decide_eq_true_eq,Bool.not_eq_true',decide_eq_false_iff_not] at hb1
    obtain ⟨_,_,_,nab,⟨v1,v2⟩,_⟩:=hb1
    generalize bL (ps.getD n []) (ss.take k) n y=L at i1 i2 hl hge
    have n1:=wA (i:=fl ss[k] 1) (v:=-(fl ss[k] 3)) i1 (by lia)
    refine ⟨wA n1 ?_,?_⟩
    ·have:=rC n1 (fl ss[k] 2).toNat
     lia
    ·rw [tV (by rw [gR];lia),tV (by lia)]
     lia
   ·rw [if_neg hc]
    exact ⟨i1,i2⟩
 ·intro _
  unfold bL
  rw [if_neg hy]
  refine ⟨fun x hx=>by rw [List.eq_of_mem_replicate hx];exact Int.le_refl _,by decide⟩
theorem Dq {ps ss:List (List Int)}{sort year:Int}(hu:un ps ss=none)(h5:∀ s∈ss,s.length=5)(okp:∀ r∈ps,okP r):∀ k,k<=ps.length->∀ r∈oO ps ss sort year k,r.length=4/\1<=fl r 3/\fl r 3<=99/\fl r 0=year/\0<=fl r 1/\fl r 1 < k:=by
 intro k
 induction k with
 | zero=>intro _ r hr;cases hr
 | succ k ih =>
  intro hk r hr
  rcases zA6.mp (show r∈oO ps ss sort year k++rB ps ss sort year k from hr) with z | z
  ·obtain ⟨h1,h2,h3,h4,h6,h7⟩:=ih (by lia) r z
   exact ⟨h1,h2,h3,h4,h6,by lia⟩
  ·unfold rB at z
   split at z
   ·obtain ⟨q,hq,rfl⟩:=zA5.mp z
    unfold gq at hq
    obtain ⟨h,hh,rfl⟩:=zA5.mp hq
    have hp:=of_decide_eq_true (zAq.mp hh).2
    have hk':k < ps.length:=by lia
    obtain ⟨a,b⟩:=Cg (n:=k) (y:=year) hu h5 (by rw [getD_get hk'];exact okp _ (zAh hk')) ss.length (zA3 _)
    rw [zAm] at a b
    have le:(bL (ps.getD k []) ss k year).getD h 0<=99:=by
     rw [zA7] at hp ⊢
     cases e:(bL (ps.getD k []) ss k year)[h]? with
     | none=>show (0:Int)<=99;decide
     | some y =>
      have:=(iW a).2 y (List.mem_of_getElem? e)
      show y<=99
      lia
    refine ⟨rfl,?_,le,rfl,?_,?_⟩
    ·show 1<=(bL (ps.getD k []) ss k year).getD h 0
     lia
    ·show (0:Int)<=(k:Int)
     lia
    ·show (k:Int) < ((k+1:Nat):Int)
     lia
   ·cases z
end K74

namespace K74P
open PySem L2
theorem sum_set:∀ {l:List Int} {i:Nat} {x:Int},i < l.length->(l.set i (l.getD i 0+x)).sum=l.sum+x
 | a::l,0,x,_=>by simp;lia
 | a::l,i+1,x,h=>by
  have:=sum_set (l:=l) (i:=i) (x:=x) (by simpa using h)
  simp only [List.set_cons_succ,List.sum_cons,List.getD_cons_succ]
  lia
theorem pZ:∀ (pl:List Nat) (l:List Int),(∀ i∈pl,i < l.length)->(du l pl).sum=l.sum+pl.length
 | [],l,_=>by simp [du]
 | i::pl,l,h=>by
  show (du (l.set i (l.getD i 0+1)) pl).sum=_
  rw [pZ pl _ fun j hj=>by rw [List.length_set];exact h j (.tail _ hj),sum_set (h i (.head _)),zAe]
  lia
theorem res_sum {n:Int}{ws:List Int}(ok:OkW ws):(res n ws).sum=n:=by
 have o:=(gZ (rs n ws)).choose_spec
 have hl:=o.len
 rw [jU] at hl
 have l0:=zK (n:=n) ok
 have l1:=Dp (n:=n) ok
 unfold res
 rw [pZ _ _ fun i hi=>by rw [rm];have:=o.lt i (List.mem_of_mem_take hi);rw [jU] at this;exact this,zAd,Nat.min_eq_left (by lia)]
 have:lf n ws=n - (fs n ws).sum:=rfl
 lia
end K74P
namespace K74
open PySem L2
theorem nM:∀ {w:Int} {rs:List (List Int)},0<=w->(∀ r∈rs,0<=fl r 3)->(∀ x∈cY w rs,0<=x)/\0<=(cY w rs).sum/\(cY w rs).sum<=w
 | w,[],h,_=>⟨fun x hx=>(by cases hx),Int.le_refl _,h⟩
 | w,r::rs,h,hr=>by
  have h3:=hr r (.head _)
  unfold cY
  by_cases hc:w < fl r 3
  ·rw [if_pos hc]
   obtain ⟨a,b,c⟩:=nM (w:=w - w) (rs:=rs) (by lia) fun q hq=>hr q (.tail _ hq)
   refine ⟨fun x hx=>?_,by rw [List.sum_cons];lia,by rw [List.sum_cons];lia⟩
   rcases zAo.mp hx with z | z
   ·lia
   ·exact a x z
  ·rw [if_neg hc]
   obtain ⟨a,b,c⟩:=nM (w:=w - fl r 3) (rs:=rs) (by lia) fun q hq=>hr q (.tail _ hq)
   refine ⟨fun x hx=>?_,by rw [List.sum_cons];lia,by rw [List.sum_cons];lia⟩
   rcases zAo.mp hx with z | z
   ·lia
   ·exact a x z
theorem wB:∀ {rs:List (List Int)} {sh:List Int},sh.length=rs.length->(∀ x∈sh,0<=x)->dG (fM (rs.zip sh))=sh.sum
 | [],[],_,_=>rfl
 | [],_::_,h,_=>by simp at h
 | _::_,[],h,_=>by simp at h
 | r::rs,x::sh,h,hn=>by
  have ih:=wB (rs:=rs) (sh:=sh) (by simpa using h) fun y hy=>hn y (.tail _ hy)
  have hx:=hn x (.head _)
  rw [List.zip_cons_cons,List.sum_cons,<- ih]
  unfold fM
  by_cases hp:0 < x
  ·rw [List.filter_cons_of_pos (p:=fun (p:List Int×Int)=>decide (0 < p.2)) (decide_eq_true hp),zAk]
   unfold dG wts
   rw [zAk,List.sum_cons]
   rfl
  ·rw [List.filter_cons_of_neg (p:=fun (p:List Int×Int)=>decide (0 < p.2)) (by rw [decide_eq_true_eq];exact hp)]
   have:x=0:=by lia
   rw [this,Int.zero_add]
theorem Ff {w:Int}{cl ow:List (List Int)}(hw:0<=w)(hc:∀ r∈cl,r.length=4/\1<=fl r 3/\fl r 3<=99)(hz:cl.length<=80)(ho:∀ r∈ow,0<=fl r 3):(∀ x∈shr w cl ow,0<=x)/\0<=(shr w cl ow).sum/\(shr w cl ow).sum<=w:=by
 have hs:(∀ x∈bQ w cl,0<=x)/\(bQ w cl).sum<=w:=by
  unfold bQ
  by_cases h:(wts cl).sum<=w
  ·rw [if_pos h]
   refine ⟨fun x hx=>?_,h⟩
   obtain ⟨r,hr,rfl⟩:=zA5.mp hx
   have:=(hc r hr).2.1
   lia
  ·rw [if_neg h]
   have ok:K74P.OkW (wts cl):=by
    refine ⟨?_,by unfold wts;rw [zA1];exact hz,fun x hx=>?_⟩
    ·cases hr':cl with
     | nil =>
      rw [hr'] at h
      exact absurd hw h
     | cons r rs' =>
      unfold wts
      rw [zA1,zAe]
      lia
    ·obtain ⟨r,hr,rfl⟩:=zA5.mp hx
     exact (hc r hr).2
   refine ⟨fun x hx=>?_,by rw [K74P.res_sum ok];exact Int.le_refl _⟩
   obtain ⟨i,hi,e⟩:=List.getElem_of_mem hx
   have hi':i < (wts cl).length:=by rw [K74P.res_len] at hi;exact hi
   exact (K74P.res_get ok hw (by lia) (i:=i) (r:=x) (w:=(wts cl)[i]) (by rw [zA0 hi,e]) (zA0 hi')).1
 obtain ⟨h1,h2⟩:=hs
 have h3:=(iW h1).1
 obtain ⟨m1,m2,m3⟩:=nM (w:=w - (bQ w cl).sum) (rs:=ow) (by lia) ho
 unfold shr
 refine ⟨fun x hx=>(zA6.mp hx).elim (h1 x) (m1 x),?_,?_⟩
 ·rw [List.sum_append];lia
 ·rw [List.sum_append];lia
theorem Ci {w:Int}{cl ow:List (List Int)}(hw:0<=w)(hc:∀ r∈cl,r.length=4/\1<=fl r 3/\fl r 3<=99)(hz:cl.length<=80)(ho:∀ r∈ow,0<=fl r 3):dG (fM ((cl++ow).zip (shr w cl ow)))=(shr w cl ow).sum/\0<=w - dG (fM ((cl++ow).zip (shr w cl ow))):=by
 obtain ⟨a,b,c⟩:=Ff hw hc hz ho
 have e:=wB (rs:=cl++ow) (sh:=shr w cl ow) (by unfold shr;rw [zA2,zA2,iZ,fV]) a
 exact ⟨e,by rw [e];lia⟩
end K74

namespace K74
open PySem L2
def rle (a b:List Int):Bool:=!HT.lexLt b a
theorem Fg (a b c:List Int)(h1:rle a b=true)(h2:rle b c=true):rle a c=true:=by
 unfold rle at *
 rw [Bool.not_eq_true'] at *
 cases h:HT.lexLt c a with
 | false=>rfl
 | true =>
  rcases wy c b a h with z | z
  ·rw [z] at h2;cases h2
  ·rw [z] at h1;cases h1
theorem Cj (a b:List Int):(rle a b || rle b a)=true:=by
 unfold rle
 cases h:HT.lexLt b a with
 | false=>rfl
 | true =>
  cases h':HT.lexLt a b with
  | false=>rfl
  | true =>
   have:=qX a b a h' h
   rw [qW] at this
   cases this
def srt (rs:List (List Int)):List (List Int):=rs.mergeSort rle
theorem zT {rs rs':List (List Int)}(pm:rs'.Perm rs)(so:rs'.Pairwise (fun a b=>HT.lexLt b a=false)):rs'=srt rs:=by
 have so':rs'.Pairwise (fun a b=>rle a b=true):=so.imp fun {a b} h=>by unfold rle;rw [h];rfl
 refine List.Perm.eq_of_pairwise (le:=fun a b=>rle a b=true) (fun a b _ _ h1 h2=>?_) so' (List.pairwise_mergeSort Fg Cj rs) (pm.trans (List.mergeSort_perm rs rle).symm)
 unfold rle at h1 h2
 rw [Bool.not_eq_true'] at h1 h2
 exact lK a b h2 h1
structure Yr where
 g:List (List Int)
 k:List (List Int)
 l:List Int
 d:Int
def aR (ps ow:List (List Int))(sort:Int):List (List Int):=ow.filter fun r=>decide (fl (ps.getD (fl r 1).toNat []) 1=sort)
def GZ (c:List Int)(ps ss ow:List (List Int))(y:Int)(a:Yr)(sort:Nat):Yr :=
 ⟨a.g++fM ((aN ps ss sort y++aR ps ow sort).zip (shr (c.getD sort 0+a.d) (aN ps ss sort y) (aR ps ow sort))),
  a.k++fD ((aN ps ss sort y++aR ps ow sort).zip (shr (c.getD sort 0+a.d) (aN ps ss sort y) (aR ps ow sort))),
  a.l++[c.getD sort 0+a.d - dG (fM ((aN ps ss sort y++aR ps ow sort).zip (shr (c.getD sort 0+a.d) (aN ps ss sort y) (aR ps ow sort))))],
  c.getD sort 0+a.d - dG (fM ((aN ps ss sort y++aR ps ow sort).zip (shr (c.getD sort 0+a.d) (aN ps ss sort y) (aR ps ow sort))))⟩
def yTo (c:List Int)(ps ss ow:List (List Int))(y:Int):Nat->Yr
 | 0=>⟨[],[],[],0⟩
 | n+1=>GZ c ps ss ow y (yTo c ps ss ow y n) n
def okO (ps:List (List Int))(r:List Int):Prop:=r.length=4/\0<=fl r 1/\fl r 1 < ps.length/\1<=fl r 3
theorem nO {ps ow:List (List Int)}{sort:Int}(h:∀ r∈ow,okO ps r):∀ r∈aR ps ow sort,okO ps r:=fun r hr=>h r (zAq.mp hr).1
theorem q8 (ps ow:List (List Int))(sort:Int):(aR ps ow sort).length<=ow.length:=List.length_filter_le _ _
theorem q9 {ps ss:List (List Int)}{sort year:Int}(hu:un ps ss=none)(h5:∀ s∈ss,s.length=5)(okp:∀ r∈ps,okP r):∀ r∈aN ps ss sort year,r.length=4/\1<=fl r 3/\fl r 3<=99:=fun r hr=>by
 obtain ⟨a,b,c,_⟩:=Dq (sort:=sort) (year:=year) hu h5 okp ps.length (zA3 _) r hr
 exact ⟨a,b,c⟩
theorem gr {ps ss:List (List Int)}{sort year:Int}(h:ps.length<=10):(aN ps ss sort year).length<=80:=by
 have:=nH ps ss sort year ps.length
 unfold aN
 lia
theorem Hf {c:List Int}{ps ss ow:List (List Int)}{y:Int}(hc:∀ x∈c,0<=x)(hu:un ps ss=none)(h5:∀ s∈ss,s.length=5)(okp:∀ r∈ps,okP r)(hl:ps.length<=10)(ho:∀ r∈ow,okO ps r):∀ n,0<=(yTo c ps ss ow y n).d
 | 0=>Int.le_refl _
 | n+1=>by
  have ih:=Hf (y:=y) hc hu h5 okp hl ho n
  have hw:0<=c.getD n 0+(yTo c ps ss ow y n).d:=by
   have:=rC hc n
   lia
  exact (Ci hw (q9 hu h5 okp) (gr hl) fun r hr=>by have:=(nO ho r hr).2.2.2;lia).2
end K74

namespace K74
open PySem L2
theorem wC (P:List (List Int×Int)):(fM P).length<=P.length:=by
 unfold fM
 rw [zA1]
 exact List.length_filter_le _ _
theorem nP (P:List (List Int×Int)):(fD P).length<=P.length:=by
 unfold fD
 rw [zA1]
 exact List.length_filter_le _ _
theorem Ds {c:List Int}{ps ss ow:List (List Int)}{y:Int}(hl:ps.length<=10):∀ n,(yTo c ps ss ow y n).g.length<=n * (80+ow.length)/\(yTo c ps ss ow y n).k.length<=n * (80+ow.length)/\(yTo c ps ss ow y n).l.length=n
 | 0=>⟨zAp _,zAp _,rfl⟩
 | n+1=>by
  obtain ⟨a,b,d⟩:=Ds (c:=c) (ss:=ss) (ow:=ow) (y:=y) hl n
  have h1:=gr (ss:=ss) (sort:=n) (year:=y) hl
  have h2:=q8 ps ow n
  have hz:∀ sh:List Int,((aN ps ss n y++aR ps ow n).zip sh).length<=80+ow.length:=fun sh=>by
   rw [zAs,zA2]
   lia
  rw [Nat.succ_mul]
  refine ⟨?_,?_,?_⟩
  ·show ((yTo c ps ss ow y n).g++fM _).length<=_
   rw [zA2]
   have:=wC ((aN ps ss n y++aR ps ow n).zip (shr (c.getD n 0+(yTo c ps ss ow y n).d) (aN ps ss n y) (aR ps ow n)))
   have:=hz (shr (c.getD n 0+(yTo c ps ss ow y n).d) (aN ps ss n y) (aR ps ow n))
   lia
  ·show ((yTo c ps ss ow y n).k++fD _).length<=_
   rw [zA2]
   have:=nP ((aN ps ss n y++aR ps ow n).zip (shr (c.getD n 0+(yTo c ps ss ow y n).d) (aN ps ss n y) (aR ps ow n)))
   have:=hz (shr (c.getD n 0+(yTo c ps ss ow y n).d) (aN ps ss n y) (aR ps ow n))
   lia
  ·show ((yTo c ps ss ow y n).l++[_]).length=n+1
   rw [zA2,d]
   rfl
theorem y_row {c:List Int}{ps ss ow:List (List Int)}{y:Int}:∀ n,(∀ r∈(yTo c ps ss ow y n).g,r.length=4)/\∀ r∈(yTo c ps ss ow y n).k,r.length=4
 | 0=>⟨fun r hr=>(by cases hr),fun r hr=>(by cases hr)⟩
 | n+1=>by
  obtain ⟨a,b⟩:=y_row (c:=c) (ps:=ps) (ss:=ss) (ow:=ow) (y:=y) n
  refine ⟨fun r hr=>?_,fun r hr=>?_⟩
  ·rcases zA6.mp (show r∈(yTo c ps ss ow y n).g++fM _ from hr) with z | z
   ·exact a r z
   ·obtain ⟨p,_,rfl⟩:=zA5.mp z
    rfl
  ·rcases zA6.mp (show r∈(yTo c ps ss ow y n).k++fD _ from hr) with z | z
   ·exact b r z
   ·obtain ⟨p,_,rfl⟩:=zA5.mp z
    rfl
def vInt:V->Int
 | .int i=>i
 | _=>0
def jV (H:Hp)(a:Addr):List Int:=match H a with
 | some (.tup xs)=>xs.map vInt
 | _=>[]
theorem Ck {H:Hp}{a:Addr}{r:List Int}(e:H a=some (.tup (r.map V.int))):jV H a=r:=by
 unfold jV
 rw [e]
 show (r.map V.int).map vInt=r
 rw [zAr]
 exact List.map_id _
theorem rD {H:Hp}:∀ {xs:List V} {rs:List (List Int)},Els H xs rs->∃ ads:List Addr,xs=ads.map V.ref/\rs=ads.map (jV H)/\∀ a∈ads,H a=some (.tup ((jV H a).map V.int))
 | [],[],_=>⟨[],rfl,rfl,fun a ha=>(by cases ha)⟩
 | [],_::_,h=>by have:=h.1;simp at this
 | _::_,[],h=>by have:=h.1;simp at this
 | x::xs,r::rs,h=>by
  obtain ⟨t,e1,e2⟩:=h.2 0 r rfl
  rw [List.getElem?_cons_zero] at e1
  cases e1
  obtain ⟨ads,f1,f2,f3⟩:=rD (xs:=xs) (rs:=rs) ⟨by have:=h.1;simpa using this,fun i q e=>by
   obtain ⟨u,g1,g2⟩:=h.2 (i+1) q (by rw [List.getElem?_cons_succ];exact e)
   rw [List.getElem?_cons_succ] at g1
   exact ⟨u,g1,g2⟩⟩
  have er:=Ck e2
  refine ⟨t::ads,by rw [f1];rfl,by rw [f2,zAk,er,<- f2],fun a ha=>?_⟩
  rcases zAo.mp ha with z | z
  ·rw [z,er];exact e2
  ·exact f3 a z
theorem zU {H H':Hp}{l':List Addr}(h:∀ a∈l',H' a=some (.tup ((jV H a).map V.int))):Els H' (l'.map V.ref) (l'.map (jV H)):=by
 refine ⟨by rw [zA1,zA1],fun i r e=>?_⟩
 rw [zAb] at e
 cases z:l'[i]? with
 | none=>rw [z] at e;cases e
 | some a =>
  rw [z] at e
  cases e
  exact ⟨a,by rw [zAb,z];rfl,h a (List.mem_of_getElem? z)⟩
inductive SpYearI (vs:List V)(H:Hp)(Q:VK):Prop
 | mk:∀ bk y lo ac xc cs ap xp ps as_ xs ss xo ow,(vs=[.ref bk,.int y,.ref lo])->(H bk=some (.tup [.ref ac,.ref ap,.ref as_]))->(RowsAt H ac xc cs)->((∀ r∈cs,r.length=3/\∀ x∈r,0<=x))->(0<=y)->(y < cs.length)->(RowsAt H ap xp ps)->(ps.length<=10)->((∀ r∈ps,okP r))->(RowsAt H as_ xs ss)->(ss.length<=12)->((∀ s∈ss,s.length=5))->(un ps ss=none)->(H lo=some (.lst xo))->(Els H xo ow)->((∀ r∈ow,okO ps r))->(ow.length<=10000)->(∀ t g k tl xg xk H',Same H H'->H' t=some (.tup [.ref g,.ref k,.ref tl])->H g=none->H k=none->(g≠sysModules/\k≠sysModules)->H' g=some (.lst xg)->Els H' xg (srt (yTo (cs.getD y.toNat []) ps ss ow y 3).g)->H' k=some (.lst xk)->Els H' xk (srt (yTo (cs.getD y.toNat []) ps ss ow y 3).k)->H' tl=some (.tup ((yTo (cs.getD y.toNat []) ps ss ow y 3).l.map V.int))->Q (.ref t) H')->SpYearI  vs H Q
def zV:Sp:=fun vs H Q _=>SpYearI  vs H Q
theorem wF {ps ss:List (List Int)}(h:un ps ss=none)(h5:∀ s∈ss,s.length=5):∀ s∈ss,okS s:=fun s hs=>by
 obtain ⟨j,hj,e⟩:=List.getElem_of_mem hs
 have:=nJ h j hj
 rw [getD_get hj,e] at this
 exact jm (h5 s hs) this
theorem zW {D:Ends}{tb:TS}{σ:L2.St}{H:Hp}(R:Hp->Prop)(h:R H)(g:∀ H,R H->tb D σ H):tb D σ H:=g H h
section
variable {P:Program}{w:World}{K:PySem.W.Frag}{mg:Str->Option Value}{base:Heap}
theorem boot_sorted:bootBuiltins "sorted" = some (.builtin "sorted"):=by decide +kernel
theorem ndZ:(["row","promises","sort"]:List Str).Nodup:=by decide +kernel
theorem scZ1:FnScope ["book","year","owed","clips","promises","sales","gifts","lacking","left","down","sort","wool","claims","ahead","given","lacked"] ["book","year","owed"] (aJ (top 55)):=⟨rfl,rfl,rfl,by decide +kernel,rfl,by decide +kernel,by decide +kernel⟩
theorem Cm {f:Addr}{fd:FuncData}(F:Fun K "year_given" "year_given" (top 55) f fd)(T:Mg mg)(N:Nums mg)(Tr:mg "range" = none)(Ts:mg "sorted" = none)(c1:Cal P w K mg base 2 "claims_in" ["promises","sales","sort","year"] tU)(c2:Cal P w K mg base 8 "sort_given" ["wool","claims","owed"] zP)(c3:Cal P w K mg base 1 "sacks_of" ["rows"] lM):FnOk P w K mg base CX0 9 f fd ["book","year","owed"] zV:=by
 refine F.ok scZ1 (fun vs H Q E h=>?_) (fun cdv A outer s H vs Q E hr h=>?_)
 ·obtain ⟨bk,y,lo,ac,xc,cs,ap,xp,ps,as_,xs,ss,xo,ow,rfl,_⟩:=h
  rfl
 ·obtain ⟨bk,y,lo,ac,xc,cs,ap,xp,ps,as_,xs,ss,xo,ow,rfl,eb,rc,okc,y0,y1,rp,lp,okp,rs,ls,h5,hu,eo,elo,oko,hzo,q⟩:=h
  obtain ⟨t3,e3⟩:=N.sorts
  refine K74P.ok_b (aP ⟨cB (pv 0) (bU rfl (aq (au (i:=3) scZ1.nd rfl (Or.inl rfl)) (aq (au (i:=4) scZ1.nd rfl (Or.inr rfl)) (aq (au (i:=5) scZ1.nd rfl (Or.inl rfl)) aY))))⟩
   (aP (d7 (i:=6) scZ1.nd rfl (Or.inl rfl) (uJ dX))
   (aP (d7 (i:=7) scZ1.nd rfl (Or.inl rfl) (uJ dX))
   (aP (d7 (i:=8) scZ1.nd rfl (Or.inl rfl) (uJ dX))
   (aP (d7 (i:=9) scZ1.nd rfl (Or.inl rfl) Eu)
   (aP ⟨cW PassesOwn.never rfl (cT rfl Tr (az (bR (v:=.int 3) rfl e3 ⟨_,rfl⟩) aj)) (au (i:=10) scZ1.nd rfl (Or.inr rfl))
    (vO (aP (d7 (i:=11) scZ1.nd rfl (Or.inl rfl) (Dn bM (Do bG (Do bG ⟨pv 3⟩ ⟨pv 1⟩ (fun _ _=>rfl)) ⟨pv 10⟩ (fun _ _=>rfl)) ⟨pv 9⟩))
    (aP (d7 (i:=12) scZ1.nd rfl (Or.inl rfl) ⟨aK c1 hr (by decide) rfl (az (pv 4) (az (pv 5) (az (pv 10) (az (pv 1) aj))))⟩)
    (aP ⟨jb (i:=13) ["row","promises","sort"] [none,some 4,some 10] rfl scZ1.nd rfl (Or.inl rfl) (fX (pv 2)) (fun C fp pins s₂ H₂=>⟨au (i:=0) ndZ rfl (Or.inl rfl),lE (bJ mj (aZ (K74P.ix_tupK (K:=K) rfl) (aZ (K74P.ix_tupK (K:=K) rfl) (pv 1) (aZ (K74P.ix_tupK (K:=K) rfl) (pv 0) aA (fun _ _=>rfl)) (fun _ _=>rfl)) aA (fun _ _=>rfl)) (pv 2) (bI _)),pv 0⟩) (fun C=>⟨⟨rfl,.inl rfl,rfl,.inl rfl⟩,⟨rfl,.inl rfl,rfl,.inl rfl⟩,trivial⟩) ⟨rfl,rfl,rfl,rfl⟩⟩
    (aP ⟨cB (aK c2 hr (by decide) rfl (az (pv 11) (az (pv 12) (az (pv 13) aj)))) (bU rfl (aq (au (i:=14) scZ1.nd rfl (Or.inl rfl)) (aq (au (i:=15) scZ1.nd rfl (Or.inl rfl)) aY)))⟩
    (aP (d7 (i:=9) scZ1.nd rfl (Or.inl rfl) (Dn dW ⟨pv 11⟩ ⟨aK c3 hr (by decide) rfl (az (pv 14) aj)⟩))
    (aP ⟨lW (i:=6) scZ1.nd rfl (Or.inl rfl) (pv 14) rA⟩
    (aP ⟨lW (i:=7) scZ1.nd rfl (Or.inl rfl) (pv 15) rA⟩
    (cZ ⟨bA (j8 PySem.F.plainAttrs_list PySem.F.slot_list_append PySem.F.type_list_append di (pv 8) (az (pv 9) aj))⟩)))))))))⟩
   (cZ (mW (uI (je ⟨aO fK rfl Ts boot_sorted (az (pv 6) aj)⟩ (je ⟨aO fK rfl Ts boot_sorted (az (pv 7) aj)⟩ (je ⟨dh cM rfl T.tuple boot_tuple (az (pv 8) aj)⟩ dX)))))))))))) ?_
  refine aG ?_
  refine ⟨_,rfl,bk,_,rfl,SqT.of eb,rfl,_,_,rfl,_,_,rfl,_,_,rfl,rfl,?_⟩
  dsimp only
  refine aG ?_
  refine aX ?_
  refine ⟨(by show 0<=sizeLine;decide),fun lg hlg=>?_⟩
  refine aM ?_
  dsimp only
  refine aG ?_
  refine aX ?_
  refine ⟨(by show 0<=sizeLine;decide),fun lk hlk=>?_⟩
  refine aM ?_
  dsimp only
  refine aG ?_
  refine aX ?_
  refine ⟨(by show 0<=sizeLine;decide),fun ll hll=>?_⟩
  refine aM ?_
  dsimp only
  refine aG ?_
  refine aX ?_
  refine aM ?_
  dsimp only
  have s1:=Same.upd (o:=.lst []) hlg
  have s2:=Same.upd (o:=.lst []) hlk
  have s3:=Same.upd (o:=.lst []) hll
  have nlg:H lg=none:=hlg
  have nlk:H lk=none:=s1.free hlk
  have nll:H ll=none:=(s1.trans s2).free hll
  have dgk:lg≠lk:=fun z=>by rw [<- z,ao] at hlk;cases hlk
  have dkl:lk≠ll:=fun z=>by rw [<- z,ao] at hll;cases hll
  have dgl:lg≠ll:=fun z=>by rw [<- z,s2 _ _ ao] at hll;cases hll
  refine zW (fun H1=>Same H H1/\H1 lg=some (.lst [])/\H1 lk=some (.lst [])/\H1 ll=some (.lst [])) ⟨(s1.trans s2).trans s3,s3 _ _ (s2 _ _ ao),s3 _ _ ao,ao⟩ fun H1 ⟨k1,eg1,ek1,el1⟩=>?_
  clear s1 s2 s3 hlg hlk hll
  have hyc:y.toNat < cs.length:=by lia
  obtain ⟨tc,hatc0,etc⟩:=gm rc y0 (show cs[y.toNat]?=some cs[y.toNat] from zA0 hyc)
  have ecd:cs.getD y.toNat []=cs[y.toNat]:=getD_get hyc
  have okc3:=okc _ (zAh hyc)
  rw [ecd] at q
  generalize cs[y.toNat]=c at q etc okc3
  have oks:=wF hu h5
  refine aG ?_
  refine ⟨3,rfl,by decide,by decide,?_⟩
  refine cV (lo:=0) (fun i σ Hc=>∃ x10 x11 x12 x13 x14 x15 xg xk,σ=[some (.ref bk),some (.int y),some (.ref lo),some (.ref ac),some (.ref ap),some (.ref as_),some (.ref lg),some (.ref lk),some (.ref ll),some (.int (yTo c ps ss ow y i).d),x10,x11,x12,x13,x14,x15]/\Same H Hc/\Hc lg=some (.lst xg)/\Els Hc xg (yTo c ps ss ow y i).g/\Hc lk=some (.lst xk)/\Els Hc xk (yTo c ps ss ow y i).k/\Hc ll=some (.lst ((yTo c ps ss ow y i).l.map V.int))) ?_ ?_ ?_
  ·exact ⟨none,none,none,none,none,none,[],[],rfl,k1,eg1,Els.nil,ek1,Els.nil,el1⟩
  ·rintro i σ Hc hi ⟨x10,x11,x12,x13,x14,x15,xg,xk,rfl,k,eg,elg,ek,elk,el⟩
   have hi:i < 3:=hi
   obtain ⟨yl1,yl2,yl3⟩:=Ds (c:=c) (ss:=ss) (ow:=ow) (y:=y) lp i
   refine aM ?_
   have z0:(0:Int)+(i:Int)=i:=by lia
   rw [z0]
   refine BZ fun De hnO=>?_
   have hci:(c.map V.int)[i]?=some (.int (c.getD i 0)):=by
    have hk':i < c.length:=by lia
    rw [zAb,zA7,zA0 hk']
    rfl
   refine aG ?_
   refine aX ?_
   refine ⟨_,rfl,_,rfl,ac,xc,y,.ref tc,rfl,rfl,SqT.of (k _ _ rc.e),hatc0,_,rfl,tc,_,i,.int (c.getD i 0),rfl,rfl,SqT.of (k _ _ etc),gh hci,_,rfl,_,_,rfl,rfl,?_⟩
   refine aM ?_
   dsimp only
   have dn:=Hf (c:=c) (y:=y) okc3.2 hu h5 okp lp oko i
   have cn:=rC okc3.2 i
   refine aG ?_
   refine aX ?_
   refine ⟨_,rfl,_,rfl,_,rfl,_,rfl,ap,xp,ps,as_,xs,ss,i,y,rfl,rp.same k,lp,okp,rs.same k,ls,oks,fun lc xlc H2 s2 nlc elc elsc=>?_⟩
   refine aM ?_
   dsimp only
   have k2:=k.trans s2
   refine aG ?_
   refine ⟨_,rfl,lo,rfl,⟨_,SqL.of (k2 _ _ eo)⟩,jx ow.length (fun j ys σ Hj=>Same H2 Hj/\(∃ o1,σ=[o1,some (.ref ap),some (.int i)])/\Els Hj ys (aR ps (ow.take j) i)) ⟨Same.refl _,⟨_,rfl⟩,Els.nil⟩ (by rw [sizeLine_eq];lia) ?_ ?_⟩
   ·rintro j ys σ Hj hj hy ⟨sc,⟨o1,rfl⟩,htj⟩
    have kj:=k2.trans sc
    have sq1:SqL K Hj lo xo:=SqL.of (kj _ _ eo)
    obtain ⟨tr,ex,etr⟩:=elo.2 j ow[j] (zA0 hj)
    obtain ⟨o4,o5,o6,o7⟩:=oko _ (zAh hj)
    have etr0:=etr
    rw [fU o4] at etr
    obtain ⟨p,hp,ep,op⟩:=gk okp o5 o6
    obtain ⟨tp,hat,etp⟩:=gm rp o5 hp
    rw [eG op.1] at etp
    have etk:aR ps (ow.take (j+1)) i=aR ps (ow.take j) i++(if fl p 1=i then [ow[j]] else []):=by
     rw [zAj,zA0 hj]
     unfold aR
     rw [show (some ow[j]).toList=[ow[j]] from rfl,List.filter_append]
     congr 1
     by_cases h:fl p 1=i
     ·rw [if_pos h,List.filter_cons_of_pos (by rw [ep];exact decide_eq_true h)]
      rfl
     ·rw [if_neg h,List.filter_cons_of_neg (by rw [ep,decide_eq_true_eq];exact h)]
      rfl
    refine ⟨⟨_,_,sq1,ex⟩,fun x H' yv R hR=>?_⟩
    obtain ⟨rfl,yv⟩:=yv
    have yv:=yv _ sq1
    rw [ex] at yv
    cases yv
    refine aM ?_
    refine ⟨_,rfl,_,rfl,tr,_,1,.int (fl ow[j] 1),rfl,rfl,SqT.of (kj _ _ etr),rfl,ap,xp,_,.ref tp,rfl,rfl,SqT.of (kj _ _ rp.e),hat,tp,_,1,.int (fl p 1),rfl,rfl,SqT.of (kj _ _ etp),rfl,_,rfl,rfl,_,rfl,?_⟩
    by_cases h:fl p 1=i
    ·rw [decide_eq_true (by rw [h])]
     refine cj ⟨_,rfl,hR _ _ _ (by rw [zA2];show ys.length+1<=j+1;lia) ⟨sc,⟨_,rfl⟩,?_⟩⟩
     rw [etk,if_pos h]
     exact htj.app (Els.one (kj _ _ etr0))
    ·rw [decide_eq_false (fun z=>h (by injection z))]
     refine bD (hR _ _ _ (by lia) ⟨sc,⟨_,rfl⟩,?_⟩)
     rw [etk,if_neg h,zAn]
     exact htj
   rintro ya σ Hj hy ⟨sc,_,hta⟩
   rw [zAm] at hta
   refine ⟨⟨_,SqL.of (sc _ _ (k2 _ _ eo)),by rw [elo.1];exact zA3 _⟩,fun la hla=>?_⟩
   have sa:=sc.updR (o:=.lst ya) hla
   have ela:=ao (H:=Hj) (a:=la) (o:=.lst ya)
   have hta:=hta.same (Same.upd (o:=.lst ya) hla)
   generalize upd Hj la (.lst ya)=H3 at sa ela hta ⊢
   have k3:=k2.trans sa
   have sH:=s2.trans sa
   dsimp only
   have hcl:=q9 (sort:=i) (year:=y) hu h5 okp
   have hln:=gr (ss:=ss) (sort:=i) (year:=y) lp
   have hao:=nO (sort:=i) oko
   have hal:=q8 ps ow i
   refine aG ?_
   refine ⟨_,rfl,_,rfl,_,rfl,c.getD i 0+(yTo c ps ss ow y i).d,lc,xlc,aN ps ss i y,la,ya,aR ps ow i,rfl,sa _ _ elc,elsc.same sa,hcl,hln,by lia,ela,hta,fun r hr=>(hao r hr).1,by lia,fun t g kk xg' xk' H4 s4 et ng nk eg' elg' ek' elk'=>⟨t,_,rfl,SqT.of et,rfl,_,_,rfl,_,_,rfl,rfl,?_⟩⟩
   have k4:=k3.trans s4
   have sH4:=sH.trans s4
   have gl:=wC ((aN ps ss i y++aR ps ow i).zip (shr (c.getD i 0+(yTo c ps ss ow y i).d) (aN ps ss i y) (aR ps ow i)))
   have kl:=nP ((aN ps ss i y++aR ps ow i).zip (shr (c.getD i 0+(yTo c ps ss ow y i).d) (aN ps ss i y) (aR ps ow i)))
   have zl:((aN ps ss i y++aR ps ow i).zip (shr (c.getD i 0+(yTo c ps ss ow y i).d) (aN ps ss i y) (aR ps ow i))).length<=80+ow.length:=by
    rw [zAs,zA2]
    lia
   have e1:(yTo c ps ss ow y (i+1)).g=(yTo c ps ss ow y i).g++fM ((aN ps ss i y++aR ps ow i).zip (shr (c.getD i 0+(yTo c ps ss ow y i).d) (aN ps ss i y) (aR ps ow i))):=rfl
   have e2:(yTo c ps ss ow y (i+1)).k=(yTo c ps ss ow y i).k++fD ((aN ps ss i y++aR ps ow i).zip (shr (c.getD i 0+(yTo c ps ss ow y i).d) (aN ps ss i y) (aR ps ow i))):=rfl
   have e3:(yTo c ps ss ow y (i+1)).l=(yTo c ps ss ow y i).l++[c.getD i 0+(yTo c ps ss ow y i).d - dG (fM ((aN ps ss i y++aR ps ow i).zip (shr (c.getD i 0+(yTo c ps ss ow y i).d) (aN ps ss i y) (aR ps ow i))))]:=rfl
   have e4:(yTo c ps ss ow y (i+1)).d=c.getD i 0+(yTo c ps ss ow y i).d - dG (fM ((aN ps ss i y++aR ps ow i).zip (shr (c.getD i 0+(yTo c ps ss ow y i).d) (aN ps ss i y) (aR ps ow i)))):=rfl
   have g4:∀ r∈fM ((aN ps ss i y++aR ps ow i).zip (shr (c.getD i 0+(yTo c ps ss ow y i).d) (aN ps ss i y) (aR ps ow i))),r.length=4:=fun r hr=>by
    obtain ⟨p,_,rfl⟩:=zA5.mp hr
    rfl
   rw [e1,e2,e3,e4] at hnO
   generalize fM ((aN ps ss i y++aR ps ow i).zip (shr (c.getD i 0+(yTo c ps ss ow y i).d) (aN ps ss i y) (aR ps ow i)))=GG at elg' g4 gl hnO ⊢
   generalize fD ((aN ps ss i y++aR ps ow i).zip (shr (c.getD i 0+(yTo c ps ss ow y i).d) (aN ps ss i y) (aR ps ow i)))=KK at elk' kl hnO ⊢
   dsimp only
   refine aG ?_
   refine aX ?_
   refine ⟨_,rfl,_,rfl,g,xg',GG,rfl,eg',elg',g4,by lia,fun H5 s5=>⟨_,_,rfl,rfl,?_⟩⟩
   refine aM ?_
   dsimp only
   have k5:=k4.trans s5
   have sH5:=sH4.trans s5
   have ngl:g≠lg:=(aF (sH _ _ eg) ng).symm
   have nkl:kk≠lg:=(aF (sH _ _ eg) nk).symm
   have eg5:=sH5 _ _ eg
   have ek5:=sH5 _ _ ek
   have el5:=sH5 _ _ el
   refine aG ?_
   refine ⟨_,rfl,_,rfl,lg,g,xg,xg',rfl,rfl,eg5,s5 _ _ eg',by rw [elg.1,elg'.1,sizeLine_eq];have:i * (80+ow.length)<=3 * (80+ow.length):=Nat.mul_le_mul_right _ (by lia);lia,?_⟩
   dsimp only
   have tp6:∀ b z,H5 b=some (.tup z)->upd H5 lg (.lst (xg++xg')) b=some (.tup z):=fun b z e=>by
    rw [aD fun w=>by rw [w,eg5] at e;cases e]
    exact e
   have k6:Same H (upd H5 lg (.lst (xg++xg'))):=fun b o e=>by
    rw [aD (aF e nlg)]
    exact k5 _ _ e
   have eG6:=ao (H:=H5) (a:=lg) (o:=.lst (xg++xg'))
   have elG6:=((elg.same sH5).app (elg'.same s5)).keep tp6
   have ek6:upd H5 lg (.lst (xg++xg')) lk=some (.lst xk):=by rw [aD dgk.symm];exact ek5
   have ekk6:upd H5 lg (.lst (xg++xg')) kk=some (.lst xk'):=by rw [aD nkl];exact s5 _ _ ek'
   have el6:upd H5 lg (.lst (xg++xg')) ll=some (.lst ((yTo c ps ss ow y i).l.map V.int)):=by rw [aD dgl.symm];exact el5
   have elk6:=(elk.same sH5).keep tp6
   have elk6':=(elk'.same s5).keep tp6
   generalize upd H5 lg (.lst (xg++xg'))=H6 at k6 eG6 elG6 ek6 ekk6 el6 elk6 elk6' ⊢
   refine aG ?_
   refine ⟨_,rfl,_,rfl,lk,kk,xk,xk',rfl,rfl,ek6,ekk6,by rw [elk.1,elk'.1,sizeLine_eq];have:i * (80+ow.length)<=3 * (80+ow.length):=Nat.mul_le_mul_right _ (by lia);lia,?_⟩
   dsimp only
   have tp7:∀ b z,H6 b=some (.tup z)->upd H6 lk (.lst (xk++xk')) b=some (.tup z):=fun b z e=>by
    rw [aD fun w=>by rw [w,ek6] at e;cases e]
    exact e
   have k7:Same H (upd H6 lk (.lst (xk++xk'))):=fun b o e=>by
    rw [aD (aF e nlk)]
    exact k6 _ _ e
   have eG7:upd H6 lk (.lst (xk++xk')) lg=some (.lst (xg++xg')):=by rw [aD dgk];exact eG6
   have elG7:=elG6.keep tp7
   have eK7:=ao (H:=H6) (a:=lk) (o:=.lst (xk++xk'))
   have elK7:=(elk6.app elk6').keep tp7
   have el7:upd H6 lk (.lst (xk++xk')) ll=some (.lst ((yTo c ps ss ow y i).l.map V.int)):=by rw [aD dkl.symm];exact el6
   generalize upd H6 lk (.lst (xk++xk'))=H7 at k7 eG7 elG7 eK7 elK7 el7 ⊢
   refine ⟨_,rfl,.inl ⟨rfl,_,SqL.of el7⟩,_,rfl,ll,_,_,rfl,rfl,el7,by rw [zA1,yl3,sizeLine_eq];lia,?_⟩
   have tp8:∀ {o:HO} b z,H7 b=some (.tup z)->upd H7 ll o b=some (.tup z):=fun b z e=>by
    rw [aD fun w=>by rw [w,el7] at e;cases e]
    exact e
   refine hnO _ _ ⟨_,_,_,_,_,_,xg++xg',xk++xk',rfl,fun b o e=>?_,?_,elG7.keep tp8,?_,elK7.keep tp8,?_⟩
   ·rw [aD (aF e nll)]
    exact k7 _ _ e
   ·rw [aD dgl]
    exact eG7
   ·rw [aD dkl]
    exact eK7
   ·rw [ao,zA4]
    rfl
  ·rintro σ Hc ⟨x10,x11,x12,x13,x14,x15,xg,xk,rfl,k,eg,elg,ek,elk,el⟩
   obtain ⟨yr1,yr2⟩:=y_row (c:=c) (ps:=ps) (ss:=ss) (ow:=ow) (y:=y) 3
   have q:∀ t g k tl xg xk H',Same H H'->H' t=some (.tup [.ref g,.ref k,.ref tl])->H g=none->H k=none->(g≠sysModules/\k≠sysModules)->H' g=some (.lst xg)->Els H' xg (srt (yTo c ps ss ow y 3).g)->H' k=some (.lst xk)->Els H' xk (srt (yTo c ps ss ow y 3).k)->H' tl=some (.tup ((yTo c ps ss ow y 3).l.map V.int))->Q (.ref t) H':=q
   have elg:Els Hc xg (yTo c ps ss ow y 3).g:=elg
   have elk:Els Hc xk (yTo c ps ss ow y 3).k:=elk
   have el:Hc ll=some (.lst ((yTo c ps ss ow y 3).l.map V.int)):=el
   obtain ⟨ag,erg,hrg,hag⟩:=rD elg
   obtain ⟨ak,erk,hrk,hak⟩:=rD elk
   subst erg erk
   dsimp only
   have nn:∀ {rs:List (List Int)} {ads:List Addr},rs=ads.map (jV Hc)->(∀ r∈rs,r.length=4)->∀ a∈ads,jV Hc a≠[]:=fun {rs ads} h h4 a ha z=>by
    have:=h4 (jV Hc a) (by rw [h];exact List.mem_map_of_mem ha)
    rw [z] at this
    cases this
   refine ⟨_,rfl,lg,ag,jV Hc,rfl,SqL.of eg,fun a ha=>⟨SqT.of (hag a ha),nn hrg yr1 a ha⟩,fun g l1 hg ngs pm1 so1=>?_⟩
   have sg:=Same.upd (o:=.lst (l1.map V.ref)) hg
   refine ⟨_,rfl,lk,ak,jV Hc,rfl,SqL.of (sg _ _ ek),fun a ha=>⟨SqT.of (sg _ _ (hak a ha)),nn hrk yr2 a ha⟩,fun kk l2 hk nks pm2 so2=>?_⟩
   have sk:=sg.updR (o:=.lst (l2.map V.ref)) hk
   refine ⟨_,rfl,ll,_,rfl,.inl ⟨SqL.of (sk _ _ el),fun tl htl=>?_⟩⟩
   have sl:=sk.updR (o:=.tup ((yTo c ps ss ow y 3).l.map V.int)) htl
   refine ⟨(by show 3<=sizeLine;decide),fun t ht=>?_⟩
   have st:=sl.updR (o:=.tup [.ref g,.ref kk,.ref tl]) ht
   have u1:=Same.upd (o:=.lst (l2.map V.ref)) hk
   have u2:=Same.upd (o:=.tup ((yTo c ps ss ow y 3).l.map V.int)) htl
   have u3:=Same.upd (o:=.tup [.ref g,.ref kk,.ref tl]) ht
   have eS1:l1.map (jV Hc)=srt (yTo c ps ss ow y 3).g:=zT (by rw [hrg];exact pm1.map _) (List.pairwise_map.mpr so1)
   have eS2:l2.map (jV Hc)=srt (yTo c ps ss ow y 3).k:=zT (by rw [hrk];exact pm2.map _) (List.pairwise_map.mpr so2)
   refine q t g kk tl _ _ _ (k.trans st) ao (k.free hg) (k.free (sg.free hk)) ⟨ngs,nks⟩ (u3 _ _ (u2 _ _ (u1 _ _ ao))) ?_ (u3 _ _ (u2 _ _ ao)) ?_ (u3 _ _ ao)
   ·rw [<- eS1]
    exact zU fun a ha=>st _ _ (hag a (pm1.mem_iff.mp ha))
   ·rw [<- eS2]
    exact zU fun a ha=>st _ _ (hak a (pm2.mem_iff.mp ha))
end
end K74

namespace K74
open PySem L2
def cnt (ps ow:List (List Int)):Nat->Nat
 | 0=>0
 | n+1=>cnt ps ow n+(aR ps ow n).length
theorem cnt_nil (ps:List (List Int)):∀ n,cnt ps [] n=0
 | 0=>rfl
 | n+1=>by
  unfold cnt
  rw [cnt_nil ps n]
  rfl
theorem cnt_cons (ps ow:List (List Int))(r:List Int):∀ n,cnt ps (r::ow) n=cnt ps ow n+(if 0<=fl (ps.getD (fl r 1).toNat []) 1/\fl (ps.getD (fl r 1).toNat []) 1 < n then 1 else 0)
 | 0=>by
  rw [if_neg (by lia)]
  rfl
 | n+1=>by
  show cnt ps (r::ow) n+(aR ps (r::ow) n).length=cnt ps ow n+(aR ps ow n).length+_
  rw [cnt_cons ps ow r n]
  unfold aR
  by_cases h:fl (ps.getD (fl r 1).toNat []) 1=n
  ·rw [List.filter_cons_of_pos (p:=fun (r:List Int)=>decide (fl (ps.getD (fl r 1).toNat []) 1=(n:Int))) (decide_eq_true h),zAe,if_neg (by lia),if_pos (by lia)]
   lia
  ·rw [List.filter_cons_of_neg (p:=fun (r:List Int)=>decide (fl (ps.getD (fl r 1).toNat []) 1=(n:Int))) (by rw [decide_eq_true_eq];exact h)]
   by_cases h2:0<=fl (ps.getD (fl r 1).toNat []) 1/\fl (ps.getD (fl r 1).toNat []) 1 < n
   ·rw [if_pos h2,if_pos (by lia)]
    lia
   ·rw [if_neg h2,if_neg (by lia)]
    lia
theorem zZ (ps:List (List Int))(n:Nat):∀ ow:List (List Int),cnt ps ow n<=ow.length
 | []=>by rw [cnt_nil];exact zA3 _
 | r::ow=>by
  rw [cnt_cons,zAe]
  have:=zZ ps n ow
  split <;> lia
theorem Dt {c:List Int}{ps ss ow:List (List Int)}{y:Int}(hl:ps.length<=10):∀ n,(yTo c ps ss ow y n).k.length<=80 * n+cnt ps ow n
 | 0=>zAp _
 | n+1=>by
  have a:=Dt (c:=c) (ss:=ss) (ow:=ow) (y:=y) hl n
  have h1:=gr (ss:=ss) (sort:=n) (year:=y) hl
  have h3:=nP ((aN ps ss n y++aR ps ow n).zip (shr (c.getD n 0+(yTo c ps ss ow y n).d) (aN ps ss n y) (aR ps ow n)))
  show ((yTo c ps ss ow y n).k++fD _).length<=80 * (n+1)+(cnt ps ow n+(aR ps ow n).length)
  rw [zA2]
  rw [zAs,zA2] at h3
  lia
theorem Hg {c:List Int}{ps ss ow:List (List Int)}{y:Int}(hu:un ps ss=none)(h5:∀ s∈ss,s.length=5)(okp:∀ r∈ps,okP r)(ho:∀ r∈ow,okO ps r):∀ n,∀ r∈(yTo c ps ss ow y n).k,okO ps r
 | 0,r,hr=>by cases hr
 | n+1,r,hr=>by
  rcases zA6.mp (show r∈(yTo c ps ss ow y n).k++fD _ from hr) with z | z
  ·exact Hg (c:=c) (y:=y) hu h5 okp ho n r z
  ·obtain ⟨p,hp,rfl⟩:=zA5.mp z
   obtain ⟨h1,h2⟩:=zAq.mp hp
   have h2:=of_decide_eq_true h2
   have hm:p.1∈aN ps ss n y++aR ps ow n:=(List.of_mem_zip (show (p.1,p.2)∈_ from h1)).1
   have hn:0<=fl p.1 1/\fl p.1 1 < ps.length:=by
    rcases zA6.mp hm with w | w
    ·obtain ⟨_,_,_,_,a,b⟩:=Dq (sort:=n) (year:=y) hu h5 okp ps.length (zA3 _) p.1 w
     exact ⟨a,b⟩
    ·have:=nO ho p.1 w
     exact ⟨this.2.1,this.2.2.1⟩
   refine ⟨rfl,hn.1,hn.2,?_⟩
   show 1<=fl p.1 3 - p.2
   lia
def iC (cs ps ss:List (List Int)):Nat->List (List Int)
 | 0=>[]
 | n+1=>srt (yTo (cs.getD n []) ps ss (iC cs ps ss n) n 3).k
theorem wG {cs ps ss:List (List Int)}(hl:ps.length<=10)(hu:un ps ss=none)(h5:∀ s∈ss,s.length=5)(okp:∀ r∈ps,okP r):∀ n,(∀ r∈iC cs ps ss n,okO ps r)/\(iC cs ps ss n).length<=240 * n
 | 0=>⟨fun r hr=>(by cases hr),zA3 _⟩
 | n+1=>by
  obtain ⟨a,b⟩:=wG (cs:=cs) hl hu h5 okp n
  have pm:=List.mergeSort_perm (yTo (cs.getD n []) ps ss (iC cs ps ss n) n 3).k rle
  refine ⟨fun r hr=>Hg (c:=cs.getD n []) (y:=n) hu h5 okp a 3 r (pm.mem_iff.mp hr),?_⟩
  show (srt (yTo (cs.getD n []) ps ss (iC cs ps ss n) n 3).k).length<=_
  unfold srt
  rw [pm.length_eq]
  have:=Dt (c:=cs.getD n []) (ss:=ss) (ow:=iC cs ps ss n) (y:=n) hl 3
  have:=zZ ps 3 (iC cs ps ss n)
  lia
end K74

namespace K74
open PySem L2
def uX (cs ps ss:List (List Int))(j:Nat):Yr:=yTo (cs.getD j []) ps ss (iC cs ps ss j) j 3
def YAt (H0:Hp)(l:Addr)(cs ps ss:List (List Int))(H:Hp)(a:Addr)(j:Nat):Prop:=∃ g k tl xg xk,H a=some (.tup [.ref g,.ref k,.ref tl])/\H0 g=none/\H0 k=none/\g≠l/\k≠l/\H g=some (.lst xg)/\Els H xg (srt (uX cs ps ss j).g)/\H k=some (.lst xk)/\Els H xk (iC cs ps ss (j+1))/\H tl=some (.tup ((uX cs ps ss j).l.map V.int))/\(g≠sysModules/\k≠sysModules)
theorem YAt.keep {H0 H H':Hp}{l a:Addr}{cs ps ss:List (List Int)}{j:Nat}(h:YAt H0 l cs ps ss H a j)(k:∀ b o,b≠l->H b=some o->H' b=some o)(hl:∃ xs,H l=some (.lst xs)):YAt H0 l cs ps ss H' a j:=by
 obtain ⟨xs,hl⟩:=hl
 obtain ⟨g,kk,tl,xg,xk,e1,n1,n2,d1,d2,e2,e3,e4,e5,e6,e7⟩:=h
 have nt:∀ b z,H b=some (.tup z)->b≠l:=fun b z e w=>by rw [w,hl] at e;cases e
 exact ⟨g,kk,tl,xg,xk,k _ _ (nt _ _ e1) e1,n1,n2,d1,d2,k _ _ d1 e2,e3.keep fun b z e=>k _ _ (nt _ _ e) e,k _ _ d2 e4,e5.keep fun b z e=>k _ _ (nt _ _ e) e,k _ _ (nt _ _ e6) e6,e7⟩
inductive SpYearsI (vs:List V)(H:Hp)(Q:VK):Prop
 | mk:∀ bk y ac xc cs ap xp ps as_ xs ss,(vs=[.ref bk,.int y])->(H bk=some (.tup [.ref ac,.ref ap,.ref as_]))->(RowsAt H ac xc cs)->((∀ r∈cs,r.length=3/\∀ x∈r,0<=x))->(cs.length<=20)->(0<=y)->(y < cs.length)->(RowsAt H ap xp ps)->(ps.length<=10)->((∀ r∈ps,okP r))->(RowsAt H as_ xs ss)->(ss.length<=12)->((∀ s∈ss,s.length=5))->(un ps ss=none)->(∀ l (ts:List Addr) H',Same H H'->H l=none->H' l=some (.lst (ts.map V.ref))->(ts.length:Int)=y+1->(∀ j a,ts[j]?=some a->YAt H l cs ps ss H' a j)->Q (.ref l) H')->SpYearsI  vs H Q
def lN:Sp:=fun vs H Q _=>SpYearsI  vs H Q
section
variable {P:Program}{w:World}{K:PySem.W.Frag}{mg:Str->Option Value}{base:Heap}
theorem scYB:FnScope ["book","year","years","owed","at","gifts","left"] ["book","year"] (aJ (top 56)):=⟨rfl,rfl,rfl,by decide +kernel,rfl,by decide +kernel,by decide +kernel⟩
theorem Aa {f:Addr}{fd:FuncData}(F:Fun K "years_given" "years_given" (top 56) f fd)(Tr:mg "range" = none)(c1:Cal P w K mg base 9 "year_given" ["book","year","owed"] zV):FnOk P w K mg base CX0 10 f fd ["book","year"] lN:=by
 refine F.ok scYB (fun vs H Q E h=>?_) (fun cdv A outer s H vs Q E hr h=>?_)
 ·obtain ⟨bk,y,ac,xc,cs,ap,xp,ps,as_,xs,ss,rfl,_⟩:=h
  rfl
 ·obtain ⟨bk,y,ac,xc,cs,ap,xp,ps,as_,xs,ss,rfl,eb,rc,okc,lc,y0,y1,rp,lp,okp,rs,ls,h5,hu,q⟩:=h
  refine ⟨_,aB (bf (i:=2) scYB.nd rfl (Or.inl rfl) (cC aj))
   (aB (bf (i:=3) scYB.nd rfl (Or.inl rfl) (cC aj))
   (aB (cW PassesOwn.never rfl (cT rfl Tr (az (aV bM (pv 1) aA) aj)) (au (i:=4) scYB.nd rfl (Or.inl rfl))
    (aB (cB (aK c1 hr (by decide) rfl (az (pv 0) (az (pv 4) (az (pv 3) aj)))) (bU rfl (aq (au (i:=5) scYB.nd rfl (Or.inl rfl)) (aq (au (i:=3) scYB.nd rfl (Or.inl rfl)) (aq (au (i:=6) scYB.nd rfl (Or.inl rfl)) aY)))))
    (aH (bA (j8 PySem.F.plainAttrs_list PySem.F.slot_list_append PySem.F.type_list_append di (pv 2) (az (bH (az (pv 5) (az (pv 3) (az (pv 6) aj)))) aj))))))
   (aH (aU (pv 2))))),?_⟩
  refine aG ?_
  refine aX ?_
  refine ⟨(by show 0<=sizeLine;decide),fun l hl=>?_⟩
  refine aM ?_
  dsimp only
  refine aG ?_
  refine aX ?_
  refine ⟨(by show 0<=sizeLine;decide),fun lo0 hlo=>?_⟩
  refine aM ?_
  dsimp only
  have s1:=Same.upd (o:=.lst []) hl
  have s2:=Same.upd (o:=.lst []) hlo
  have dlo:lo0≠l:=fun z=>by rw [z,ao] at hlo;cases hlo
  refine zW (fun H1=>Same H H1/\H1 l=some (.lst [])/\H1 lo0=some (.lst [])) ⟨s1.trans s2,s2 _ _ ao,ao⟩ fun H1 ⟨k1,el1,eo1⟩=>?_
  refine aG ?_
  refine ⟨_,rfl,_,_,rfl,rfl,y+1,rfl,by lia,by lia,?_⟩
  refine cV (lo:=0) (fun i σ Hc=>∃ x4 x5 x6 lo xo,∃ ts:List Addr,σ=[some (.ref bk),some (.int y),some (.ref l),some (.ref lo),x4,x5,x6]/\Same H Hc/\Hc l=some (.lst (ts.map V.ref))/\ts.length=i/\(∀ j a,ts[j]?=some a->YAt H l cs ps ss Hc a j)/\lo≠l/\Hc lo=some (.lst xo)/\Els Hc xo (iC cs ps ss i)) ?_ ?_ ?_
  ·exact ⟨none,none,none,lo0,[],[],rfl,k1,el1,rfl,fun j a e=>(by simp at e),dlo,eo1,Els.nil⟩
  ·rintro i σ Hc hi ⟨x4,x5,x6,lo,xo,ts,rfl,k,el,lt,hy,dl,eo,elo⟩
   obtain ⟨oko,lno⟩:=wG (cs:=cs) lp hu h5 okp i
   refine aM ?_
   have z0:(0:Int)+(i:Int)=i:=by lia
   rw [z0]
   refine aG ?_
   refine ⟨_,rfl,_,rfl,_,rfl,bk,i,lo,ac,xc,cs,ap,xp,ps,as_,xs,ss,xo,iC cs ps ss i,rfl,k _ _ eb,rc.same k,okc,by lia,by lia,rp.same k,lp,okp,rs.same k,ls,h5,hu,eo,elo,oko,by lia,fun t g kk tl xg xk H2 s2 et ng nk ngs eg elg ek elk etl=>?_⟩
   rw [zAi] at elg elk etl
   refine ⟨t,_,rfl,SqT.of et,rfl,_,_,rfl,_,_,rfl,_,_,rfl,rfl,?_⟩
   dsimp only
   have k2:=k.trans s2
   have el2:=s2 _ _ el
   have dg:g≠l:=(aF el ng).symm
   have dk:kk≠l:=(aF el nk).symm
   refine ⟨_,rfl,.inl ⟨rfl,_,SqL.of el2⟩,_,rfl,_,rfl,_,rfl,(by show 3<=sizeLine;decide),fun tt htt=>⟨l,_,_,rfl,rfl,Same.upd htt _ _ el2,by rw [zA1,lt,sizeLine_eq];lia,?_⟩⟩
   have s3:=Same.upd (o:=.tup [.ref g,.ref kk,.ref tl]) htt
   have nt:tt≠l:=fun z=>by rw [z,el2] at htt;cases htt
   have kp:∀ {o:HO} b u,b≠l->H2 b=some u->upd (upd H2 tt (.tup [.ref g,.ref kk,.ref tl])) l o b=some u:=fun b u n e=>by
    rw [aD n]
    exact s3 _ _ e
   have ke:∀ {o:HO} b z,H2 b=some (.tup z)->upd (upd H2 tt (.tup [.ref g,.ref kk,.ref tl])) l o b=some (.tup z):=fun b z e=>kp b _ (fun w=>by rw [w,el2] at e;cases e) e
   refine ⟨_,_,_,kk,xk,ts++[tt],rfl,fun b o e=>?_,?_,by rw [zA2,lt];rfl,fun j a e=>?_,dk,kp _ _ dk ek,elk.keep ke⟩
   ·exact kp _ _ (aF e hl) (k2 _ _ e)
   ·rw [ao,zA4]
    rfl
   ·by_cases hj:j < ts.length
    ·rw [List.getElem?_append_left hj] at e
     exact (hy j a e).keep (fun b o n z=>kp _ _ n (s2 _ _ z)) ⟨_,el⟩
    ·have hj':j=i:=by
      have:=(zAa.mp e).1
      rw [zA2] at this
      simp at this
      lia
     subst hj'
     rw [List.getElem?_append_right (by lia),lt,Nat.sub_self] at e
     cases e
     exact ⟨g,kk,tl,xg,xk,by rw [aD nt];exact ao,k.free ng,k.free nk,dg,dk,kp _ _ dg eg,elg.keep ke,kp _ _ dk ek,elk.keep ke,ke _ _ etl,ngs⟩
  ·rintro σ Hc ⟨x4,x5,x6,lo,xo,ts,rfl,k,el,lt,hy,dl,eo,elo⟩
   exact ⟨_,rfl,q l ts Hc k hl el (by rw [lt];lia) hy⟩
end
end K74

namespace K74
open PySem L2
abbrev ky (n y:Int):List Key:=[.inl n,.inl y]
def KsOk (kv:List (Key×V)):Prop:=∀ p∈kv,∃ h:Int,p.1=.inl h/\0<=h/\h < 8
theorem KsOk.put {kv:List (Key×V)}(g:KsOk kv){h:Int}(h0:0<=h)(h8:h < 8)(v:V):KsOk (putK kv (.inl h) v):=by
 intro p hp
 unfold putK at hp
 split at hp
 ·obtain ⟨q,hq,rfl⟩:=zA5.mp hp
  split
  ·exact g q hq
  ·exact g q hq
 ·rcases zA6.mp hp with z | z
  ·exact g p z
  ·rw [List.mem_singleton.mp z]
   exact ⟨h,rfl,h0,h8⟩
structure Dts (fo:Addr)(H0 H:Hp)(dm:Int->Int->Prop)(f:Int->Int->Int->Int)(b:Int->Int->Nat)(kvs:List (List Key×V)):Prop where
 sm:Same H0 H
 nf:H0 fo=none
 e:H fo=some (.dT kvs)
 g:∀ n y,dm n y->∃ d kv,cX kvs (ky n y)=some (.ref d)/\H d=some (.dK kv)/\(kv.length<=b n y/\KsOk kv)/\∀ h,0<=h->h < 8->(cX kv (.inl h)).getD (.int 0)=.int (f n y h)
 no:∀ n y,¬ dm n y->cX kvs (ky n y)=none
 i:∀ n y n' y' d,cX kvs (ky n y)=some (.ref d)->cX kvs (ky n' y')=some (.ref d)->n=n'/\y=y'
 fr:∀ n y d,cX kvs (ky n y)=some (.ref d)->H0 d=none/\d≠fo/\∃ o,H d=some o
theorem Dts.new {fo p:Addr}{o:HO}{H0 H:Hp}{dm:Int->Int->Prop}{f:Int->Int->Int->Int}{b:Int->Int->Nat}{kvs:List (List Key×V)}(g:Dts fo H0 H dm f b kvs)(hp:H p=none):Dts fo H0 (upd H p o) dm f b kvs :=
 ⟨g.sm.updR hp,g.nf,Same.upd hp _ _ g.e,fun n y h=>by
  obtain ⟨d,kv,e1,e2,r⟩:=g.g n y h
  exact ⟨d,kv,e1,Same.upd hp _ _ e2,r⟩,g.no,g.i,fun n y d h=>by
  obtain ⟨e1,e2,o',e3⟩:=g.fr n y d h
  exact ⟨e1,e2,o',Same.upd hp _ _ e3⟩⟩
theorem Dts.same {fo:Addr}{H0 H H':Hp}{dm:Int->Int->Prop}{f:Int->Int->Int->Int}{b:Int->Int->Nat}{kvs:List (List Key×V)}(g:Dts fo H0 H dm f b kvs)(s:Same H H'):Dts fo H0 H' dm f b kvs :=
 ⟨g.sm.trans s,g.nf,s _ _ g.e,fun n y h=>by
  obtain ⟨d,kv,e1,e2,r⟩:=g.g n y h
  exact ⟨d,kv,e1,s _ _ e2,r⟩,g.no,g.i,fun n y d h=>by
  obtain ⟨e1,e2,o',e3⟩:=g.fr n y d h
  exact ⟨e1,e2,o',s _ _ e3⟩⟩
theorem uY {n y n' y':Int}(h:ky n y=ky n' y'):n=n'/\y=y':=by
 injection h with h1 h2
 injection h2 with h2 _
 injection h1 with h1
 injection h2 with h2
 exact ⟨h1,h2⟩
theorem Dts.wr {fo d:Addr}{H0 H:Hp}{dm:Int->Int->Prop}{f f':Int->Int->Int->Int}{b b':Int->Int->Nat}{kvs:List (List Key×V)}{kv':List (Key×V)}{N Y:Int}(g:Dts fo H0 H dm f b kvs)(hv:cX kvs (ky N Y)=some (.ref d))
  (h1:(kv'.length<=b' N Y/\KsOk kv')/\∀ h,0<=h->h < 8->(cX kv' (.inl h)).getD (.int 0)=.int (f' N Y h)) (h2:∀ n y,dm n y->¬ (n=N/\y=Y)->b n y<=b' n y/\∀ h,0<=h->h < 8->f' n y h=f n y h):Dts fo H0 (upd H d (.dK kv')) dm f' b' kvs:=by
 obtain ⟨w1,w2,_⟩:=g.fr _ _ _ hv
 refine ⟨fun c o e=>by rw [aD (aF e w1)];exact g.sm _ _ e,g.nf,by rw [aD w2.symm];exact g.e,fun n y hd=>?_,g.no,g.i,fun n y d' hd=>?_⟩
 ·by_cases hk:n=N/\y=Y
  ·obtain ⟨rfl,rfl⟩:=hk
   exact ⟨d,kv',hv,ao,h1⟩
  ·obtain ⟨d',kv,q1,q2,q3,q4⟩:=g.g n y hd
   have nd:d'≠d:=fun z=>hk (g.i _ _ _ _ _ (z ▸ q1) hv)
   obtain ⟨k1,k2⟩:=h2 n y hd hk
   exact ⟨d',kv,q1,by rw [aD nd];exact q2,⟨Nat.le_trans q3.1 k1,q3.2⟩,fun h z1 z2=>by rw [k2 h z1 z2];exact q4 h z1 z2⟩
 ·obtain ⟨w3,w4,o,w5⟩:=g.fr n y d' hd
  by_cases hdd:d'=d
  ·exact ⟨w3,w4,.dK kv',by rw [hdd];exact ao⟩
  ·exact ⟨w3,w4,o,by rw [aD hdd];exact w5⟩
theorem Dts.cast {fo:Addr}{H0 H:Hp}{dm:Int->Int->Prop}{f f':Int->Int->Int->Int}{b b':Int->Int->Nat}{kvs:List (List Key×V)}(g:Dts fo H0 H dm f b kvs)(h2:∀ n y,dm n y->b n y<=b' n y/\∀ h,0<=h->h < 8->f' n y h=f n y h):Dts fo H0 H dm f' b' kvs :=
 ⟨g.sm,g.nf,g.e,fun n y hd=>by
  obtain ⟨d',kv,q1,q2,q3,q4⟩:=g.g n y hd
  obtain ⟨k1,k2⟩:=h2 n y hd
  exact ⟨d',kv,q1,q2,⟨Nat.le_trans q3.1 k1,q3.2⟩,fun h z1 z2=>by rw [k2 h z1 z2];exact q4 h z1 z2⟩,g.no,g.i,g.fr⟩
def dom (ps:List (List Int))(n y:Int):Prop:=0<=n/\n < ps.length/\fl (ps.getD n.toNat []) 2<=y/\y<=fl (ps.getD n.toNat []) 3
def f0 (ps:List (List Int))(n y h:Int):Int:=if h=fl (ps.getD n.toNat []) 0 then fl (ps.getD n.toNat []) 4 else 0
inductive SpBegunI (vs:List V)(H:Hp)(Q:VK):Prop
 | mk:∀ ap xp ps,(vs=[.ref ap])->(RowsAt H ap xp ps)->(ps.length<=10)->((∀ r∈ps,okP r))->(∀ fo H' kvs,Dts fo H H' (dom ps) (f0 ps) (fun _ _=>1) kvs->Q (.ref fo) H')->SpBegunI  vs H Q
def wH:Sp:=fun vs H Q _=>SpBegunI  vs H Q
section
variable {P:Program}{w:World}{K:PySem.W.Frag}{mg:Str->Option Value}{base:Heap}
theorem sc34s:FnScope ["_law_promises_here","_law_found","_law_number","_law_holder","_law_sort","_law_first","_law_last","_law_sacks","_law_price","_law_year"] ["_law_promises_here"] (aJ (top 74)):=⟨rfl,rfl,rfl,by decide +kernel,rfl,by decide +kernel,by decide +kernel⟩
theorem Ab {f:Addr}{fd:FuncData}(F:Fun K "_law_begun" "_law_begun" (top 74) f fd)(Te:mg "enumerate" = none)(Tr:mg "range" = none):FnOk P w K mg base CX0 1 f fd ["_law_promises_here"] wH:=by
 refine F.ok sc34s (fun vs H Q E h=>?_) (fun cdv A outer s H vs Q E hr h=>?_)
 ·obtain ⟨ap,xp,ps,rfl,_⟩:=h
  rfl
 ·obtain ⟨ap,xp,ps,rfl,rp,lp,okp,q⟩:=h
  refine ⟨_,aB (bf (i:=1) sc34s.nd rfl (Or.inl rfl) yU)
   (aB (cW PassesOwn.never rfl (pi_enum rfl Te (az (pv 0) aj)) (bU rfl (aq (au (i:=2) sc34s.nd rfl (Or.inl rfl)) (aq (bU rfl (aq (au (i:=3) sc34s.nd rfl (Or.inl rfl)) (aq (au (i:=4) sc34s.nd rfl (Or.inl rfl)) (aq (au (i:=5) sc34s.nd rfl (Or.inl rfl))
     (aq (au (i:=6) sc34s.nd rfl (Or.inl rfl)) (aq (au (i:=7) sc34s.nd rfl (Or.inl rfl)) (aq (au (i:=8) sc34s.nd rfl (Or.inl rfl)) aY))))))) aY)))
    (aH (cW PassesOwn.never rfl (ig rfl Tr (az (pv 5) (az (aV bM (pv 6) aA) aj))) (au (i:=9) sc34s.nd rfl (Or.inl rfl))
     (aH (qM (kE hr) (pv 1) (bH (az (pv 2) (az (pv 9) aj))) (Bt (yV (pv 3) (pv 7) Bs) rfl rfl (by simp) (by decide)) rfl)))))
   (aH (aU (pv 1)))),?_⟩
  refine aG ?_
  refine aX ?_
  refine fun fo hfo=>?_
  refine aM ?_
  dsimp only
  refine aG ?_
  have d0:Dts fo H (upd H fo (.dT [])) (fun _ _=>False) (f0 ps) (fun _ _=>1) []:=⟨Same.upd hfo,hfo,ao,fun _ _ z=>z.elim,fun _ _ _=>rfl,fun _ _ _ _ _ z=>(by cases z),fun _ _ _ z=>(by cases z)⟩
  generalize upd H fo (.dT [])=H1 at d0 ⊢
  refine ⟨_,rfl,ap,xp,rfl,SqT.of (d0.sm _ _ rp.e),?_⟩
  refine jj (xs:=xp) (fun i σ Hc=>∃ x2 x3 x4 x5 x6 x7 x8 x9 kvs,σ=[some (.ref ap),some (.ref fo),x2,x3,x4,x5,x6,x7,x8,x9]/\Dts fo H Hc (fun n y=>dom ps n y/\n < i) (f0 ps) (fun _ _=>1) kvs/\kvs.length<=20 * i) ?_ ?_ ?_ ?_
  ·exact ⟨none,none,none,none,none,none,none,none,[],rfl,⟨d0.sm,d0.nf,d0.e,fun n y z=>by
    have:=z.1.1
    have:=z.2
    lia,fun n y _=>d0.no n y id,d0.i,d0.fr⟩,zA3 _⟩
  ·rintro i σ Hc hi ⟨x2,x3,x4,x5,x6,x7,x8,x9,kvs,rfl,dt,lk⟩
   exact SqT.of (dt.sm _ _ rp.e)
  ·rintro i x σ Hc T0 hx ⟨x2,x3,x4,x5,x6,x7,x8,x9,kvs,rfl,dt,lk⟩ nT
   have hi:i < ps.length:=by
    have:=(zAa.mp hx).1
    rw [rp.l] at this
    exact this
   obtain ⟨tr,ex2,etr⟩:=rp.g i ps[i] (zA0 hi)
   have:x=.ref tr:=by
    rw [hx] at ex2
    exact zAl ex2
   subst this
   have op:=okp ps[i] (zAh hi)
   have ep:ps.getD ((i:Int)).toNat []=ps[i]:=by
    rw [zAi]
    exact getD_get hi
   have dT:=dt.new (o:=.tup [V.int i,V.ref tr]) nT
   generalize hpi:ps[i]=p at etr op ep
   have et2:=dT.sm _ _ etr
   rw [eG op.1] at et2
   obtain ⟨_,⟨a1,a2⟩,_,⟨c1,c2,c3⟩,⟨e1,e2⟩,_⟩:=op
   refine ⟨T0,_,rfl,SqT.of ao,rfl,_,_,rfl,_,_,rfl,?_⟩
   refine ⟨tr,_,rfl,SqT.of et2,rfl,_,_,rfl,_,_,rfl,_,_,rfl,_,_,rfl,_,_,rfl,_,_,rfl,rfl,rfl,?_⟩
   refine ⟨_,rfl,_,rfl,_,_,rfl,rfl,fl p 2,fl p 3+1,rfl,⟨by lia,by lia,by lia,by lia⟩,?_⟩
   generalize upd Hc T0 (.tup [V.int i,V.ref tr])=H2 at dT ⊢
   refine cV (lo:=fl p 2) (n:=(fl p 3+1 - fl p 2).toNat) (fun j σ Hj=>∃ x9 kvs,σ=[some (.ref ap),some (.ref fo),some (.int i),some (.int (fl p 0)),some (.int (fl p 1)),some (.int (fl p 2)),some (.int (fl p 3)),some (.int (fl p 4)),some (.int (fl p 5)),x9]/\Dts fo H Hj (fun n y=>dom ps n y/\(n < i\/(n=i/\y < fl p 2+j))) (f0 ps) (fun _ _=>1) kvs/\kvs.length<=20 * i+j) ?_ ?_ ?_
   ·exact ⟨x9,kvs,rfl,⟨dT.sm,dT.nf,dT.e,fun n y z=>dT.g n y ⟨z.1,by
     rcases z.2 with z2 | ⟨z2,z3⟩
     ·exact z2
     ·obtain ⟨_,_,w1,_⟩:=z.1
      rw [z2,ep] at w1
      lia⟩,fun n y z=>dT.no n y fun z'=>z ⟨z'.1,.inl z'.2⟩,dT.i,dT.fr⟩,lk⟩
   ·rintro j σ Hj hj ⟨x9,kvs,rfl,dj,lj⟩
    refine aM ?_
    refine fun p1 hp1=>?_
    refine ⟨_,rfl,_,rfl,ao,[(.inl (fl p 0),.int (fl p 4))],rfl,(by show 1<=15;decide),?_⟩
    have hD:∀ b o,Hj b=some o->upd (upd Hj p1 (.dK [])) p1 (.dK (gJ [] [(.inl (fl p 0),.int (fl p 4))])) b=some o:=fun b o e=>by
     rw [aD (aF e hp1),aD (aF e hp1)]
     exact e
    have e1':upd (upd Hj p1 (.dK [])) p1 (.dK (gJ [] [(.inl (fl p 0),.int (fl p 4))])) p1=some (.dK [(.inl (fl p 0),.int (fl p 4))]):=ao
    generalize upd (upd Hj p1 (.dK [])) p1 (.dK (gJ [] [(.inl (fl p 0),.int (fl p 4))]))=HD at hD e1' ⊢
    have nfo:p1≠fo:=fun z=>by
     rw [z,dj.e] at hp1
     cases hp1
    refine ⟨_,rfl,_,rfl,_,rfl,(by show 2<=sizeLine;decide),fun t ht=>⟨fo,_,rfl,DPut.t (k:=ky i (fl p 2+j)) (Same.upd ht _ _ (hD _ _ dj.e)) ao (by rw [sizeLine_eq];lia),?_⟩⟩
    have kp:∀ b o,Hj b=some o->b≠fo->upd (upd HD t (.tup [V.int i,V.int (fl p 2+j)])) fo (.dT (putK kvs (ky i (fl p 2+j)) (.ref p1))) b=some o:=fun b o e ne=>by
     rw [aD ne]
     exact Same.upd ht _ _ (hD _ _ e)
    have e1'':upd (upd HD t (.tup [V.int i,V.int (fl p 2+j)])) fo (.dT (putK kvs (ky i (fl p 2+j)) (.ref p1))) p1=some (.dK [(.inl (fl p 0),.int (fl p 4))]):=by
     rw [aD nfo]
     exact Same.upd ht _ _ e1'
    have np1:H p1=none:=dj.sm.free hp1
    refine ⟨_,_,rfl,⟨fun b o e=>kp b o (dj.sm _ _ e) (aF e dj.nf),dj.nf,ao,fun n y z=>?_,fun n y z=>?_,fun n y n' y' d z z'=>?_,fun n y d z=>?_⟩,?_⟩
    ·by_cases hk:ky n y=ky i (fl p 2+j)
     ·obtain ⟨rfl,rfl⟩:=uY hk
      refine ⟨p1,_,by rw [dN,if_pos rfl],e1'',⟨zA3 _,fun p hp=>⟨fl _ 0,by rw [List.mem_singleton.mp hp],a1,by lia⟩⟩,fun h h0 h8=>?_⟩
      unfold f0
      rw [ep]
      by_cases hh:h=fl p 0
      ·rw [if_pos hh,cH (show (Sum.inl (fl p 0):Key)=.inl h by rw [hh])]
       rfl
      ·rw [if_neg hh,cJ (fun z=>hh (by injection z with z;exact z.symm))]
       rfl
     ·have hd:dom ps n y/\(n < i\/(n=i/\y < fl p 2+j)):=⟨z.1,by
       rcases z.2 with z2 | ⟨z2,z3⟩
       ·exact .inl z2
       ·refine .inr ⟨z2,?_⟩
        have:y≠fl p 2+j:=fun w=>hk (by rw [z2,w])
        lia⟩
      obtain ⟨d,kv,q1,q2,q3⟩:=dj.g n y hd
      exact ⟨d,kv,by rw [dN,if_neg hk];exact q1,kp _ _ q2 (dj.fr n y d q1).2.1,q3⟩
    ·have hk:¬ ky n y=ky i (fl p 2+j):=fun w=>by
      obtain ⟨rfl,rfl⟩:=uY w
      exact z ⟨⟨by lia,by lia,by rw [ep];lia,by rw [ep];lia⟩,.inr ⟨rfl,by lia⟩⟩
     rw [dN,if_neg hk]
     exact dj.no n y fun z'=>z ⟨z'.1,z'.2.elim .inl fun w=>.inr ⟨w.1,by lia⟩⟩
    ·rw [dN] at z z'
     have old:∀ n y,cX kvs (ky n y)=some (.ref p1)->False:=fun n y w=>by
      obtain ⟨_,_,o,w3⟩:=dj.fr n y p1 w
      rw [hp1] at w3
      cases w3
     by_cases h1:ky n y=ky i (fl p 2+j)
     ·rw [if_pos h1] at z
      by_cases h2:ky n' y'=ky i (fl p 2+j)
      ·exact uY (h1.trans h2.symm)
      ·rw [if_neg h2] at z'
       injection z with z
       injection z with z
       rw [<- z] at z'
       exact (old _ _ z').elim
     ·rw [if_neg h1] at z
      by_cases h2:ky n' y'=ky i (fl p 2+j)
      ·rw [if_pos h2] at z'
       injection z' with z'
       injection z' with z'
       rw [<- z'] at z
       exact (old _ _ z).elim
      ·rw [if_neg h2] at z'
       exact dj.i _ _ _ _ _ z z'
    ·rw [dN] at z
     by_cases h1:ky n y=ky i (fl p 2+j)
     ·rw [if_pos h1] at z
      injection z with z
      injection z with z
      rw [<- z]
      exact ⟨np1,nfo,_,e1''⟩
     ·rw [if_neg h1] at z
      obtain ⟨w1,w2,o,w3⟩:=dj.fr n y d z
      exact ⟨w1,w2,o,kp _ _ w3 w2⟩
    ·have:=cF kvs (ky i (fl p 2+j)) (V.ref p1)
     lia
   ·rintro σ Hj ⟨x9,kvs,rfl,dj,lj⟩
    refine ⟨_,_,_,_,_,_,_,_,kvs,rfl,⟨dj.sm,dj.nf,dj.e,fun n y z=>dj.g n y ⟨z.1,?_⟩,fun n y z=>dj.no n y fun z'=>z ⟨z'.1,z'.2.elim (fun w=>by lia) fun w=>by lia⟩,dj.i,dj.fr⟩,by lia⟩
    by_cases hn:n < i
    ·exact .inl hn
    ·have e9:n=i:=by
      have:=z.2
      lia
     refine .inr ⟨e9,?_⟩
     obtain ⟨_,_,_,w1⟩:=z.1
     rw [e9,ep] at w1
     lia
  ·rintro σ Hc ⟨x2,x3,x4,x5,x6,x7,x8,x9,kvs,rfl,dt,lk⟩
   refine ⟨_,rfl,q fo Hc kvs ⟨dt.sm,dt.nf,dt.e,fun n y z=>dt.g n y ⟨z,?_⟩,fun n y z=>dt.no n y fun z'=>z z'.1,dt.i,dt.fr⟩⟩
   rw [rp.l]
   exact z.2.1
end
end K74

namespace K74
open PySem L2
def nQ (ps:List (List Int))(f:Int->Int->Int->Int)(s:List Int):Bool:=lC ps s && (years (fl s 4) (fl (jl ps s) 3)).all fun y=>decide (fl s 3<=f (fl s 0) y (fl s 1))
inductive SpLHoldsI (vs:List V)(H:Hp)(Q:VK):Prop
 | mk:∀ ap xp ps fo H0 f b kvs t s,(vs=[.ref ap,.ref fo,.ref t])->(RowsAt H ap xp ps)->((∀ r∈ps,okP r))->(Dts fo H0 H (dom ps) f b kvs)->(H t=some (.tup (s.map V.int)))->(s.length=5)->(∀ H',Same H H'->Q (.bl (nQ ps f s)) H')->SpLHoldsI  vs H Q
def tW:Sp:=fun vs H Q _=>SpLHoldsI  vs H Q
theorem Cp {ns:List Int}{M k:Int}(h1:M∈ns)(h2:∀ a∈ns,M<=a):decide (k<=M)=ns.all fun a=>decide (k<=a):=by
 rw [Bool.eq_iff_iff,decide_eq_true_eq,List.all_eq_true]
 exact ⟨fun h a ha=>decide_eq_true (Int.le_trans h (h2 a ha)),fun h=>of_decide_eq_true (h M h1)⟩
theorem Hh {σ:St}{H:Hp}{ta tb:TE}{i j:Int}(a:Ev σ H ta (.int i))(b:Ev σ H tb (.int j)):Ev σ H (tOp rEq ta tb) (.bl (decide (i=j))):=fun Q q=>a _ (b _ ⟨rfl,by
 have ed:decide (V.int i=V.int j)=decide (i=j):=decide_eq_decide.mpr ⟨fun z=>by injection z,fun z=>by rw [z]⟩
 rw [ed]
 exact q⟩)
section
variable {P:Program}{w:World}{K:PySem.W.Frag}{mg:Str->Option Value}{base:Heap}
theorem sc35s:FnScope ["_law_promises_here","_law_rows","_law_sale","_law_number","_law_seller","_law_buyer","_law_sacks","_law_year","_law_first","_law_last"] ["_law_promises_here","_law_rows","_law_sale"] (aJ (top 75)):=⟨rfl,rfl,rfl,by decide +kernel,rfl,by decide +kernel,by decide +kernel⟩
theorem J2:(["_law_one","_law_rows","_law_number","_law_seller"]:List Str).Nodup:=by decide +kernel
theorem yc {f:Addr}{fd:FuncData}(F:Fun K "_law_holds" "_law_holds" (top 75) f fd)(T:Mg mg)(Tr:mg "range" = none)(Tm:mg "min" = none):FnOk P w K mg base CX0 1 f fd ["_law_promises_here","_law_rows","_law_sale"] tW:=by
 refine F.ok sc35s (fun vs H Q E h=>?_) (fun cdv A outer s H vs Q E hr h=>?_)
 ·obtain ⟨ap,xp,ps,fo,H0,g,b,kvs,t,r,rfl,_⟩:=h
  rfl
 ·obtain ⟨ap,xp,ps,fo,H0,g,b,kvs,t,r,rfl,rp,okp,dt,et,h5,q⟩:=h
  refine ⟨_,aB (cB (pv 2) (bU rfl (aq (au (i:=3) sc35s.nd rfl (Or.inr rfl)) (aq (au (i:=4) sc35s.nd rfl (Or.inr rfl)) (aq (au (i:=5) sc35s.nd rfl (Or.inl rfl)) (aq (au (i:=6) sc35s.nd rfl (Or.inl rfl)) (aq (au (i:=7) sc35s.nd rfl (Or.inl rfl)) aY)))))))
   (aB (cu (PW.pt (oV (bY (eZ bO mq aA (pv 3) (aO bj rfl T.len PySem.boot_len (az (pv 0) aj)))) (oV (bY (eZ bO bO aA (pv 4) aA)) (oV (bY (eZ bO bO aA (pv 5) aA)) (ql (bJ mj (pv 4) (pv 5) (bI _))))))) (aH (aU gD)) bh)
   (aB (yt (i:=8) (j:=9) rfl sc35s.nd rfl rfl (by decide) rfl rfl (az (aZ bG (aZ bG (pv 0) (pv 3) (fun _ _=>rfl)) aA (fun _ _=>rfl)) (az (aZ bG (aZ bG (pv 0) (pv 3) (fun _ _=>rfl)) aA (fun _ _=>rfl)) aj)) rfl)
   (aB (cu (PW.pt (oV (bY (eZ bO bO aA (pv 6) aA)) (ql (bY (eZ bO bO (pv 8) (pv 7) (pv 9)))))) (aH (aU gD)) bh)
   (aH (aU (ik vz (aO (oM rfl) rfl Tm boot_min (az (bZ ["_law_one","_law_rows","_law_number","_law_seller"] [none,some 1,some 3,some 4] rfl (ig rfl Tr (az (pv 7) (az (aV bM (pv 9) aA) aj)))
    (fun C fp pins s₂ H₂=>⟨au (i:=0) J2 rfl (Or.inl rfl),bT,sO (kE hr) (qL (kE hr) (pv 1) (bH (az (pv 2) (az (pv 0) aj))) (fun _ _=>rfl)) (pv 3) aA (by constructor <;> rfl)⟩)
    (fun C=>⟨⟨rfl,.inl rfl,rfl,.inl rfl⟩,⟨rfl,.inl rfl,rfl,.inl rfl⟩,⟨rfl,.inl rfl,rfl,.inl rfl⟩,trivial⟩) ⟨rfl,rfl,rfl,rfl⟩) aj)) (pv 6) (bI _))))))),?_⟩
  have fin:=q
  unfold nQ lC at fin
  rw [gU h5] at et
  refine aG ?_
  refine ⟨_,rfl,t,_,rfl,SqT.of et,rfl,_,_,rfl,_,_,rfl,_,_,rfl,_,_,rfl,_,_,rfl,rfl,?_⟩
  dsimp only
  refine aG ?_
  refine bV (p:=fun i j=>decide (i<=j)) (q:=fun i j=>decide (i < j)) (i:=0) (j:=fl r 0) (k:=(xp.length:Int)) eF (dw rfl) (fun Q h=>⟨_,rfl,ap,xp,rfl,.inr (SqT.of rp.e),h⟩) _ ⟨_,rfl,?_⟩
  rw [rp.l]
  cases e1:(decide (0<=fl r 0) && decide (fl r 0 < ps.length)) with
  | false =>
   rw [e1] at fin
   exact cj (cj (fin H (Same.refl H)))
  | true =>
  rw [e1] at fin
  refine bD ?_
  refine bV (p:=fun i j=>decide (i<=j)) (q:=fun i j=>decide (i<=j)) (i:=0) (j:=fl r 1) (k:=7) eF (dw rfl) eF _ ⟨_,rfl,?_⟩
  dsimp only
  rw [show decide (fl r 1<=7)=decide (fl r 1 < 8) from decide_eq_decide.mpr (by lia)]
  cases e2:(decide (0<=fl r 1) && decide (fl r 1 < 8)) with
  | false =>
   rw [e2] at fin
   exact cj (cj (fin H (Same.refl H)))
  | true =>
  rw [e2] at fin
  refine bD ?_
  refine bV (p:=fun i j=>decide (i<=j)) (q:=fun i j=>decide (i<=j)) (i:=0) (j:=fl r 2) (k:=7) eF (dw rfl) eF _ ⟨_,rfl,?_⟩
  dsimp only
  rw [show decide (fl r 2<=7)=decide (fl r 2 < 8) from decide_eq_decide.mpr (by lia)]
  cases e3:(decide (0<=fl r 2) && decide (fl r 2 < 8)) with
  | false =>
   rw [e3] at fin
   exact cj (cj (fin H (Same.refl H)))
  | true =>
  rw [e3] at fin
  refine bD ?_
  refine Hh (i:=fl r 1) (j:=fl r 2) (dw rfl) (dw rfl) _ ⟨_,rfl,?_⟩
  cases e4:decide (fl r 1=fl r 2) with
  | true =>
   rw [e4] at fin
   exact cj (fin H (Same.refl H))
  | false =>
  rw [e4] at fin
  refine bD ?_
  refine cz ?_
  dsimp only
  refine aG ?_
  rw [zAc,decide_eq_true_eq,decide_eq_true_eq] at e1 e2
  obtain ⟨p,hp,ep,op⟩:=gk okp e1.1 e1.2
  have epr:jl ps r=p:=ep
  rw [epr] at fin
  obtain ⟨tp,hat,etp⟩:=gm rp e1.1 hp
  rw [eG op.1] at etp
  obtain ⟨_,_,_,⟨g1,g2,g3⟩,_⟩:=id op
  refine ⟨_,rfl,_,rfl,ap,xp,_,.ref tp,rfl,rfl,SqT.of rp.e,hat,tp,_,2,.int (fl p 2),rfl,rfl,SqT.of etp,rfl,?_⟩
  refine ⟨_,rfl,_,rfl,ap,xp,_,.ref tp,rfl,rfl,SqT.of rp.e,hat,tp,_,3,.int (fl p 3),rfl,rfl,SqT.of etp,rfl,?_⟩
  refine ⟨_,_,rfl,?_⟩
  dsimp only
  refine aG ?_
  refine bV (p:=fun i j=>decide (i<=j)) (q:=fun i j=>decide (i<=j)) (i:=1) (j:=fl r 3) (k:=99) eF (dw rfl) eF _ ⟨_,rfl,?_⟩
  dsimp only
  cases e5:(decide (1<=fl r 3) && decide (fl r 3<=99)) with
  | false =>
   rw [e5] at fin
   exact cj (cj (fin H (Same.refl H)))
  | true =>
  rw [e5] at fin
  refine bD ?_
  refine bV (p:=fun i j=>decide (i<=j)) (q:=fun i j=>decide (i<=j)) (i:=fl p 2) (j:=fl r 4) (k:=fl p 3) (dw rfl) (dw rfl) (dw rfl) _ ⟨_,rfl,?_⟩
  dsimp only
  cases e6:(decide (fl p 2<=fl r 4) && decide (fl r 4<=fl p 3)) with
  | false =>
   rw [e6] at fin
   exact cj (fin H (Same.refl H))
  | true =>
  rw [e6] at fin
  rw [zAc,decide_eq_true_eq,decide_eq_true_eq] at e6
  refine bD ?_
  refine cz ?_
  dsimp only
  refine ⟨_,rfl,_,rfl,_,_,rfl,rfl,fl r 4,fl p 3+1,rfl,⟨by lia,by lia,by lia,by lia⟩,?_⟩
  refine sX (fun ys Hc=>Same H Hc/\ys=((years (fl r 4) (fl p 3)).take ys.length).map fun y=>V.int (g (fl r 0) y (fl r 1))) ⟨Same.refl _,rfl⟩ (by rw [sizeLine_eq];lia) ?_ ?_
  ·rintro i ys Hc Qc hi hy ⟨sc,ey⟩ qc
   refine ⟨_,rfl,_,rfl,_,rfl,(by show 2<=sizeLine;decide),fun k hk=>?_⟩
   have sk:=sc.updR (o:=.tup [V.int (fl r 0),V.int (fl r 4+i)]) hk
   have dk:=dt.same sk
   obtain ⟨d,kv,q1,q2,q3,q4⟩:=dk.g (fl r 0) (fl r 4+i) ⟨e1.1,e1.2,by rw [ep];lia,by rw [ep];lia⟩
   refine ⟨fo,.ref d,rfl,by rw [<- q1];exact DGet.t dk.e ao,?_⟩
   refine ⟨d,rfl,.inl ⟨kv,.inl q2⟩,_,rfl,_,DGet.k (k:=.inl (fl r 1)) q2,?_⟩
   rw [q4 _ e2.1 e2.2]
   refine qc _ _ ⟨sk,?_⟩
   have hx:(years (fl r 4) (fl p 3))[ys.length]?=some (fl r 4+(i:Int)):=by
    rw [hy]
    exact jR hi
   exact pK ey hx
  ·rintro ys Hc hy ⟨sc,ey⟩ D hD
   rw [List.take_of_length_le (by rw [jQ,hy];exact zA3 _)] at ey
   refine ⟨D,(years (fl r 4) (fl p 3)).map fun y=>g (fl r 0) y (fl r 1),rfl,SqL.of (by rw [zAr];rw [ey];exact ao),?_,fun M h1 h2=>⟨_,rfl,_,_,rfl,rfl,?_⟩⟩
   ·intro z
    have:=congrArg List.length z
    rw [zA1,jQ,List.length_nil] at this
    lia
   ·have em:=Cp (k:=fl r 3) h1 h2
    rw [List.all_map] at em
    show Q (.bl (decide (fl r 3<=M))) _
    rw [em]
    exact fin _ (sc.updR hD)
end
end K74

namespace K74
open PySem L2
def dl (s:List Int)(h:Int):Int:=(if h=fl s 2 then fl s 3 else 0) - (if h=fl s 1 then fl s 3 else 0)
def fS (f:Int->Int->Int->Int)(s:List Int)(n y h:Int):Int:=if n=fl s 0/\fl s 4<=y then f n y h+dl s h else f n y h
theorem Cq {H:Hp}{d:Addr}{a b:HO}:upd (upd H d a) d b=upd H d b:=by
 funext c
 by_cases h:c=d
 ·subst h
  rw [ao,ao]
 ·rw [aD h,aD h,aD h]
theorem tX {L:List Int}{i v h:Int}(hl:L.length=8)(i0:0<=i)(i1:i < 8)(h0:0<=h)(h1:h < 8):(iV L i v).getD h.toNat 0=L.getD h.toNat 0+(if h=i then v else 0):=by
 unfold iV
 rw [zA7,List.getElem?_set]
 by_cases hh:h=i
 ·subst hh
  rw [if_pos rfl,if_pos rfl,if_pos (by lia)]
  rfl
 ·rw [if_neg (by lia),if_neg hh,<- zA7]
  lia
theorem yd {L s:List Int}{n y h:Int}(hl:L.length=8)(ok:okS s)(h0:0<=h)(h1:h < 8):(hstep n y L s).getD h.toNat 0=if n=fl s 0/\fl s 4<=y then L.getD h.toNat 0+dl s h else L.getD h.toNat 0:=by
 obtain ⟨_,⟨a1,a2⟩,b1,b2⟩:=ok
 unfold hstep dl
 by_cases hc:fl s 0=n/\fl s 4<=y
 ·rw [if_pos hc,if_pos ⟨hc.1.symm,hc.2⟩,tX (by rw [gR];exact hl) b1 b2 h0 h1,tX hl a1 a2 h0 h1]
  split <;> split <;> lia
 ·rw [if_neg hc,if_neg fun z=>hc ⟨z.1.symm,z.2⟩]
theorem ye {p s:List Int}{ss:List (List Int)}{n y h:Int}(hin:fl p 2<=y/\y<=fl p 3)(ok:okS s)(h0:0<=h)(h1:h < 8) :
  (bL p (ss++[s]) n y).getD h.toNat 0=if n=fl s 0/\fl s 4<=y then (bL p ss n y).getD h.toNat 0+dl s h else (bL p ss n y).getD h.toNat 0:=by
 have hl:=eO p ss n y
 have e:bL p (ss++[s]) n y=hstep n y (bL p ss n y) s:=by
  unfold bL
  rw [if_pos hin,if_pos hin,List.foldl_append]
  rfl
 rw [e,yd hl ok h0 h1]
inductive SpSellI (vs:List V)(H:Hp)(Q:VK):Prop
 | mk:∀ ap xp ps fo H0 f b kvs t s,(vs=[.ref ap,.ref fo,.ref t])->(RowsAt H ap xp ps)->((∀ r∈ps,okP r))->(Dts fo H0 H (dom ps) f (fun _ _=>b) kvs)->(b<=1000)->(H t=some (.tup (s.map V.int)))->(s.length=5)->(nQ ps f s=true)->(∀ H',Dts fo H0 H' (dom ps) (fS f s) (fun _ _=>b+2) kvs->Q .non H')->SpSellI  vs H Q
def Ac:Sp:=fun vs H Q _=>SpSellI  vs H Q
section
variable {P:Program}{w:World}{K:PySem.W.Frag}{mg:Str->Option Value}{base:Heap}
theorem sc36s:FnScope ["_law_promises_here","_law_rows","_law_sale","_law_number","_law_seller","_law_buyer","_law_sacks","_law_year","_law_one","_law_row"] ["_law_promises_here","_law_rows","_law_sale"] (aJ (top 76)):=⟨rfl,rfl,rfl,by decide +kernel,rfl,by decide +kernel,by decide +kernel⟩
theorem Cr {f:Addr}{fd:FuncData}(F:Fun K "_law_sell" "_law_sell" (top 76) f fd)(Tr:mg "range" = none):FnOk P w K mg base CX0 1 f fd ["_law_promises_here","_law_rows","_law_sale"] Ac:=by
 refine F.ok sc36s (fun vs H Q E h=>?_) (fun cdv A outer s H vs Q E hr h=>?_)
 ·obtain ⟨ap,xp,ps,fo,H0,g,b,kvs,t,r,rfl,_⟩:=h
  rfl
 ·obtain ⟨ap,xp,ps,fo,H0,g,b,kvs,t,r,rfl,rp,okp,dt,hb,et,h5,hh,q⟩:=h
  refine ⟨_,aB (cB (pv 2) (bU rfl (aq (au (i:=3) sc36s.nd rfl (Or.inl rfl)) (aq (au (i:=4) sc36s.nd rfl (Or.inl rfl)) (aq (au (i:=5) sc36s.nd rfl (Or.inl rfl)) (aq (au (i:=6) sc36s.nd rfl (Or.inl rfl)) (aq (au (i:=7) sc36s.nd rfl (Or.inl rfl)) aY)))))))
   (aH (cW PassesOwn.never rfl (ig rfl Tr (az (pv 7) (az (aV bM (aZ bG (aZ bG (pv 0) (pv 3) (fun _ _=>rfl)) aA (fun _ _=>rfl)) aA) aj))) (au (i:=8) sc36s.nd rfl (Or.inl rfl))
    (aB (bf (i:=9) sc36s.nd rfl (Or.inl rfl) (qL (kE hr) (pv 1) (bH (az (pv 3) (az (pv 8) aj))) (fun _ _=>rfl)))
    (aB (qM (kE hr) (pv 9) (pv 4) (aV dW (qL (kE hr) (pv 9) (pv 4) (fun _ _=>rfl)) (pv 6)) rfl)
    (aH (qM (kE hr) (pv 9) (pv 5) (aV bM (sO (kE hr) (pv 9) (pv 5) aA (by constructor <;> rfl)) (pv 6)) rfl)))))),?_⟩
  rw [gU h5] at et
  unfold nQ lC at hh
  simp only [Bool.and_eq_true,decide_eq_true_eq,Bool.not_eq_true',decide_eq_false_iff_not] at hh
  obtain ⟨⟨⟨n0,n1⟩,⟨a1,a2⟩,⟨b1,b2⟩,nab,⟨k1,k2⟩,y0,y1⟩,hy⟩:=hh
  obtain ⟨p,hp,ep,op⟩:=gk okp n0 n1
  have epr:jl ps r=p:=ep
  rw [epr] at y0 y1 hy
  obtain ⟨tp,hat,etp⟩:=gm rp n0 hp
  rw [eG op.1] at etp
  obtain ⟨_,_,_,⟨g1,g2,g3⟩,_⟩:=id op
  refine aG ?_
  refine ⟨_,rfl,t,_,rfl,SqT.of et,rfl,_,_,rfl,_,_,rfl,_,_,rfl,_,_,rfl,_,_,rfl,rfl,?_⟩
  dsimp only
  refine ⟨_,rfl,_,rfl,_,rfl,ap,xp,_,.ref tp,rfl,rfl,SqT.of rp.e,hat,tp,_,3,.int (fl p 3),rfl,rfl,SqT.of etp,rfl,_,_,rfl,rfl,fl r 4,fl p 3+1,rfl,⟨by lia,by lia,by lia,by lia⟩,?_⟩
  refine cV (lo:=fl r 4) (n:=(fl p 3+1 - fl r 4).toNat) (fun j σ Hj=>∃ x8 x9,σ=[some (.ref ap),some (.ref fo),some (.ref t),some (.int (fl r 0)),some (.int (fl r 1)),some (.int (fl r 2)),some (.int (fl r 3)),some (.int (fl r 4)),x8,x9] /\
   Dts fo H0 Hj (dom ps) (fun n y h=>if n=fl r 0/\fl r 4<=y/\y < fl r 4+j then g n y h+dl r h else g n y h) (fun n y=>if n=fl r 0/\fl r 4<=y/\y < fl r 4+j then b+2 else b) kvs) ?_ ?_ ?_
  ·refine ⟨none,none,rfl,dt.cast fun n y hd=>?_⟩
   rw [if_neg (by lia)]
   exact ⟨zA3 _,fun h _ _=>by rw [if_neg (by lia)]⟩
  ·rintro j σ Hj hj ⟨x8,x9,rfl,dj⟩
   refine aM ?_
   refine aG ?_
   refine aX ?_
   refine ⟨_,rfl,_,rfl,_,rfl,(by show 2<=sizeLine;decide),fun k hk=>?_⟩
   have dk:=dj.new (o:=.tup [V.int (fl r 0),V.int (fl r 4+j)]) hk
   have ek:upd Hj k (.tup [V.int (fl r 0),V.int (fl r 4+j)]) k=some (.tup ((ky (fl r 0) (fl r 4+j)).map kV)):=ao
   generalize upd Hj k (.tup [V.int (fl r 0),V.int (fl r 4+j)])=H1 at dk ek ⊢
   have hdom:dom ps (fl r 0) (fl r 4+j):=⟨n0,n1,by rw [ep];lia,by rw [ep];lia⟩
   obtain ⟨d,kv,q1,q2,⟨q3,qk⟩,q4⟩:=dk.g _ _ hdom
   rw [if_neg (by lia)] at q3
   refine ⟨fo,.ref d,rfl,by rw [<- q1];exact DGet.t dk.e ek,?_⟩
   refine aM ?_
   dsimp only
   have fsel:=q4 (fl r 1) a1 a2
   rw [if_neg (by lia)] at fsel
   have hge:fl r 3<=g (fl r 0) (fl r 4+j) (fl r 1):=by
    have:=List.all_eq_true.mp hy (fl r 4+j) (List.mem_of_getElem? (jR hj))
    exact of_decide_eq_true this
   have vsel:cX kv (.inl (fl r 1))=some (.int (g (fl r 0) (fl r 4+j) (fl r 1))):=by
    cases ev:cX kv (.inl (fl r 1)) with
    | none =>
     rw [ev] at fsel
     injection fsel with fsel
     lia
    | some v =>
     rw [ev] at fsel
     exact congrArg some fsel
   have fbuy:=q4 (fl r 2) b1 b2
   rw [if_neg (by lia)] at fbuy
   refine aG ?_
   refine ⟨_,rfl,_,rfl,d,_,rfl,by rw [<- vsel];exact DGet.k (k:=.inl (fl r 1)) q2,_,rfl,_,_,rfl,rfl,_,rfl,_,rfl,d,_,rfl,DPut.k (k:=.inl (fl r 1)) q2 (by rw [sizeLine_eq];lia),?_⟩
   dsimp only
   have lp1:=cF kv (.inl (fl r 1)) (V.int (g (fl r 0) (fl r 4+j) (fl r 1) - fl r 3))
   have vb:(cX (putK kv (.inl (fl r 1)) (V.int (g (fl r 0) (fl r 4+j) (fl r 1) - fl r 3))) (.inl (fl r 2))).getD (.int 0)=.int (g (fl r 0) (fl r 4+j) (fl r 2)):=by
    rw [dN,if_neg (fun z=>nab (by injection z with z;exact z.symm))]
    exact fbuy
   refine ⟨_,rfl,d,rfl,.inl ⟨_,.inl ao⟩,_,rfl,_,DGet.k (k:=.inl (fl r 2)) ao,_,rfl,_,_,vb,rfl,_,rfl,_,rfl,d,_,rfl,DPut.k (k:=.inl (fl r 2)) ao (by rw [sizeLine_eq];lia),?_⟩
   have lp2:=cF (putK kv (.inl (fl r 1)) (V.int (g (fl r 0) (fl r 4+j) (fl r 1) - fl r 3))) (.inl (fl r 2)) (V.int (g (fl r 0) (fl r 4+j) (fl r 2)+fl r 3))
   refine ⟨_,_,rfl,?_⟩
   rw [Cq]
   refine dk.wr q1 ⟨⟨?_,(qk.put a1 a2 _).put b1 b2 _⟩,fun h h0 h8=>?_⟩ fun n y hd hne=>⟨?_,fun h h0 h8=>?_⟩
   ·rw [if_pos ⟨rfl,by lia,by lia⟩]
    exact Nat.le_trans (cF _ _ _) (Nat.succ_le_succ (Nat.le_trans (cF _ _ _) (Nat.succ_le_succ q3)))
   ·rw [if_pos ⟨rfl,by lia,by lia⟩,dN]
    unfold dl
    by_cases hb2:h=fl r 2
    ·rw [if_pos (by rw [hb2]),if_pos hb2,if_neg (fun z=>nab (z.symm.trans hb2))]
     show V.int _=V.int _
     rw [hb2]
     congr 1
     lia
    ·rw [if_neg (fun z=>hb2 (by injection z)),if_neg hb2,dN]
     by_cases hs2:h=fl r 1
     ·rw [if_pos (by rw [hs2]),if_pos hs2]
      show V.int _=V.int _
      rw [hs2]
      congr 1
      lia
     ·rw [if_neg (fun z=>hs2 (by injection z)),if_neg hs2]
      have:=q4 h h0 h8
      rw [if_neg (by lia)] at this
      rw [this]
      congr 1
      lia
   ·split <;> split <;> lia
   ·by_cases hc:n=fl r 0/\fl r 4<=y/\y < fl r 4+j
    ·rw [if_pos hc,if_pos ⟨hc.1,hc.2.1,by lia⟩]
    ·rw [if_neg hc,if_neg fun z=>hc ⟨z.1,z.2.1,by
      have:y≠fl r 4+j:=fun w=>hne ⟨z.1,w⟩
      lia⟩]
  ·rintro σ Hj ⟨x8,x9,rfl,dj⟩
   refine q Hj (dj.cast fun n y hd=>⟨by split <;> lia,fun h h0 h8=>?_⟩)
   unfold fS
   by_cases hc:n=fl r 0/\fl r 4<=y
   ·have:y<=fl p 3:=by
     have:=hd.2.2.2
     rw [hc.1,ep] at this
     exact this
    rw [if_pos hc,if_pos ⟨hc.1,hc.2,by lia⟩]
   ·rw [if_neg hc,if_neg fun z=>hc ⟨z.1,z.2.1⟩]
inductive SpSoldRI (vs:List V)(H:Hp)(Q:VK):Prop
 | mk:∀ ap xp ps as_ xs ss,(vs=[.ref ap,.ref as_])->(RowsAt H ap xp ps)->(ps.length<=10)->((∀ r∈ps,okP r))->(RowsAt H as_ xs ss)->(ss.length<=100)->((∀ s∈ss,s.length=5))->(∀ t fo H',Same H H'->H' t=some (.tup [.ref fo,unV (un ps ss)])->(un ps ss=none->∃ b kvs,Dts fo H H' (dom ps) (fun n y h=>(bL (ps.getD n.toNat []) ss n y).getD h.toNat 0) b kvs)->Q (.ref t) H')->SpSoldRI  vs H Q
def wI:Sp:=fun vs H Q _=>SpSoldRI  vs H Q
inductive SpSoldI (vs:List V)(H:Hp)(Q:VK):Prop
 | mk:∀ ap xp ps as_ xs ss,(vs=[.ref ap,.ref as_])->(RowsAt H ap xp ps)->(ps.length<=10)->((∀ r∈ps,okP r))->(RowsAt H as_ xs ss)->(ss.length<=100)->((∀ s∈ss,s.length=5))->(∀ t fo H',Same H H'->H' t=some (.tup [.ref fo,unV (un ps ss)])->Q (.ref t) H')->SpSoldI  vs H Q
def Ad:Sp:=fun vs H Q _=>SpSoldI  vs H Q
theorem Ae {ps:List (List Int)}{n y h:Int}(ok:okP (ps.getD n.toNat []))(hin:fl (ps.getD n.toNat []) 2<=y/\y<=fl (ps.getD n.toNat []) 3)(h0:0<=h)(h8:h < 8):(bL (ps.getD n.toNat []) [] n y).getD h.toNat 0=f0 ps n y h:=by
 unfold bL f0
 rw [if_pos hin]
 generalize ps.getD n.toNat []=p at ok
 obtain ⟨_,⟨a1,a2⟩,_⟩:=ok
 show (base0 p).getD h.toNat 0=_
 unfold base0
 rw [zA7,List.getElem?_set]
 by_cases hh:h=fl p 0
 ·rw [if_pos (by rw [hh]),if_pos (by rw [List.length_replicate];lia),if_pos hh]
  rfl
 ·rw [if_neg (by lia),if_neg hh,List.getElem?_replicate,if_pos (by lia)]
  rfl
theorem sc37s:FnScope ["_law_promises_here","_law_sales_here","_law_rows","_law_at","_law_sale"] ["_law_promises_here","_law_sales_here"] (aJ (top 77)):=⟨rfl,rfl,rfl,by decide +kernel,rfl,by decide +kernel,by decide +kernel⟩
theorem tY {f:Addr}{fd:FuncData}(F:Fun K "_law_sold" "_law_sold" (top 77) f fd)(Te:mg "enumerate" = none)(c1:Cal P w K mg base 1 "_law_begun" ["_law_promises_here"] wH)(c2:Cal P w K mg base 1 "_law_holds" ["_law_promises_here","_law_rows","_law_sale"] tW)(c3:Cal P w K mg base 1 "_law_sell" ["_law_promises_here","_law_rows","_law_sale"] Ac) :
  FnOk P w K mg base CX0 2 f fd ["_law_promises_here","_law_sales_here"] wI:=by
 refine F.ok sc37s (fun vs H Q E h=>?_) (fun cdv A outer s H vs Q E hr h=>?_)
 ·obtain ⟨ap,xp,ps,as_,xs,ss,rfl,_⟩:=h
  rfl
 ·obtain ⟨ap,xp,ps,as_,xs,ss,rfl,rp,lp,okp,rs,ls,oks,q⟩:=h
  refine ⟨_,aB (bf (i:=2) sc37s.nd rfl (Or.inl rfl) (aK c1 hr (zA3 _) rfl (az (pv 0) aj)))
   (aB (cW PassesOwn.never rfl (pi_enum rfl Te (az (pv 1) aj)) (bU rfl (aq (au (i:=3) sc37s.nd rfl (Or.inl rfl)) (aq (au (i:=4) sc37s.nd rfl (Or.inl rfl)) aY)))
    (aB (cu (bY (cN (aK c2 hr (zA3 _) rfl (az (pv 0) (az (pv 2) (az (pv 4) aj)))))) (aH (aU (bH (az (pv 2) (az (pv 3) aj))))) bh)
    (aH (bA (aK c3 hr (zA3 _) rfl (az (pv 0) (az (pv 2) (az (pv 4) aj))))))))
   (aH (aU (bH (az (pv 2) (az qg aj)))))),?_⟩
  refine aG ?_
  refine aX ?_
  refine ⟨_,rfl,ap,xp,ps,rfl,rp,lp,okp,fun fo H1 kvs d1=>?_⟩
  refine aM ?_
  dsimp only
  refine aG ?_
  refine ⟨_,rfl,as_,xs,rfl,SqT.of (d1.sm _ _ rs.e),?_⟩
  have okd:∀ n y,dom ps n y->okP (ps.getD n.toNat []):=fun n y hd=>by
   obtain ⟨p,_,e2,e3⟩:=gk okp hd.1 hd.2.1
   rw [e2]
   exact e3
  refine jj (xs:=xs) (fun i σ Hc=>∃ x3 x4,σ=[some (.ref ap),some (.ref as_),some (.ref fo),x3,x4]/\Dts fo H Hc (dom ps) (fun n y h=>(bL (ps.getD n.toNat []) (ss.take i) n y).getD h.toNat 0) (fun _ _=>1+2 * i) kvs/\∀ j,j < i->cG ps (ss.take j) (ss.getD j [])=true) ?_ ?_ ?_ ?_
  ·exact ⟨none,none,rfl,d1.cast fun n y hd=>⟨zA3 _,fun h h0 h8=>Ae (okd n y hd) hd.2.2 h0 h8⟩,fun j hj=>absurd hj (Nat.not_lt_zero _)⟩
  ·rintro i σ Hc hi ⟨x3,x4,rfl,dt,hh⟩
   exact SqT.of (dt.sm _ _ rs.e)
  ·rintro i x σ Hc T0 hx ⟨x3,x4,rfl,dt,hh⟩ nT
   have hi:i < ss.length:=by
    have:=(zAa.mp hx).1
    rw [rs.l] at this
    exact this
   obtain ⟨tr,ex2,etr⟩:=rs.g i ss[i] (zA0 hi)
   have:x=.ref tr:=by
    rw [hx] at ex2
    exact zAl ex2
   subst this
   have h5:=oks ss[i] (zAh hi)
   have dT:=dt.new (o:=.tup [V.int i,V.ref tr]) nT
   have eT:upd Hc T0 (.tup [V.int i,V.ref tr]) T0=some (.tup [V.int i,V.ref tr]):=ao
   generalize upd Hc T0 (.tup [V.int i,V.ref tr])=H2 at dT eT ⊢
   refine ⟨T0,_,rfl,SqT.of eT,rfl,_,_,rfl,_,_,rfl,rfl,?_⟩
   refine aG ?_
   refine ⟨_,rfl,_,rfl,_,rfl,ap,xp,ps,fo,H,_,_,kvs,tr,ss[i],rfl,rp.same dT.sm,okp,dT,dT.sm _ _ etr,h5,fun H3 s3=>⟨_,rfl,?_⟩⟩
   have d3:=dT.same s3
   have ehb:nQ ps (fun n y h=>(bL (ps.getD n.toNat []) (ss.take i) n y).getD h.toNat 0) ss[i]=cG ps (ss.take i) ss[i]:=rfl
   cases eh:cG ps (ss.take i) ss[i] with
   | false =>
    rw [ehb,eh]
    refine cj ⟨_,rfl,_,rfl,(by show 2<=sizeLine;decide),fun t ht=>q t fo _ (d3.sm.updR ht) ?_ fun z=>?_⟩
    ·rw [qR hh hi (by rw [getD_get hi];exact eh)]
     exact ao
    ·rw [qR hh hi (by rw [getD_get hi];exact eh)] at z
     cases z
   | true =>
    rw [ehb,eh]
    refine bD ?_
    refine cz ?_
    refine ⟨_,rfl,_,rfl,_,rfl,ap,xp,ps,fo,H,_,1+2 * i,kvs,tr,ss[i],rfl,rp.same d3.sm,okp,d3,by lia,d3.sm _ _ etr,h5,ehb.trans eh,fun H4 d4=>?_⟩
    have etk:ss.take (i+1)=ss.take i++[ss[i]]:=by rw [zAj,zA0 hi];rfl
    refine ⟨_,_,rfl,d4.cast fun n y hd=>⟨by lia,fun h h0 h8=>?_⟩,fun j hj=>?_⟩
    ·rw [etk,ye hd.2.2 (jm h5 eh) h0 h8]
     rfl
    ·rcases Nat.lt_succ_iff_lt_or_eq.mp hj with z | z
     ·exact hh j z
     ·rw [z,getD_get hi]
      exact eh
  ·rintro σ Hc ⟨x3,x4,rfl,dt,hh⟩
   refine ⟨_,rfl,(by show 2<=sizeLine;decide),fun t ht=>q t fo _ (dt.sm.updR ht) ?_ fun _=>?_⟩
   ·rw [lJ fun j hj=>hh j (by rw [rs.l];exact hj)]
    exact ao
   ·rw [show xs.length=ss.length from rs.l,zAm] at dt
    exact ⟨_,kvs,dt.new ht⟩
theorem Cu {f:Addr}{fd:FuncData}(F:FnOk P w K mg base CX0 2 f fd ["_law_promises_here","_law_sales_here"] wI):FnOk P w K mg base CX0 2 f fd ["_law_promises_here","_law_sales_here"] Ad:=by
 refine F.imp fun vs H Q E h=>?_
 obtain ⟨ap,xp,ps,as_,xs,ss,rfl,rp,lp,okp,rs,ls,oks,q⟩:=h
 exact ⟨ap,xp,ps,as_,xs,ss,rfl,rp,lp,okp,rs,ls,oks,fun t fo H' s e _=>q t fo H' s e⟩
end
end K74

namespace K74
open PySem L2
def Hk (st:Addr)(H:Hp)(n:Int)(v:V)(H':Hp):Prop:=∃ ps:List (List Int),But st H H'/\dD H' st/\IsTh (fun _=>False) H' v (bx ps)/\(ps.length:Int)<=n/\∀ r∈ps,okP r
section
variable {P:Program}{w:World}{K:PySem.W.Frag}{mg:Str->Option Value}{base:Heap}
inductive SpProms2I (vs:List V)(H:Hp)(Q:VK):Prop
 | mk:∀ st n y,(vs=[.ref st,.int n,.int y])->(dD H st)->(1<=n)->(n<=10)->(0<=y)->(y<=1000)->(∀ v H',Hk st H n v H'->Q v H')->SpProms2I  vs H Q
def tZ:Sp:=fun vs H Q _=>SpProms2I  vs H Q
theorem rE {f:Addr}{fd:FuncData}(F:Fun K "_law_promises" "_law_promises" (top 73) f fd)(T:Mg mg)(Tr:mg "range" = none)(Tm:mg "min" = none)(c1:Cal P w K mg base 1 "_law_take" ["_law_state_here","_law_many"] jN):FnOk P w K mg base CX0 2 f fd ["_law_state_here","_law_most","_law_years"] tZ:=by
 refine F.ok sc22 (fun vs H Q E h=>?_) (fun cdv A outer s H vs Q E hr h=>?_)
 ·obtain ⟨st,n,y,rfl,_⟩:=h
  rfl
 ·obtain ⟨st,n,y,rfl,hst,n1,n2,y1,y2,q⟩:=h
  refine ⟨_,aB (yt (i:=3) (j:=4) rfl sc22.nd rfl rfl (by decide) rfl rfl (az (cC aj) (az (aZ bF (cC (gj (by repeat constructor))) (aK c1 hr (by decide) rfl (az (pv 0) (az aA aj))) (fun _ _=>rfl)) aj)) rfl)
   (aB (cW PassesOwn.never rfl (cT rfl Tr (az (aK c1 hr (by decide) rfl (az (pv 0) (az (aV bM (pv 1) aA) aj))) aj)) (au (i:=5) sc22.nd rfl (Or.inl rfl))
    (aB (bf (i:=6) sc22.nd rfl (Or.inl rfl) (aK c1 hr (by decide) rfl (az (pv 0) (az (aO (il rfl) rfl Tm boot_min (az aA (az (aV bM (pv 2) aA) aj))) aj))))
    (aB (bf (i:=7) sc22.nd rfl (Or.inl rfl) (aO (il rfl) rfl Tm boot_min (az aA (az (aV bM (pv 6) (aK c1 hr (by decide) rfl (az (pv 0) (az (aZ bF (cC (gj (by repeat constructor))) (aK c1 hr (by decide) rfl (az (pv 0) (az aA aj))) (fun _ _=>rfl)) aj)))) aj))))
    (aB (bf (i:=8) sc22.nd rfl (Or.inl rfl) (aZ bF (vN (qN aA (qN aA (qN (aK c1 hr (by decide) rfl (az (pv 0) (az aA aj))) (qN (aV uo aA aA) dX))))) (aK c1 hr (by decide) rfl (az (pv 0) (az aA aj))) (fun _ _=>rfl)))
    (aB (bf (i:=9) sc22.nd rfl (Or.inl rfl) (aZ bF (vN (qN aA (qN aA (qN aA (qN (aK c1 hr (by decide) rfl (az (pv 0) (az aA aj))) dX))))) (aK c1 hr (by decide) rfl (az (pv 0) (az aA aj))) (fun _ _=>rfl)))
    (aH (bA (j8 PySem.F.plainAttrs_list PySem.F.slot_list_append PySem.F.type_list_append di (pv 3) (az (Dm (uI (je ⟨pv 9⟩ (je ⟨aK c1 hr (by decide) rfl (az (pv 0) (az aA aj))⟩ (je ⟨pv 6⟩ (je ⟨pv 7⟩ (je ⟨aV bM aA (aK c1 hr (by decide) rfl (az (pv 0) (az (pv 4) aj)))⟩ (je ⟨pv 8⟩ dX)))))))) aj)))))))))
   (aH (aU (dh cM rfl T.tuple boot_tuple (az (pv 3) aj))))),?_⟩
  obtain ⟨a,b,es,h1,h2,h3⟩:=id hst
  refine aG ?_
  refine ⟨(by show 0<=sizeLine;decide),fun p3 hp3=>?_⟩
  have np3:p3≠st:=fun z=>by
   rw [z,es] at hp3
   cases hp3
  have g0:Mk3 st p3 [] [] H (upd H p3 (.lst [])):=⟨fun b' o' e' _=>Same.upd hp3 _ _ e',⟨a,b,Same.upd hp3 _ _ es,h1,h2,h3⟩,ao,.nil⟩
  refine ⟨(by show 3<=sizeLine;decide),fun p hp=>?_⟩
  have g1:=g0.new (o:=.lst (([3,12,99]:List Int).map V.int)) hp
  have np:p≠st:=fun z=>by
   obtain ⟨x,y,e7,_⟩:=g0.sa
   rw [z,e7] at hp
   cases hp
  refine ⟨_,rfl,st,3,rfl,g1.sa,by decide,by decide,fun r a1 b1 r0 r1 k1 k2 k3=>?_⟩
  obtain ⟨wd,hw,w1,w2⟩:∃ wd:Int,atI (([3,12,99]:List Int).map V.int) r=some (.int wd)/\1<=wd/\wd<=99:=by
   have:r=0\/r=1\/r=2:=by lia
   rcases this with rfl | rfl | rfl
   ·exact ⟨3,rfl,by decide,by decide⟩
   ·exact ⟨12,rfl,by decide,by decide⟩
   ·exact ⟨99,rfl,by decide,by decide⟩
  refine ⟨p,_,r,.int wd,rfl,rfl,SqL.of (by rw [aD np];exact ao),hw,_,_,rfl,?_⟩
  have g2:=g1.take np3 k1 k2 k3
  dsimp only
  refine aG ?_
  refine ⟨_,rfl,_,rfl,_,_,rfl,rfl,st,n+1,rfl,g2.sa,by lia,by lia,fun r2 a2 b2 x0 x1 z1 z2 z3=>⟨r2,rfl,by lia,by lia,?_⟩⟩
  have g3:=g2.take np3 z1 z2 z3
  refine cV (lo:=0) (n:=r2.toNat) (fun i σ H'=>∃ xs ds x5 x6 x7 x8 x9,σ=[some (.ref st),some (.int n),some (.int y),some (.ref p3),some (.int wd),x5,x6,x7,x8,x9]/\Mk3 st p3 xs ds H H'/\(∃ rs:List (List Int),ds=rs.map bw/\rs.length=i/\∀ r∈rs,okP r)/\xs.length=i) ?_ ?_ ?_
  ·exact ⟨[],[],none,none,none,none,none,rfl,g3,⟨[],rfl,rfl,fun _ h=>nomatch h⟩,rfl⟩
  ·rintro i σ H' hi ⟨xs,ds,x5,x6,x7,x8,x9,rfl,g,⟨rs,ers,lrs,okr⟩,hl⟩
   have nst:∀ {Hc:Hp} {c:Addr},Mk3 st p3 xs ds H Hc->Hc c=none->c≠st:=fun {Hc c} gc hc z=>by
    obtain ⟨x,y,e7,_⟩:=gc.sa
    rw [z,e7] at hc
    cases hc
   refine aM ?_
   refine aG ?_
   refine aX ?_
   refine ⟨_,rfl,_,rfl,_,_,rfl,rfl,_,_,rfl,st,_,rfl,g.sa,by split <;> lia,by split <;> lia,fun f1 a3 b3 o0 o1 o2 o3 o4=>?_⟩
   have g4:=g.take np3 o2 o3 o4
   have f2:f1 < 20:=by split at o1 <;> lia
   refine aM ?_
   dsimp only
   refine aG ?_
   refine aX ?_
   refine ⟨_,rfl,_,rfl,(by show 3<=sizeLine;decide),fun p5 hp5=>?_⟩
   have n5:=nst g4 hp5
   have g5:=g4.new (o:=.lst (([1,4,20]:List Int).map V.int)) hp5
   refine ⟨_,rfl,st,3,rfl,g5.sa,by decide,by decide,fun r4 a4 b4 q0 q1 q2 q3 q4=>?_⟩
   obtain ⟨w5,hw5,w6,w7⟩:∃ w5:Int,atI (([1,4,20]:List Int).map V.int) r4=some (.int w5)/\1<=w5/\w5<=20:=by
    have:r4=0\/r4=1\/r4=2:=by lia
    rcases this with rfl | rfl | rfl
    ·exact ⟨1,rfl,by decide,by decide⟩
    ·exact ⟨4,rfl,by decide,by decide⟩
    ·exact ⟨20,rfl,by decide,by decide⟩
   have g6:=g5.take np3 q2 q3 q4
   refine ⟨p5,_,r4,.int w5,rfl,rfl,SqL.of (by rw [aD n5];exact ao),hw5,st,w5,rfl,g6.sa,w6,by lia,fun r5 a5 b5 s0 s1 s2 s3 s4=>⟨_,_,rfl,rfl,_,_,rfl,?_⟩⟩
   have g7:=g6.take np3 s2 s3 s4
   refine aM ?_
   dsimp only
   refine aG ?_
   refine aX ?_
   refine ⟨_,rfl,st,1000,rfl,g7.sa,by decide,by decide,fun r6 a6 b6 t0 t1 t2 t3 t4=>⟨_,_,rfl,rfl,⟨by decide,by decide,by decide⟩,(by show 4<=sizeLine;decide),fun p6 hp6=>?_⟩⟩
   have g8:=g7.take np3 t2 t3 t4
   have n6:=nst g8 hp6
   have g9:=g8.new (o:=.lst [V.int 0,V.int 1,V.int r6,V.int (10 ^ (6:Int).toNat)]) hp6
   refine ⟨_,rfl,st,4,rfl,g9.sa,by decide,by decide,fun r7 a7 b7 u0 u1 u2 u3 u4=>?_⟩
   obtain ⟨pr,hpr,pr1,pr2⟩:∃ pr:Int,atI [V.int 0,V.int 1,V.int r6,V.int (10 ^ (6:Int).toNat)] r7=some (.int pr)/\0<=pr/\pr<=1000000:=by
    have:r7=0\/r7=1\/r7=2\/r7=3:=by lia
    rcases this with rfl | rfl | rfl | rfl
    ·exact ⟨0,rfl,by decide,by decide⟩
    ·exact ⟨1,rfl,by decide,by decide⟩
    ·exact ⟨r6,rfl,t0,by lia⟩
    ·exact ⟨_,rfl,by decide,by decide⟩
   have ga:=g9.take np3 u2 u3 u4
   refine ⟨p6,_,r7,.int pr,rfl,rfl,SqL.of (by rw [aD n6];exact ao),hpr,?_⟩
   refine aM ?_
   dsimp only
   refine aG ?_
   refine aX ?_
   refine ⟨_,rfl,st,8,rfl,ga.sa,by decide,by decide,fun r8 a8 b8 v0 v1 v2 v3 v4=>⟨(by show 4<=sizeLine;decide),fun p7 hp7=>?_⟩⟩
   have gb:=ga.take np3 v2 v3 v4
   have n7:=nst gb hp7
   have gc:=gb.new (o:=.lst [V.int 0,V.int 1,V.int 2,V.int r8]) hp7
   refine ⟨_,rfl,st,4,rfl,gc.sa,by decide,by decide,fun r9 a9 b9 y0 y3 y4 y5 y6=>?_⟩
   obtain ⟨ho,hho,ho1,ho2⟩:∃ ho:Int,atI [V.int 0,V.int 1,V.int 2,V.int r8] r9=some (.int ho)/\0<=ho/\ho < 8:=by
    have:r9=0\/r9=1\/r9=2\/r9=3:=by lia
    rcases this with rfl | rfl | rfl | rfl
    ·exact ⟨0,rfl,by decide,by decide⟩
    ·exact ⟨1,rfl,by decide,by decide⟩
    ·exact ⟨2,rfl,by decide,by decide⟩
    ·exact ⟨r8,rfl,v0,v1⟩
   have gd:=gc.take np3 y4 y5 y6
   refine ⟨p7,_,r9,.int ho,rfl,rfl,SqL.of (by rw [aD n7];exact ao),hho,?_⟩
   refine aM ?_
   dsimp only
   refine ⟨_,rfl,.inl ⟨rfl,_,SqL.of gd.e3⟩,?_⟩
   refine ⟨_,rfl,_,rfl,st,3,rfl,gd.sa,by decide,by decide,fun ra aa ba c0 c1 c2 c3 c4=>?_⟩
   have ge:=gd.take np3 c2 c3 c4
   refine ⟨_,rfl,_,rfl,_,rfl,_,rfl,st,wd,rfl,ge.sa,w1,by lia,fun rb ab bb d0 d1 d2 d3 d4=>⟨_,_,rfl,rfl,_,rfl,(by show 6<=sizeLine;decide),fun l hl'=>?_⟩⟩
   have gf:=ge.take np3 d2 d3 d4
   have gg:=gf.new (o:=.tup [V.int ho,V.int ra,V.int f1,V.int (if f1+r5 < 19 then f1+r5 else 19),V.int (1+rb),V.int pr]) hl'
   have nl3:l≠p3:=fun z=>by
    rw [z,gf.e3] at hl'
    cases hl'
   refine ⟨p3,xs,.ref l,rfl,rfl,gg.e3,by rw [hl,sizeLine_eq];lia,?_⟩
   refine ⟨xs++[.ref l],ds++[.tuple [.int ho,.int ra,.int f1,.int (if f1+r5 < 19 then f1+r5 else 19),.int (1+rb),.int pr]],_,_,_,_,_,rfl,⟨fun b' o' e' ne=>?_,?_,ao,?_⟩,?_,by rw [zA2,hl];rfl⟩
   ·have:b'≠p3:=aF e' hp3
    rw [aD this]
    exact gg.bt b' o' e' ne
   ·obtain ⟨x,y',e7,k⟩:=gg.sa
    exact ⟨x,y',by rw [aD np3.symm];exact e7,k⟩
   ·refine IsThs.append (gg.ts.keep (fun c l' e'=>?_) (fun _ _ z _=>z.elim) fun _ _ z _=>z.elim) (.cons (.tup (by rw [aD nl3];exact ao) (.cons (.int _) (.cons (.int _) (.cons (.int _) (.cons (.int _) (.cons (.int _) (.cons (.int _) .nil))))))) .nil)
    have:c≠p3:=fun z=>by
     rw [z,gg.e3] at e'
     cases e'
    rw [aD this]
    exact e'
   ·refine ⟨rs++[[ho,ra,f1,(if f1+r5 < 19 then f1+r5 else 19),1+rb,pr]],by rw [ers,zA4];rfl,by rw [zA2,lrs];rfl,fun r hr=>?_⟩
    rcases zA6.mp hr with z | z
    ·exact okr r z
    ·rw [List.mem_singleton.mp z]
     have lb:f1<=(if f1+r5 < 19 then f1+r5 else 19)/\(if f1+r5 < 19 then f1+r5 else 19)<=19:=by split <;> lia
     exact ⟨rfl,⟨ho1,ho2⟩,⟨c0,c1⟩,⟨o0,lb.1,lb.2⟩,⟨(by show 1<=1+rb;lia),(by show 1+rb<=99;lia)⟩,pr1,pr2⟩
  ·rintro σ H' ⟨xs,ds,x5,x6,x7,x8,x9,rfl,g,⟨rs,ers,lrs,okr⟩,hl⟩
   refine ⟨_,rfl,p3,xs,rfl,.inl ⟨SqL.of g.e3,fun l hl'=>?_⟩⟩
   have g':=g.new (o:=.tup xs) hl'
   rw [ers] at g'
   exact q _ _ ⟨rs,g'.bt,g'.sa,.tup ao (g'.ts.keep (fun _ _ e=>e) (fun _ _ z _=>z.elim) fun _ _ z _=>z.elim),by lia,okr⟩
end
end K74

namespace K74
open PySem L2
theorem jy {X:Cx}:OpR X (binaryOp .Add) (fun x y H Q=>∃ a b xs ys,x=.ref a/\y=.ref b/\H a=some (.tup xs)/\H b=some (.tup ys)/\ys≠[]/\xs.length+ys.length<=sizeLine/\∀ c H',Same H H'->H' c=some (.tup (xs++ys))->Q (.ref c) H'):=by
 intro pins s σ H x y v u Q I rx ry h
 obtain ⟨a,b,xs,ys,rfl,rfl,ha,hb,hy,hz,q⟩:=h
 refine zm pins s σ H _ _ v u Q I rx ry ⟨a,b,xs,ys,rfl,rfl,SqT.of ha,SqT.of hb,hy,hz,fun e=>q b H (Same.refl H) (by rw [e];exact hb),fun _ p hp=>q p _ (Same.upd hp) ao⟩
theorem Dr.rows {st a:Addr}{H H':Hp}{xs:List V}{rs:List (List Int)}(g:Dr st H H')(h0:dD H st)(r:RowsAt H a xs rs):RowsAt H' a xs rs:=by
 obtain ⟨x,y,e,_⟩:=h0
 exact r.keep fun b l e'=>g.bt _ _ e' fun z=>by
  rw [z,e] at e'
  cases e'
theorem Dr.tup {st a:Addr}{H H':Hp}{xs:List V}(g:Dr st H H')(h0:dD H st)(r:H a=some (.tup xs)):H' a=some (.tup xs):=by
 obtain ⟨x,y,e,_⟩:=h0
 exact g.bt _ _ r fun z=>by
  rw [z,e] at r
  cases r
theorem yf:bootBuiltins "max" = some (.builtin "max"):=by decide +kernel
theorem fW {H:Hp}{a b t:Addr}{xs:List V}{rs:List (List Int)}{r:List Int}(h:RowsAt H a xs rs)(et:H t=some (.tup (r.map V.int)))(eb:H b=some (.tup (xs++[V.ref t]))):RowsAt H b (xs++[V.ref t]) (rs++[r]):=by
 refine ⟨eb,by rw [zA2,zA2,h.l];rfl,fun i r' e=>?_⟩
 by_cases hi:i < rs.length
 ·rw [List.getElem?_append_left hi] at e
  rw [List.getElem?_append_left (by rw [h.l];exact hi)]
  exact h.g i r' e
 ·rw [List.getElem?_append_right (by lia)] at e
  rw [List.getElem?_append_right (by rw [h.l];lia),h.l]
  cases hj:i - rs.length with
  | zero =>
   rw [hj] at e
   injection e with e
   subst e
   exact ⟨t,rfl,et⟩
  | succ k =>
   rw [hj] at e
   simp at e
def smR (s:List Int):Prop:=s.length=5/\∀ i∈s,-10<=i/\i<=2000000
inductive SpAnyI (vs:List V)(H:Hp)(Q:VK):Prop
 | mk:∀ st ap xp ps,(vs=[.ref st,.ref ap])->(dD H st)->(RowsAt H ap xp ps)->(ps.length<=10)->((∀ r∈ps,okP r))->(∀ t s H',Dr st H H'->H' t=some (.tup (s.map V.int))->smR s->Q (.ref t) H')->SpAnyI  vs H Q
def Du:Sp:=fun vs H Q _=>SpAnyI  vs H Q
section
variable {P:Program}{w:World}{K:PySem.W.Frag}{mg:Str->Option Value}{base:Heap}
theorem sc38s:FnScope ["_law_state_here","_law_promises_here","_law_number","_law_holder","_law_sort","_law_first","_law_last","_law_sacks","_law_price","_law_seller","_law_buyer","_law_year"] ["_law_state_here","_law_promises_here"] (aJ (top 78)):=⟨rfl,rfl,rfl,by decide +kernel,rfl,by decide +kernel,by decide +kernel⟩
theorem Fi {f:Addr}{fd:FuncData}(F:Fun K "_law_any_sale" "_law_any_sale" (top 78) f fd)(T:Mg mg)(Tm:mg "max" = none)(c1:Cal P w K mg base 1 "_law_take" ["_law_state_here","_law_many"] jN):FnOk P w K mg base CX0 2 f fd ["_law_state_here","_law_promises_here"] Du:=by
 refine F.ok sc38s (fun vs H Q E h=>?_) (fun cdv A outer s H vs Q E hr h=>?_)
 ·obtain ⟨st,ap,xp,ps,rfl,_⟩:=h
  rfl
 ·obtain ⟨st,ap,xp,ps,rfl,hst,rp,lp,okp,q⟩:=h
  refine ⟨_,aB (bf (i:=2) sc38s.nd rfl (Or.inl rfl) (aK c1 hr (zA3 _) rfl (az (pv 0) (az (aO (oX rfl) rfl Tm yf (az aA (az (aO bj rfl T.len PySem.boot_len (az (pv 1) aj)) aj))) aj))))
   (aB (cB (aZ bG (aV jy (pv 1) (bH (az (bH (gj (by repeat constructor))) aj))) (pv 2) (fun _ _=>rfl)) (bU rfl (aq (au (i:=3) sc38s.nd rfl (Or.inl rfl)) (aq (au (i:=4) sc38s.nd rfl (Or.inl rfl)) (aq (au (i:=5) sc38s.nd rfl (Or.inl rfl))
    (aq (au (i:=6) sc38s.nd rfl (Or.inl rfl)) (aq (au (i:=7) sc38s.nd rfl (Or.inl rfl)) (aq (au (i:=8) sc38s.nd rfl (Or.inl rfl)) aY))))))))
   (aB (bf (i:=9) sc38s.nd rfl (Or.inl rfl) (aZ bF (cC (az (pv 3) (az (pv 3) (az (aK c1 hr (zA3 _) rfl (az (pv 0) (az aA aj))) aj)))) (aK c1 hr (zA3 _) rfl (az (pv 0) (az aA aj))) (fun _ _=>rfl)))
   (aB (bf (i:=10) sc38s.nd rfl (Or.inl rfl) (aV fZ (aV bM (aV bM (pv 9) aA) (aK c1 hr (zA3 _) rfl (az (pv 0) (az aA aj)))) aA))
   (aB (bf (i:=11) sc38s.nd rfl (Or.inl rfl) (aV bM (pv 5) (aK c1 hr (zA3 _) rfl (az (pv 0) (az (aV bM (aV dW (pv 6) (pv 5)) aA) aj)))))
   (aH (aU (Dm (uI (je ⟨pv 2⟩ (je ⟨pv 9⟩ (je ⟨pv 10⟩ (je ⟨aV bM aA (aK c1 hr (zA3 _) rfl (az (pv 0) (az (pv 7) aj)))⟩ (je ⟨pv 11⟩ dX))))))))))))),?_⟩
  have g0:Dr st H H:=⟨But.refl,hst⟩
  have hxl:xp.length<=10:=by rw [rp.l];exact lp
  refine aG ?_
  refine aX ?_
  refine ⟨_,rfl,_,rfl,ap,xp,rfl,.inr (SqT.of rp.e),_,_,rfl,st,_,rfl,hst,?_,?_,fun r1 a1 b1 r0 rn k1 k2 k3=>?_⟩
  ·split <;> lia
  ·split <;> lia
  have g1:=g0.take k1 k2 k3
  have rp1:=g1.rows hst rp
  have rn2:r1.toNat < xp.length+1:=by split at rn <;> lia
  generalize upd H st (.lst [.int a1,.int b1])=H1 at g1 rp1 ⊢
  refine aM ?_
  dsimp only
  refine aG ?_
  refine ⟨_,rfl,(by show 6<=sizeLine;decide),fun t0 ht0=>⟨(by show 1<=sizeLine;decide),fun t1 ht1=>?_⟩⟩
  have g2:=(g1.new (o:=.tup (([0,0,0,3,9,0]:List Int).map V.int)) ht0).new (o:=.tup [V.ref t0]) ht1
  have m2:Same H1 (upd (upd H1 t0 (.tup (([0,0,0,3,9,0]:List Int).map V.int))) t1 (.tup [V.ref t0])):=(Same.upd ht0).updR ht1
  have et0:=Same.upd (o:=.tup [V.ref t0]) ht1 t0 (.tup (([0,0,0,3,9,0]:List Int).map V.int)) ao
  have et1:upd (upd H1 t0 (.tup (([0,0,0,3,9,0]:List Int).map V.int))) t1 (.tup [V.ref t0]) t1=some (.tup [V.ref t0]):=ao
  generalize upd (upd H1 t0 (.tup (([0,0,0,3,9,0]:List Int).map V.int))) t1 (.tup [V.ref t0])=H2 at g2 m2 et0 et1 ⊢
  refine ⟨ap,t1,xp,_,rfl,rfl,m2 _ _ rp1.e,et1,by simp,by rw [sizeLine_eq];show xp.length+1<=_;lia,fun c H3 s3 ec=>?_⟩
  have g3:=g2.same s3
  have rp3:=fW ((rp1.same m2).same s3) (s3 _ _ et0) ec
  have hok3:∀ r∈ps++[[0,0,0,3,9,0]],okP r:=fun r hr=>by
   rcases zA6.mp hr with z | z
   ·exact okp r z
   ·rw [List.mem_singleton.mp z]
    exact ⟨rfl,by decide,by decide,by decide,by decide,by decide⟩
  obtain ⟨p,hp,_,op⟩:=gk (n:=r1) hok3 r0 (by rw [zA2,<- rp.l];show r1 < ((xp.length+1:Nat):Int);lia)
  obtain ⟨tp,hat,etp⟩:=gm rp3 r0 hp
  rw [eG op.1] at etp
  obtain ⟨_,⟨p1,p2⟩,_,⟨p3,p4,p5⟩,⟨p6,p7⟩,_⟩:=id op
  refine ⟨_,rfl,c,_,r1,.ref tp,rfl,rfl,SqT.of ec,hat,?_⟩
  refine ⟨tp,_,rfl,SqT.of etp,rfl,_,_,rfl,_,_,rfl,_,_,rfl,_,_,rfl,_,_,rfl,_,_,rfl,rfl,?_⟩
  dsimp only
  refine aG ?_
  refine aX ?_
  refine ⟨_,rfl,_,rfl,_,rfl,st,8,rfl,g3.sa,by decide,by decide,fun r2 a2 b2 i0 i1 k4 k5 k6=>⟨(by show 3<=sizeLine;decide),fun l1 hl1=>?_⟩⟩
  have g4:=(g3.take k4 k5 k6).new (o:=.lst [V.int (fl p 0),V.int (fl p 0),V.int r2]) hl1
  have n4:=(g3.take k4 k5 k6).ne hl1
  refine ⟨_,rfl,st,3,rfl,g4.sa,by decide,by decide,fun r3 a3 b3 i2 i3 k7 k8 k9=>?_⟩
  obtain ⟨sl,hsl,sl1,sl2⟩:∃ sl:Int,atI [V.int (fl p 0),V.int (fl p 0),V.int r2] r3=some (.int sl)/\0<=sl/\sl < 8:=by
   have:r3=0\/r3=1\/r3=2:=by lia
   rcases this with rfl | rfl | rfl
   ·exact ⟨_,rfl,p1,p2⟩
   ·exact ⟨_,rfl,p1,p2⟩
   ·exact ⟨_,rfl,i0,i1⟩
  have g5:=g4.take k7 k8 k9
  refine ⟨l1,_,r3,.int sl,rfl,rfl,SqL.of (by rw [aD n4];exact ao),hsl,?_⟩
  refine aM ?_
  dsimp only
  refine aG ?_
  refine aX ?_
  refine ⟨_,rfl,_,_,rfl,rfl,_,rfl,st,7,rfl,g5.sa,by decide,by decide,fun r4 a4 b4 i4 i5 m1 m2' m3=>⟨_,_,rfl,rfl,_,_,rfl,rfl,(by show (0:Int) < 8;decide),?_⟩⟩
  have g6:=g5.take m1 m2' m3
  refine aM ?_
  dsimp only
  refine aG ?_
  refine aX ?_
  refine ⟨_,rfl,_,rfl,_,rfl,_,rfl,_,_,rfl,rfl,_,_,rfl,rfl,st,_,rfl,g6.sa,by lia,by lia,fun r5 a5 b5 i6 i7 m4 m5 m6=>⟨_,_,rfl,rfl,?_⟩⟩
  have g7:=g6.take m4 m5 m6
  refine aM ?_
  dsimp only
  refine ⟨_,rfl,_,rfl,_,rfl,_,rfl,_,rfl,st,_,rfl,g7.sa,p6,by lia,fun r6 a6 b6 i8 i9 m7 m8 m9=>⟨_,_,rfl,rfl,_,rfl,(by show 5<=sizeLine;decide),fun t ht=>?_⟩⟩
  have g8:=g7.take m7 m8 m9
  refine q t [r1,sl,(sl+1+r4) % 8,1+r6,fl p 2+r5] _ (g8.new ht) ao ⟨rfl,fun i hi=>?_⟩
  simp only [List.mem_cons,List.not_mem_nil,or_false] at hi
  have e8:0<=(sl+1+r4) % 8/\(sl+1+r4) % 8 < 8:=⟨Int.emod_nonneg _ (by decide),Int.emod_lt_of_pos _ (by decide)⟩
  lia
end
end K74

namespace K74
open PySem L2
section
variable {P:Program}{w:World}{K:PySem.W.Frag}{mg:Str->Option Value}{base:Heap}
theorem sc39s:FnScope ["_law_state_here","_law_promises_here","_law_most","_law_found","_law_turn","_law_more"] ["_law_state_here","_law_promises_here","_law_most"] (aJ (top 79)):=⟨rfl,rfl,rfl,by decide +kernel,rfl,by decide +kernel,by decide +kernel⟩
theorem sc40s:FnScope ["_law_state_here","_law_years","_law_most","_law_sales_here","_law_clips_here","_law_promises_here"] ["_law_state_here","_law_years","_law_most","_law_sales_here"] (aJ (top 80)):=⟨rfl,rfl,rfl,by decide +kernel,rfl,by decide +kernel,by decide +kernel⟩
end
end K74

namespace K74
open PySem L2
def okC (r:List Int):Prop:=r.length=3/\∀ x∈r,0<=x/\x < 1000
def Hl (st:Addr)(H:Hp)(n:Int)(v:V)(H':Hp):Prop:=∃ cs:List (List Int),But st H H'/\dD H' st/\IsTh (fun _=>False) H' v (bx cs)/\1<=cs.length/\(cs.length:Int)<=n/\∀ r∈cs,okC r
inductive SpClipsRI (vs:List V)(H:Hp)(Q:VK):Prop
 | mk:∀ st n,(vs=[.ref st,.int n])->(dD H st)->(1<=n)->(n<=20)->(∀ v H',Hl st H n v H'->Q v H')->SpClipsRI  vs H Q
def u6:Sp:=fun vs H Q _=>SpClipsRI  vs H Q
inductive SpSalesUI (vs:List V)(H:Hp)(Q:VK):Prop
 | mk:∀ st ap xp ps n,(vs=[.ref st,.ref ap,.int n])->(dD H st)->(RowsAt H ap xp ps)->(ps.length<=10)->((∀ r∈ps,okP r))->(0<=n)->(n<=12)->(∀ a xs ss H',Dr st H H'->RowsAt H' a xs ss->(ss.length:Int)<=n->(∀ s∈ss,smR s)->un ps ss=none->Q (.ref a) H')->SpSalesUI  vs H Q
def uc:Sp:=fun vs H Q _=>SpSalesUI  vs H Q
inductive SpBookRI (vs:List V)(H:Hp)(Q:VK):Prop
 | mk:∀ (st:Addr) (y m k:Int),(vs=[.ref st,.int y,.int m,.int k])->(dD H st)->(1<=y)->(y<=20)->(1<=m)->(m<=10)->(0<=k)->(k<=12)->(∀ a ac xc cs ap xp ps as_ xs ss H',Dr st H H'->H' a=some (.tup [.ref ac,.ref ap,.ref as_])->RowsAt H' ac xc cs->1<=cs.length->(cs.length:Int)<=y->(∀ r∈cs,okC r)->RowsAt H' ap xp ps->(ps.length:Int)<=m->(∀ r∈ps,okP r)->RowsAt H' as_ xs ss->(ss.length:Int)<=k->(∀ s∈ss,smR s)->un ps ss=none->Q (.ref a) H')->SpBookRI  vs H Q
def wJ:Sp:=fun vs H Q _=>SpBookRI  vs H Q
section
variable {P:Program}{w:World}{K:PySem.W.Frag}{mg:Str->Option Value}{base:Heap}
theorem yg {f:Addr}{fd:FuncData}(F:Fun K "_law_clips" "_law_clips" (top 72) f fd)(T:Mg mg)(Tr:mg "range" = none)(c1:Cal P w K mg base 1 "_law_take" ["_law_state_here","_law_many"] jN):FnOk P w K mg base CX0 2 f fd ["_law_state_here","_law_most"] u6:=by
 refine F.ok sc21 (fun vs H Q E h=>?_) (fun cdv A outer s H vs Q E hr h=>?_)
 ·obtain ⟨st,n,rfl,_⟩:=h
  rfl
 ·obtain ⟨st,n,rfl,hst,n1,n2,q⟩:=h
  refine ⟨_,aB (bf (i:=2) sc21.nd rfl (Or.inr rfl) (aZ bF (cC (gj (by repeat constructor))) (aK c1 hr (by decide) rfl (az (pv 0) (az aA aj))) (fun _ _=>rfl)))
   (aB (bf (i:=3) sc21.nd rfl (Or.inl rfl) (cC aj))
   (aB (cW PassesOwn.never rfl (cT rfl Tr (az (aV bM aA (aK c1 hr (by decide) rfl (az (pv 0) (az (pv 1) aj)))) aj)) (au (i:=4) sc21.nd rfl (Or.inl rfl))
    (aH (bA (j8 PySem.F.plainAttrs_list PySem.F.slot_list_append PySem.F.type_list_append di (pv 3) (az (dh cM rfl T.tuple boot_tuple (az
     (bZ ["_law_sort","_law_state_here","_law_wide"] [none,some 0,some 2] rfl (cT rfl Tr (az aA aj))
      (fun C fp pins s₂ H₂=>⟨au (i:=0) Iv rfl (Or.inl rfl),bT,aK c1 hr (by decide) rfl (az (pv 1) (az (aZ (sV (K:=K) rfl) (cC (az (pv 2) (az aA (az (pv 2) (az aA aj))))) (aK c1 hr (by decide) rfl (az (pv 1) (az aA aj))) (fun _ _=>rfl)) aj))⟩)
      (fun C=>⟨⟨rfl,.inl rfl,rfl,.inl rfl⟩,⟨rfl,.inl rfl,rfl,.inl rfl⟩,trivial⟩) ⟨rfl,rfl,rfl,rfl⟩) aj)) aj)))))
   (aH (aU (dh cM rfl T.tuple boot_tuple (az (pv 3) aj)))))),?_⟩
  obtain ⟨a,b,es,h1,h2,h3⟩:=id hst
  refine aG ?_
  refine aX ?_
  refine ⟨(by show 4<=sizeLine;decide),fun p hp=>?_⟩
  have np:p≠st:=fun z=>by
   rw [z,es] at hp
   cases hp
  have es1:∀ o,upd H p o st=some (.lst [.int a,.int b]):=fun o=>by rw [aD np.symm];exact es
  refine ⟨_,rfl,st,4,rfl,⟨a,b,es1 _,h1,h2,h3⟩,by decide,by decide,fun r a1 b1 r0 r1 g1 g2 g3=>?_⟩
  obtain ⟨wd,hw,w1,w2⟩:∃ wd:Int,atI (([4,14,45,1000]:List Int).map V.int) r=some (.int wd)/\1<=wd/\wd<=1000:=by
   have:r=0\/r=1\/r=2\/r=3:=by lia
   rcases this with rfl | rfl | rfl | rfl
   ·exact ⟨4,rfl,by decide,by decide⟩
   ·exact ⟨14,rfl,by decide,by decide⟩
   ·exact ⟨45,rfl,by decide,by decide⟩
   ·exact ⟨1000,rfl,by decide,by decide⟩
  refine ⟨p,_,r,.int wd,rfl,rfl,SqL.of (by rw [aD np];exact ao),hw,?_⟩
  refine aM ?_
  dsimp only
  refine aG ?_
  refine aX ?_
  refine ⟨(by show 0<=sizeLine;decide),fun p3 hp3=>?_⟩
  refine aM ?_
  dsimp only
  refine aG ?_
  have np3:p3≠st:=fun z=>by
   rw [z,ao] at hp3
   cases hp3
  refine ⟨_,rfl,_,rfl,st,n,rfl,⟨a1,b1,by rw [aD np3.symm];exact ao,g1,g2,g3⟩,n1,by lia,fun r2 a2 b2 x0 x1 y1 y2 y3=>⟨_,_,rfl,rfl,1+r2,rfl,by lia,by lia,?_⟩⟩
  have keep0:∀ b' o',H b'=some o'->b'≠st->b'≠p/\b'≠p3:=fun b' o' e' ne=>by
   have z:b'≠p:=aF e' hp
   refine ⟨z,fun z2=>?_⟩
   rw [<- z2,aD ne,aD z,e'] at hp3
   cases hp3
  refine cV (lo:=0) (n:=(1+r2).toNat) (fun i σ H'=>∃ xs,∃ ds:List (List Int),∃ x4,σ=[some (.ref st),some (.int n),some (.int wd),some (.ref p3),x4]/\But st H H'/\dD H' st/\H' p3=some (.lst xs)/\IsThs (fun _=>False) H' xs (ds.map bw)/\(∀ r∈ds,okC r)/\ds.length=i/\xs.length=i) ?_ ?_ ?_
  ·refine ⟨[],[],none,rfl,fun b' o' e' ne=>?_,⟨a2,b2,ao,y1,y2,y3⟩,?_,.nil,(fun r hr=>by cases hr),rfl,rfl⟩
   ·obtain ⟨k1,k2⟩:=keep0 b' o' e' ne
    rw [aD ne,aD k2,aD ne,aD k1]
    exact e'
   ·rw [aD np3]
    exact ao
  ·rintro i σ H' hi ⟨xs,ds,x4,rfl,bt,sa,e3,ts,tm,hs,hl⟩
   refine aM ?_
   refine ⟨_,rfl,.inl ⟨rfl,_,SqL.of e3⟩,3,rfl,by decide,by decide,?_⟩
   refine ⟨fun j m ys σc H2=>m=3 - j/\j<=3/\∃ is x0,ys=is.map V.int/\is.length=j/\(∀ v∈is,0<=v/\v < 1000)/\σc=[x0,some (.ref st),some (.int wd)]/\But st H' H2/\dD H2 st,⟨3,rfl,by decide,[],none,rfl,rfl,(fun _ h=>nomatch h),rfl,fun _ _ e _=>e,sa⟩,?_⟩
   rintro j m ys σc H2 ⟨rfl,hj,is,x0,rfl,hil,hv,rfl,bt2,sa2⟩
   refine ⟨by rw [zA1,hil,sizeLine_eq];lia,?_⟩
   by_cases hlt:j < 3
   ·refine .inr ⟨hlt,fun x H3 y=>?_⟩
    obtain ⟨e5,e6⟩:=y
    subst e5
    subst e6
    refine aM ?_
    obtain ⟨a5,b5,e7,k1,k2,k3⟩:=sa2
    refine ⟨_,rfl,_,rfl,_,rfl,(by show 4<=sizeLine;decide),fun p4 hp4=>?_⟩
    have np4:p4≠st:=fun z=>by
     rw [z,e7] at hp4
     cases hp4
    refine ⟨_,rfl,st,4,rfl,⟨a5,b5,by rw [aD np4.symm];exact e7,k1,k2,k3⟩,by decide,by decide,fun r3 a6 b6 z0 z1 l1 l2 l3=>?_⟩
    obtain ⟨wn,hwn,u1,u2⟩:∃ wn:Int,atI [V.int wd,V.int 1,V.int wd,V.int 3] r3=some (.int wn)/\1<=wn/\wn<=1000:=by
     have:r3=0\/r3=1\/r3=2\/r3=3:=by lia
     rcases this with rfl | rfl | rfl | rfl
     ·exact ⟨wd,rfl,w1,w2⟩
     ·exact ⟨1,rfl,by decide,by decide⟩
     ·exact ⟨wd,rfl,w1,w2⟩
     ·exact ⟨3,rfl,by decide,by decide⟩
    refine ⟨p4,_,r3,.int wn,rfl,rfl,SqL.of (by rw [aD np4];exact ao),hwn,st,wn,rfl,⟨a6,b6,ao,l1,l2,l3⟩,u1,by lia,fun r4 a7 b7 v0 v1 m1 m2 m3=>?_⟩
    refine ⟨3 - (j+1),by lia,rfl,hlt,is++[r4],_,by rw [zA4];rfl,by rw [zA2,hil];rfl,fun v hv'=>?_,rfl,fun b' o' e' ne=>?_,⟨a7,b7,ao,m1,m2,m3⟩⟩
    ·rcases zA6.mp hv' with z | z
     ·exact hv v z
     ·rw [List.mem_singleton.mp z]
      lia
    ·have e8:=bt2 b' o' e' ne
     rw [aD ne,aD ne,aD (aF e8 hp4)]
     exact e8
   ·have e5:j=3:=by lia
    subst e5
    have e9:=bt2 _ _ e3 np3
    refine .inl ⟨zA3 _,fun D hD=>⟨D,_,rfl,.inl ⟨SqL.of ao,fun l hl4=>?_⟩⟩⟩
    have sm:Same H2 (upd (upd H2 D (.lst (is.map V.int))) l (.tup (is.map V.int))):=(Same.upd hD).updR hl4
    refine ⟨p3,xs,.ref l,rfl,rfl,sm _ _ e9,by rw [hl,sizeLine_eq];lia,?_⟩
    have nl3:l≠p3:=fun z=>by
     rw [z,Same.upd hD _ _ e9] at hl4
     cases hl4
    have tk:∀ c l',(upd (upd H2 D (.lst (is.map V.int))) l (.tup (is.map V.int))) c=some (.tup l')->(upd (upd (upd H2 D (.lst (is.map V.int))) l (.tup (is.map V.int))) p3 (.lst (xs++[.ref l]))) c=some (.tup l'):=fun c l' e'=>by
     have:c≠p3:=fun z=>by
      rw [z,sm _ _ e9] at e'
      cases e'
     rw [aD this]
     exact e'
    refine ⟨xs++[.ref l],ds++[is],_,rfl,fun b' o' e' ne=>?_,?_,ao,?_,?_,?_,by rw [zA2,hl];rfl⟩
    ·have k4:=(keep0 b' o' e' ne).2
     rw [aD k4]
     exact sm _ _ (bt2 _ _ (bt b' o' e' ne) ne)
    ·obtain ⟨a5,b5,e7,k1,k2,k3⟩:=sa2
     exact ⟨a5,b5,by rw [aD np3.symm];exact sm _ _ e7,k1,k2,k3⟩
    ·rw [zA4]
     refine IsThs.append ?_ (.cons (.tup (by rw [aD nl3];exact ao) (IsThs.ints is)) .nil)
     have ts2:IsThs (fun _=>False) H2 xs (ds.map bw):=ts.keep (fun c l' e'=>bt2 c _ e' (fun z=>by
      obtain ⟨a5,b5,e7,_⟩:=sa
      rw [z,e7] at e'
      cases e')) (fun _ _ z _=>z.elim) fun _ _ z _=>z.elim
     exact (ts2.same sm).keep tk (fun _ _ z _=>z.elim) fun _ _ z _=>z.elim
    ·intro r hr
     rcases zA6.mp hr with z | z
     ·exact tm r z
     ·rw [List.mem_singleton.mp z]
      exact ⟨hil,hv⟩
    ·rw [zA2,hs]
     rfl
  ·rintro σ H' ⟨xs,ds,x4,rfl,bt,sa,e3,ts,tm,hs,hl⟩
   refine ⟨_,rfl,p3,xs,rfl,.inl ⟨SqL.of e3,fun l hl'=>q _ _ ⟨ds,fun b' o' e' ne=>?_,?_,.tup ao ?_,by lia,by lia,tm⟩⟩⟩
   ·rw [aD (aF (bt b' o' e' ne) hl')]
    exact bt b' o' e' ne
   ·obtain ⟨a',b',e',j1,j2,j3⟩:=sa
    exact ⟨a',b',by rw [aD (aF e' hl')];exact e',j1,j2,j3⟩
   ·exact (ts.same (Same.upd hl')).keep (fun _ _ e=>e) (fun _ _ z _=>z.elim) fun _ _ z _=>z.elim
end
theorem Af {u:Option Nat}(h:decide (unV u=.non)=true):u=none:=by
 have:=of_decide_eq_true h
 cases u with
 | none=>rfl
 | some n=>cases this
section
variable {P:Program}{w:World}{K:PySem.W.Frag}{mg:Str->Option Value}{base:Heap}
theorem yh {f:Addr}{fd:FuncData}(F:Fun K "_law_sales" "_law_sales" (top 79) f fd)(T:Mg mg)(Tr:mg "range" = none)(c1:Cal P w K mg base 1 "_law_take" ["_law_state_here","_law_many"] jN)(c2:Cal P w K mg base 2 "_law_any_sale" ["_law_state_here","_law_promises_here"] Du)(c3:Cal P w K mg base 2 "_law_sold" ["_law_promises_here","_law_sales_here"] Ad) :
  FnOk P w K mg base CX0 3 f fd ["_law_state_here","_law_promises_here","_law_most"] uc:=by
 refine F.ok sc39s (fun vs H Q E h=>?_) (fun cdv A outer s H vs Q E hr h=>?_)
 ·obtain ⟨st,ap,xp,ps,n,rfl,_⟩:=h
  rfl
 ·obtain ⟨st,ap,xp,ps,n,rfl,hst,rp,lp,okp,n0,n1,q⟩:=h
  refine ⟨_,aB (bf (i:=3) sc39s.nd rfl (Or.inl rfl) (lG dX))
   (aB (cW PassesOwn.never rfl (cT rfl Tr (az (aV gG (aK c1 hr (by decide) rfl (az (pv 0) (az (aV bM (pv 2) aA) aj))) (dh wY rfl T.int boot_int (az (ik rN (aO bj rfl T.len PySem.boot_len (az (pv 1) aj)) aA (bI _)) aj))) aj)) (au (i:=4) sc39s.nd rfl (Or.inl rfl))
    (aB (bf (i:=5) sc39s.nd rfl (Or.inl rfl) (aV jy (pv 3) (bH (az (aK c2 hr (by decide) rfl (az (pv 0) (az (pv 1) aj))) aj))))
    (aH (cu (bJ yE (aZ bG (aK c3 hr (by decide) rfl (az (pv 1) (az (pv 5) aj))) aA (fun _ _=>rfl)) qg (bI _)) (aH (bf (i:=3) sc39s.nd rfl (Or.inl rfl) (pv 5))) bh))))
   (aH (aU (pv 3)))),?_⟩
  have g0:Dr st H H:=⟨But.refl,hst⟩
  refine aG ?_
  refine aX ?_
  refine ⟨(by show 0<=sizeLine;decide),fun e0 he0=>?_⟩
  have g1:=g0.new (o:=.tup []) he0
  have r1:RowsAt (upd H e0 (.tup [])) e0 [] []:=⟨ao,rfl,fun i r e=>by simp at e⟩
  have rp1:=rp.same (Same.upd (o:=.tup []) he0)
  generalize upd H e0 (.tup [])=H1 at g1 r1 rp1 ⊢
  refine aM ?_
  dsimp only
  refine aG ?_
  refine ⟨_,rfl,_,rfl,_,_,rfl,rfl,st,n+1,rfl,g1.sa,by lia,by lia,fun r a1 b1 k0 kn k1 k2 k3=>?_⟩
  have g2:=g1.take k1 k2 k3
  have rp2:=(Dr.take ⟨But.refl,g1.sa⟩ k1 k2 k3:Dr st H1 _).rows g1.sa rp1
  have r2:=(Dr.take ⟨But.refl,g1.sa⟩ k1 k2 k3:Dr st H1 _).rows g1.sa r1
  generalize upd H1 st (.lst [.int a1,.int b1])=H2 at g2 rp2 r2 ⊢
  refine ⟨_,rfl,ap,xp,rfl,.inr (SqT.of rp2.e),_,_,rfl,rfl,.inr ⟨_,rfl,_,_,rfl,rfl,.inl ⟨by lia,by lia⟩,_,rfl,?_,?_,?_⟩⟩
  ·split <;> lia
  ·split <;> lia
  refine cV (lo:=0) (fun i σ Hc=>∃ a xs ss x4 x5,σ=[some (.ref st),some (.ref ap),some (.int n),some (.ref a),x4,x5]/\Dr st H Hc/\RowsAt Hc ap xp ps/\RowsAt Hc a xs ss/\ss.length<=i/\(∀ s∈ss,smR s)/\un ps ss=none) ?_ ?_ ?_
  ·exact ⟨e0,[],[],none,none,rfl,g2,rp2,r2,zA3 _,(fun _ h=>nomatch h),rfl⟩
  ·rintro i σ Hc hi ⟨a,xs,ss,x4,x5,rfl,g,rpc,rsc,ls,oks,hun⟩
   have hi:i < 12:=by split at hi <;> lia
   refine aM ?_
   refine aG ?_
   refine aX ?_
   refine ⟨_,rfl,_,rfl,_,rfl,st,ap,xp,ps,rfl,g.sa,rpc,lp,okp,fun t s' H3 d3 et sm=>⟨(by show 1<=sizeLine;decide),fun t1 ht1=>?_⟩⟩
   have rpd:=d3.rows g.sa rpc
   have rsd:=d3.rows g.sa rsc
   have m4:=Same.upd (o:=.tup [V.ref t]) ht1
   refine ⟨a,t1,xs,_,rfl,rfl,m4 _ _ rsd.e,ao,by simp,by rw [rsc.l,sizeLine_eq];show _+1<=_;lia,fun c H5 s5 ec=>?_⟩
   have rs5:=fW ((rsd.same m4).same s5) (s5 _ _ (m4 _ _ et)) ec
   have rp5:=(rpd.same m4).same s5
   have g5:=((g.trans d3).same m4).same s5
   have ok5:∀ s∈ss++[s'],smR s:=fun s hs=>by
    rcases zA6.mp hs with z | z
    ·exact oks s z
    ·rw [List.mem_singleton.mp z]
     exact sm
   have l5:(ss++[s']).length<=i+1:=by rw [zA2];show ss.length+1<=_;lia
   refine aM ?_
   dsimp only
   refine ⟨_,rfl,_,rfl,ap,xp,ps,c,_,ss++[s'],rfl,rp5,lp,okp,rs5,by lia,fun s hs=>(ok5 s hs).1,fun tt fo H6 s6 ett=>?_⟩
   refine ⟨tt,_,1,unV (un ps (ss++[s'])),rfl,rfl,SqT.of ett,rfl,rfl,_,rfl,Bq (fun hb=>?_) fun _=>?_⟩
   ·exact ⟨_,rfl,c,_,ss++[s'],_,_,rfl,g5.same s6,rp5.same s6,rs5.same s6,l5,ok5,Af hb⟩
   ·exact ⟨a,xs,ss,_,_,rfl,g5.same s6,rp5.same s6,((rsd.same m4).same s5).same s6,by lia,oks,hun⟩
  ·rintro σ Hc ⟨a,xs,ss,x4,x5,rfl,g,rpc,rsc,ls,oks,hun⟩
   refine ⟨_,rfl,q a xs ss Hc g rsc ?_ oks hun⟩
   split at ls <;> lia
theorem yj {f:Addr}{fd:FuncData}(F:Fun K "_law_book" "_law_book" (top 80) f fd)(T:Mg mg)(c1:Cal P w K mg base 2 "_law_clips" ["_law_state_here","_law_most"] u6)(c2:Cal P w K mg base 2 "_law_promises" ["_law_state_here","_law_most","_law_years"] tZ)(c3:Cal P w K mg base 3 "_law_sales" ["_law_state_here","_law_promises_here","_law_most"] uc) :
  FnOk P w K mg base CX0 4 f fd ["_law_state_here","_law_years","_law_most","_law_sales_here"] wJ:=by
 refine F.ok sc40s (fun vs H Q E h=>?_) (fun cdv A outer s H vs Q E hr h=>?_)
 ·obtain ⟨st,y,m,k,rfl,_⟩:=h
  rfl
 ·obtain ⟨st,y,m,k,rfl,hst,y1,y2,m1,m2,k1,k2,q⟩:=h
  refine ⟨_,aB (bf (i:=4) sc40s.nd rfl (Or.inl rfl) (aK c1 hr (by decide) rfl (az (pv 0) (az (pv 1) aj))))
   (aB (bf (i:=5) sc40s.nd rfl (Or.inl rfl) (aK c2 hr (by decide) rfl (az (pv 0) (az (pv 2) (az (aO bj rfl T.len PySem.boot_len (az (pv 4) aj)) aj)))))
   (aH (aU (bH (az (pv 4) (az (pv 5) (az (aK c3 hr (by decide) rfl (az (pv 0) (az (pv 5) (az (pv 3) aj)))) aj))))))),?_⟩
  refine aG ?_
  refine aX ?_
  refine ⟨_,rfl,_,rfl,st,y,rfl,hst,y1,y2,fun vc H1 mc=>?_⟩
  obtain ⟨cs,btc,sac,thc,lc1,lc2,okc⟩:=mc
  have d1:Dr st H H1:=⟨btc,sac⟩
  obtain ⟨ac,xc,rfl,rc⟩:=lH thc
  refine aM ?_
  dsimp only
  refine aG ?_
  refine aX ?_
  have lc:=rc.l
  refine ⟨_,rfl,_,rfl,_,rfl,ac,xc,rfl,.inr (SqT.of rc.e),st,m,_,rfl,sac,m1,m2,by lia,by lia,fun vp H2 mp=>?_⟩
  obtain ⟨ps,btp,sap,thp,lps,okp⟩:=mp
  have d2:Dr st H1 H2:=⟨btp,sap⟩
  obtain ⟨ap,xp,rfl,rp⟩:=lH thp
  have rc2:=d2.rows sac rc
  refine aM ?_
  dsimp only
  refine ⟨_,rfl,_,rfl,_,rfl,_,rfl,_,rfl,st,ap,xp,ps,k,rfl,sap,rp,by lia,okp,k1,k2,fun as_ xs ss H3 d3 rs ls oks hun=>⟨(by show 3<=sizeLine;decide),fun a ha=>?_⟩⟩
  have d123:=(d1.trans d2).trans d3
  have ma:=Same.upd (o:=.tup [V.ref ac,V.ref ap,V.ref as_]) ha
  exact q a ac xc cs ap xp ps as_ xs ss _ (d123.new ha) ao ((d3.rows sap rc2).same ma) lc1 lc2 okc ((d3.rows sap rp).same ma) (by lia) okp (rs.same ma) (by lia) oks hun
end
end K74

namespace K74
open PySem L2
inductive SpRefBI (vs:List V)(H:Hp)(Q:VK):Prop
 | mk:∀ S v d,(vs=[v])->(IsTh S H v d)->(sz d<=4000)->(pL d=true)->(∀ H',Same H H'->Q .non H')->SpRefBI  vs H Q
def Ag:Sp:=fun vs H Q _=>SpRefBI  vs H Q
inductive SpRefYI (vs:List V)(H:Hp)(Q:VK):Prop
 | mk:∀ ac xc cs y,(vs=[.ref ac,.int y])->(RowsAt H ac xc cs)->(0<=y)->(y < cs.length)->(∀ H',Same H H'->Q .non H')->SpRefYI  vs H Q
def uZ:Sp:=fun vs H Q _=>SpRefYI  vs H Q
section
variable {P:Program}{w:World}{K:PySem.W.Frag}{mg:Str->Option Value}{base:Heap}
theorem Hm:FnScope ["thing","least","most"] ["thing","least","most"] (aJ (top 16)):=⟨rfl,rfl,rfl,by decide +kernel,rfl,by decide +kernel,by decide +kernel⟩
theorem oR {f:Addr}{fd:FuncData}(F:Fun K "is_whole_from" "is_whole_from" (top 16) f fd)(c1:Cal P w K mg base 1 "is_whole" ["thing"] (spT cQ)):FnOk P w K mg base CX0 2 f fd ["thing","least","most"] (lA oJ):=by
 refine F.ok Hm (fun vs H Q E h=>?_) (fun cdv A outer s H vs Q E hr h=>?_)
 ·obtain ⟨S,v,d,n,m,rfl,_⟩:=h
  rfl
 ·obtain ⟨S,v,d,n,m,rfl,th,hz,q⟩:=h
  refine ⟨_,aH (aU (cD (aK c1 hr (zA3 _) rfl (aQ (pv 0) aj)) (dR (cO bO bO (pv 1) (pv 0) (pv 2))))),?_⟩
  refine ⟨_,rfl,S,v,d,rfl,th,hz,fun H1 s1=>⟨_,rfl,?_⟩⟩
  have fin:=q H1 s1
  unfold oJ at fin
  cases e:cQ d with
  | false =>
   rw [e] at fin
   exact bD fin
  | true =>
   rw [e] at fin
   obtain ⟨i,rfl,rfl⟩:=jM th e
   exact cj (bV (dw rfl) (dw rfl) (dw rfl) _ fin)
theorem Hn:FnScope ["thing"] ["thing"] (aJ (top 40)):=⟨rfl,rfl,rfl,by decide +kernel,rfl,by decide +kernel,by decide +kernel⟩
theorem Cv {f:Addr}{fd:FuncData}(F:Fun K "refuse_no_book" "refuse_no_book" (top 40) f fd)(c1:Cal P w K mg base 6 "is_book" ["thing"] (spT pL)):FnOk P w K mg base CX0 7 f fd ["thing"] Ag:=by
 refine F.ok Hn (fun vs H Q E h=>?_) (fun cdv A outer s H vs Q E hr h=>?_)
 ·obtain ⟨S,v,d,rfl,_⟩:=h
  rfl
 ·obtain ⟨S,v,d,rfl,th,hz,hb,q⟩:=h
  refine ⟨_,aH (cu (bY (cN (aK c1 hr (by decide) rfl (aQ (pv 0) aj)))) (aH dz) bh),?_⟩
  refine ⟨_,rfl,S,v,d,rfl,th,hz,fun H1 s1=>⟨_,rfl,?_⟩⟩
  rw [hb]
  exact bD (q _ s1)
theorem Ho:FnScope ["clips","year"] ["clips","year"] (aJ (top 58)):=⟨rfl,rfl,rfl,by decide +kernel,rfl,by decide +kernel,by decide +kernel⟩
theorem Cw {f:Addr}{fd:FuncData}(F:Fun K "refuse_no_year_of" "refuse_no_year_of" (top 58) f fd)(T:Mg mg)(c1:Cal P w K mg base 2 "is_whole_from" ["thing","least","most"] (lA oJ)):FnOk P w K mg base CX0 3 f fd ["clips","year"] uZ:=by
 refine F.ok Ho (fun vs H Q E h=>?_) (fun cdv A outer s H vs Q E hr h=>?_)
 ·obtain ⟨ac,xc,cs,y,rfl,_⟩:=h
  rfl
 ·obtain ⟨ac,xc,cs,y,rfl,rc,y0,y1,q⟩:=h
  refine ⟨_,aH (cu (bY (cN (aK c1 hr (by decide) rfl (az (pv 1) (az aA (az (aV dW (aO bj rfl T.len PySem.boot_len (az (pv 0) aj)) aA) aj)))))) (aH dz) bh),?_⟩
  refine ⟨_,rfl,_,rfl,ac,_,rfl,.inr (SqT.of rc.e),_,_,rfl,rfl,fun _=>False,.int y,.int y,0,_,rfl,.int _,(by show 1<=4000;decide),fun H1 s1=>⟨_,rfl,?_⟩⟩
  have e:oJ (.int y) 0 ((xc.length:Int) - 1)=true:=by
   show (true && (decide (0<=y) && decide (y<=(xc.length:Int) - 1)))=true
   rw [decide_eq_true y0,decide_eq_true (by rw [rc.l];lia)]
   rfl
  rw [e]
  exact bD (q _ s1)
end
end K74

namespace K74
open PySem L2
structure BookAt (H:Hp)(bk ac:Addr)(xc:List V)(cs:List (List Int))(ap:Addr)(xp:List V)(ps:List (List Int))(as_:Addr)(xs:List V)(ss:List (List Int)):Prop where
 e:H bk=some (.tup [.ref ac,.ref ap,.ref as_])
 rc:RowsAt H ac xc cs
 okc:∀ r∈cs,r.length=3/\∀ x∈r,0<=x
 lc:cs.length<=20
 rp:RowsAt H ap xp ps
 lp:ps.length<=10
 okp:∀ r∈ps,okP r
 rs:RowsAt H as_ xs ss
 ls:ss.length<=12
 h5:∀ s∈ss,s.length=5
 un:un ps ss=none
theorem BookAt.same {H H':Hp}{bk ac:Addr}{xc:List V}{cs:List (List Int)}{ap:Addr}{xp:List V}{ps:List (List Int)}{as_:Addr}{xs:List V}{ss:List (List Int)}(b:BookAt H bk ac xc cs ap xp ps as_ xs ss)(s:Same H H'):BookAt H' bk ac xc cs ap xp ps as_ xs ss :=
 ⟨s _ _ b.e,b.rc.same s,b.okc,b.lc,b.rp.same s,b.lp,b.okp,b.rs.same s,b.ls,b.h5,b.un⟩
def nR (R:List (List Int)->List (List Int)->List (List Int)->Int->VK->Hp->Prop):Sp:=fun vs H Q _=>∃ S bk y d ac xc cs ap xp ps as_ xs ss,vs=[.ref bk,.int y]/\IsTh S H (.ref bk) d/\sz d<=4000/\pL d=true/\BookAt H bk ac xc cs ap xp ps as_ xs ss/\0<=y/\y < cs.length/\R cs ps ss y Q H
def Cy:List (List Int)->List (List Int)->List (List Int)->Int->VK->Hp->Prop:=fun _ _ _ _ Q H=>∀ H',Same H H'->Q .non H'
def Ah:List (List Int)->List (List Int)->List (List Int)->Int->VK->Hp->Prop:=fun cs ps ss y Q H=>∀ g xg H',Same H H'->H g=none->g≠sysModules->H' g=some (.lst xg)->Els H' xg (srt (uX cs ps ss y.toNat).g)->Q (.ref g) H'
section
variable {P:Program}{w:World}{K:PySem.W.Frag}{mg:Str->Option Value}{base:Heap}
theorem Hq:FnScope ["book","year"] ["book","year"] (aJ (top 59)):=⟨rfl,rfl,rfl,by decide +kernel,rfl,by decide +kernel,by decide +kernel⟩
theorem Ai {f:Addr}{fd:FuncData}(F:Fun K "refuse_no_year" "refuse_no_year" (top 59) f fd)(c1:Cal P w K mg base 7 "refuse_no_book" ["thing"] Ag)(c2:Cal P w K mg base 3 "refuse_no_year_of" ["clips","year"] uZ):FnOk P w K mg base CX0 8 f fd ["book","year"] (nR Cy):=by
 refine F.ok Hq (fun vs H Q E h=>?_) (fun cdv A outer s H vs Q E hr h=>?_)
 ·obtain ⟨S,bk,y,d,ac,xc,cs,ap,xp,ps,as_,xs,ss,rfl,_⟩:=h
  rfl
 ·obtain ⟨S,bk,y,d,ac,xc,cs,ap,xp,ps,as_,xs,ss,rfl,th,hz,hb,B,y0,y1,q⟩:=h
  refine ⟨_,aB (bA (aK c1 hr (by decide) rfl (az (pv 0) aj))) (aH (bA (aK c2 hr (by decide) rfl (az (aZ bG (pv 0) aA (fun _ _=>rfl)) (az (pv 1) aj))))),?_⟩
  refine aG ?_
  refine ⟨_,rfl,S,_,d,rfl,th,hz,hb,fun H1 s1=>?_⟩
  dsimp only
  have B1:=B.same s1
  exact ⟨_,rfl,bk,_,0,.ref ac,rfl,rfl,SqT.of B1.e,rfl,_,rfl,ac,xc,cs,y,rfl,B1.rc,y0,y1,fun H2 s2=>q _ (s1.trans s2)⟩
theorem scYD2:FnScope ["book","year","gifts","owed","left"] ["book","year"] (aJ (top 60)):=⟨rfl,rfl,rfl,by decide +kernel,rfl,by decide +kernel,by decide +kernel⟩
theorem Aj {f:Addr}{fd:FuncData}(F:Fun K "gifts_in" "gifts_in" (top 60) f fd)(c1:Cal P w K mg base 8 "refuse_no_year" ["book","year"] (nR Cy))(c2:Cal P w K mg base 10 "years_given" ["book","year"] lN):FnOk P w K mg base CX0 11 f fd ["book","year"] (nR Ah):=by
 refine F.ok scYD2 (fun vs H Q E h=>?_) (fun cdv A outer s H vs Q E hr h=>?_)
 ·obtain ⟨S,bk,y,d,ac,xc,cs,ap,xp,ps,as_,xs,ss,rfl,_⟩:=h
  rfl
 ·obtain ⟨S,bk,y,d,ac,xc,cs,ap,xp,ps,as_,xs,ss,rfl,th,hz,hb,B,y0,y1,q⟩:=h
  refine ⟨_,aB (bA (aK c1 hr (by decide) rfl (az (pv 0) (az (pv 1) aj))))
   (aB (cB (aZ bF (aK c2 hr (by decide) rfl (az (pv 0) (az (pv 1) aj))) (pv 1) (fun _ _=>rfl)) (bU rfl (aq (au (i:=2) scYD2.nd rfl (Or.inl rfl)) (aq (au (i:=3) scYD2.nd rfl (Or.inl rfl)) (aq (au (i:=4) scYD2.nd rfl (Or.inl rfl)) aY)))))
   (aH (aU (pv 2)))),?_⟩
  refine aG ?_
  refine ⟨_,rfl,_,rfl,S,bk,y,d,ac,xc,cs,ap,xp,ps,as_,xs,ss,rfl,th,hz,hb,B,y0,y1,fun H1 s1=>?_⟩
  dsimp only
  have B1:=B.same s1
  refine aG ?_
  refine ⟨_,rfl,_,rfl,bk,y,ac,xc,cs,ap,xp,ps,as_,xs,ss,rfl,B1.e,B1.rc,B1.okc,B1.lc,y0,y1,B1.rp,B1.lp,B1.okp,B1.rs,B1.ls,B1.h5,B1.un,fun l ts H2 s2 nl el lt hy=>?_⟩
  have hl:y.toNat < ts.length:=by lia
  obtain ⟨g,k,tl,xg,xk,e1,n1,n2,d1,d2,e2,e3,e4,e5,e6⟩:=hy y.toNat ts[y.toNat] (zA0 hl)
  have hat:atI (ts.map V.ref) y=some (.ref ts[y.toNat]):=by
   have:(ts.map V.ref)[y.toNat]?=some (.ref ts[y.toNat]):=by rw [zAb,zA0 hl];rfl
   have:=gh this
   rw [show ((y.toNat:Nat):Int)=y by lia] at this
   exact this
  refine ⟨_,rfl,l,_,y,.ref ts[y.toNat],rfl,rfl,SqL.of el,hat,ts[y.toNat],_,rfl,SqT.of e1,rfl,_,_,rfl,_,_,rfl,_,_,rfl,rfl,?_⟩
  dsimp only
  exact ⟨_,rfl,q g xg H2 (s1.trans s2) (s1.free n1) e6.2.1 e2 e3⟩
end
end K74

namespace K74
open PySem L2
theorem jW:∀ (is:List Int),szs (is.map PyData.int)=is.length
 | []=>rfl
 | i::is=>by
  show 1+szs (is.map PyData.int)=is.length+1
  rw [jW is]
  lia
theorem jz {k:Nat}:∀ {rs:List (List Int)},(∀ r∈rs,r.length=k)->szs (rs.map bw)=(k+1) * rs.length
 | [],_=>rfl
 | r::rs,h=>by
  show (1+szs (r.map PyData.int))+szs (rs.map bw)=(k+1) * (rs.length+1)
  rw [jW,h r (.head _),jz fun q hq=>h q (.tail _ hq),Nat.mul_add]
  lia
theorem nU:∀ (is:List Int),PyData.depthAll (is.map PyData.int)=0
 | []=>rfl
 | i::is=>by
  show max 0 (PyData.depthAll (is.map PyData.int))=0
  rw [nU is]
  rfl
theorem fc:∀ (rs:List (List Int)),PyData.depthAll (rs.map bw)<=1
 | []=>zAp _
 | r::rs=>by
  show max (PyData.depthAll (r.map PyData.int)+1) (PyData.depthAll (rs.map bw))<=1
  rw [nU]
  have:=fc rs
  lia
theorem jA {S:Addr->Prop}{H:Hp}:∀ {xs:List V} {rs:List (List Int)},Els H xs rs->IsThs S H xs (rs.map bw)
 | [],[],_=>.nil
 | [],_::_,h=>by have:=h.1;simp at this
 | _::_,[],h=>by have:=h.1;simp at this
 | x::xs,r::rs,h=>by
  obtain ⟨t,e1,e2⟩:=h.2 0 r rfl
  rw [List.getElem?_cons_zero] at e1
  cases e1
  refine .cons (.tup e2 (IsThs.ints r)) (jA ⟨by have:=h.1;simpa using this,fun i q e=>?_⟩)
  obtain ⟨u,g1,g2⟩:=h.2 (i+1) q (by rw [List.getElem?_cons_succ];exact e)
  rw [List.getElem?_cons_succ] at g1
  exact ⟨u,g1,g2⟩
theorem qb (rs:List (List Int)):rowsOf (bx rs)=rs:=by
 show (rs.map bw).map (fun x=>(items x).map intOf)=rs
 rw [zAr]
 refine (List.map_congr_left fun r _=>?_).trans (List.map_id rs)
 show ((r.map PyData.int)).map intOf=r
 rw [zAr]
 exact List.map_id r
theorem eU {r:List Int}{n:Nat}(h:r.length=n):bu (bw r) n=true:=by
 show (bB (.tuple (r.map PyData.int)) n n && (r.map PyData.int).all cQ)=true
 rw [zAc]
 refine ⟨?_,List.all_eq_true.mpr fun x hx=>?_⟩
 ·show (true && (decide ((n:Int)<=(r.map PyData.int).length) && decide (((r.map PyData.int).length:Int)<=n)))=true
  rw [zA1,h,decide_eq_true (Int.le_refl _)]
  rfl
 ·obtain ⟨i,_,rfl⟩:=zA5.mp hx
  rfl
theorem v5 {ds:List PyData}{a b:Int}(h1:a<=ds.length)(h2:(ds.length:Int)<=b):bB (.tuple ds) a b=true:=by
 show (true && (decide (a<=(ds.length:Int)) && decide ((ds.length:Int)<=b)))=true
 rw [decide_eq_true h1,decide_eq_true h2]
 rfl
theorem Cz {cs ps ss:List (List Int)}(lc1:1<=cs.length)(lc:cs.length<=20)(okc:∀ r∈cs,okC r)(lp:ps.length<=10)(okp:∀ r∈ps,okP r)(ls:ss.length<=12)(h5:∀ s∈ss,s.length=5)(hu:un ps ss=none):pL (.tuple [bx cs,bx ps,bx ss])=true:=by
 have b0:gP (bx cs)=true:=by
  show (bB (.tuple (cs.map bw)) 1 20 && (cs.map bw).all kY)=true
  rw [v5 (by rw [zA1];lia) (by rw [zA1];lia),Bool.true_and]
  refine List.all_eq_true.mpr fun x hx=>?_
  obtain ⟨r,hr,rfl⟩:=zA5.mp hx
  obtain ⟨h3,hb⟩:=okc r hr
  show (bu (bw r) 3 && (r.map PyData.int).all fun x=>decide (0<=intOf x) && decide (intOf x<=999))=true
  rw [show bu (bw r) 3=true from eU h3,Bool.true_and]
  refine List.all_eq_true.mpr fun x hx=>?_
  obtain ⟨i,hi,rfl⟩:=zA5.mp hx
  have:=hb i hi
  show (decide (0<=i) && decide (i<=999))=true
  rw [decide_eq_true (by lia),decide_eq_true (by lia)]
  rfl
 have b1:dY (bx ps)=true:=by
  show (bB (.tuple (ps.map bw)) 0 10 && (ps.map bw).all gQ)=true
  rw [v5 (by lia) (by rw [zA1];lia),Bool.true_and]
  refine List.all_eq_true.mpr fun x hx=>?_
  obtain ⟨r,hr,rfl⟩:=zA5.mp hx
  obtain ⟨h6,h1,h2,h3,h4,h5'⟩:=okp r hr
  show (bu (bw r) 6 && jK (at_ (bw r) 0) (at_ (bw r) 1) (at_ (bw r) 2) (at_ (bw r) 3) (at_ (bw r) 4) (at_ (bw r) 5))=true
  rw [show bu (bw r) 6=true from eU h6,Bool.true_and]
  have ea:∀ i,i < 6->at_ (bw r) i=fl r i:=fun i hi=>by
   unfold at_ fl
   show intOf ((r.map PyData.int).getD i .none)=r.getD i 0
   rw [zA7,zA7,zAb,zA0 (by lia)]
   rfl
  rw [ea 0 (by decide),ea 1 (by decide),ea 2 (by decide),ea 3 (by decide),ea 4 (by decide),ea 5 (by decide)]
  unfold jK
  simp only [Bool.and_eq_true,decide_eq_true_eq]
  exact ⟨h1,h2,⟨h3.1,h3.2.1,h3.2.2⟩,h4,h5'⟩
 have b2:dZ (bx ss)=true:=by
  show (bB (.tuple (ss.map bw)) 0 12 && (ss.map bw).all fun x=>bu x 5)=true
  rw [v5 (by lia) (by rw [zA1];lia),Bool.true_and]
  refine List.all_eq_true.mpr fun x hx=>?_
  obtain ⟨r,hr,rfl⟩:=zA5.mp hx
  exact eU (h5 r hr)
 show (bB (.tuple [bx cs,bx ps,bx ss]) 3 3 && (gP (bx cs) && (dY (bx ps) && (dZ (bx ss) && (un (rowsOf (bx ps)) (rowsOf (bx ss))).isNone))))=true
 rw [b0,b1,b2,qb,qb,hu]
 rfl
end K74

namespace K74
open PySem L2
def qd:List (List Int)->List (List Int)->List (List Int)->Int->VK->Hp->Prop:=fun cs ps ss y Q H=>∀ k xk H',Same H H'->H k=none->k≠sysModules->H' k=some (.lst xk)->Els H' xk (iC cs ps ss (y.toNat+1))->Q (.ref k) H'
def CG (R:List (List Int)->List (List Int)->List (List Int)->Int->VK->Hp->Prop):Sp:=fun vs H Q _=>∃ bk y ac xc cs ap xp ps as_ xs ss,vs=[.ref bk,.int y]/\BookAt H bk ac xc cs ap xp ps as_ xs ss/\0<=y/\y < cs.length/\R cs ps ss y Q H
section
variable {P:Program}{w:World}{K:PySem.W.Frag}{mg:Str->Option Value}{base:Heap}
theorem scYF1:FnScope ["book","year","gifts","owed","left"] ["book","year"] (aJ (top 62)):=⟨rfl,rfl,rfl,by decide +kernel,rfl,by decide +kernel,by decide +kernel⟩
theorem Ak {f:Addr}{fd:FuncData}(F:Fun K "owed_behind" "owed_behind" (top 62) f fd)(c2:Cal P w K mg base 10 "years_given" ["book","year"] lN):FnOk P w K mg base CX0 11 f fd ["book","year"] (CG qd):=by
 refine F.ok scYF1 (fun vs H Q E h=>?_) (fun cdv A outer s H vs Q E hr h=>?_)
 ·obtain ⟨bk,y,ac,xc,cs,ap,xp,ps,as_,xs,ss,rfl,_⟩:=h
  rfl
 ·obtain ⟨bk,y,ac,xc,cs,ap,xp,ps,as_,xs,ss,rfl,B,y0,y1,q⟩:=h
  refine ⟨_,aB (cB (aZ bF (aK c2 hr (by decide) rfl (az (pv 0) (az (pv 1) aj))) (pv 1) (fun _ _=>rfl)) (bU rfl (aq (au (i:=2) scYF1.nd rfl (Or.inl rfl)) (aq (au (i:=3) scYF1.nd rfl (Or.inl rfl)) (aq (au (i:=4) scYF1.nd rfl (Or.inl rfl)) aY)))))
   (aH (aU (pv 3))),?_⟩
  refine aG ?_
  refine ⟨_,rfl,_,rfl,bk,y,ac,xc,cs,ap,xp,ps,as_,xs,ss,rfl,B.e,B.rc,B.okc,B.lc,y0,y1,B.rp,B.lp,B.okp,B.rs,B.ls,B.h5,B.un,fun l ts H2 s2 nl el lt hy=>?_⟩
  have hl:y.toNat < ts.length:=by lia
  obtain ⟨g,k,tl,xg,xk,e1,n1,n2,d1,d2,e2,e3,e4,e5,e6,e7⟩:=hy y.toNat ts[y.toNat] (zA0 hl)
  have hat:atI (ts.map V.ref) y=some (.ref ts[y.toNat]):=by
   have:(ts.map V.ref)[y.toNat]?=some (.ref ts[y.toNat]):=by rw [zAb,zA0 hl];rfl
   have:=gh this
   rw [show ((y.toNat:Nat):Int)=y by lia] at this
   exact this
  refine ⟨_,rfl,l,_,y,.ref ts[y.toNat],rfl,rfl,SqL.of el,hat,ts[y.toNat],_,rfl,SqT.of e1,rfl,_,_,rfl,_,_,rfl,_,_,rfl,rfl,?_⟩
  dsimp only
  exact ⟨_,rfl,q k xk H2 s2 n2 e7.2 e4 e5⟩
theorem Hr:FnScope ["book","year"] ["book","year"] (aJ (top 63)):=⟨rfl,rfl,rfl,by decide +kernel,rfl,by decide +kernel,by decide +kernel⟩
theorem CJ {f:Addr}{fd:FuncData}(F:Fun K "owed_by" "owed_by" (top 63) f fd)(c1:Cal P w K mg base 8 "refuse_no_year" ["book","year"] (nR Cy))(c2:Cal P w K mg base 11 "owed_behind" ["book","year"] (CG qd)):FnOk P w K mg base CX0 12 f fd ["book","year"] (nR qd):=by
 refine F.ok Hr (fun vs H Q E h=>?_) (fun cdv A outer s H vs Q E hr h=>?_)
 ·obtain ⟨S,bk,y,d,ac,xc,cs,ap,xp,ps,as_,xs,ss,rfl,_⟩:=h
  rfl
 ·obtain ⟨S,bk,y,d,ac,xc,cs,ap,xp,ps,as_,xs,ss,rfl,th,hz,hb,B,y0,y1,q⟩:=h
  refine ⟨_,aB (bA (aK c1 hr (by decide) rfl (az (pv 0) (az (pv 1) aj)))) (aH (aU (aK c2 hr (by decide) rfl (az (pv 0) (az (pv 1) aj))))),?_⟩
  refine aG ?_
  refine ⟨_,rfl,_,rfl,S,bk,y,d,ac,xc,cs,ap,xp,ps,as_,xs,ss,rfl,th,hz,hb,B,y0,y1,fun H1 s1=>?_⟩
  dsimp only
  exact ⟨_,rfl,_,rfl,bk,y,ac,xc,cs,ap,xp,ps,as_,xs,ss,rfl,B.same s1,y0,y1,fun k xk H2 s2 n ns e1 e2=>q k xk H2 (s1.trans s2) (s1.free n) ns e1 e2⟩
end
end K74

namespace K74
open PySem L2
def Dv:List (List Int)->List (List Int)->List (List Int)->Int->VK->Hp->Prop:=fun cs ps ss y Q H=>∀ H',Same H H'->Q (.int (dG (iC cs ps ss (y.toNat+1)))) H'
section
variable {P:Program}{w:World}{K:PySem.W.Frag}{mg:Str->Option Value}{base:Heap}
theorem J3:FnScope ["book","year"] ["book","year"] (aJ (top 67)):=⟨rfl,rfl,rfl,by decide +kernel,rfl,by decide +kernel,by decide +kernel⟩
theorem CK {f:Addr}{fd:FuncData}(F:Fun K "lack_by" "lack_by" (top 67) f fd)(c1:Cal P w K mg base 8 "refuse_no_year" ["book","year"] (nR Cy))(c2:Cal P w K mg base 11 "owed_behind" ["book","year"] (CG qd))(c3:Cal P w K mg base 1 "sacks_of" ["rows"] lM):FnOk P w K mg base CX0 12 f fd ["book","year"] (nR Dv):=by
 refine F.ok J3 (fun vs H Q E h=>?_) (fun cdv A outer s H vs Q E hr h=>?_)
 ·obtain ⟨S,bk,y,d,ac,xc,cs,ap,xp,ps,as_,xs,ss,rfl,_⟩:=h
  rfl
 ·obtain ⟨S,bk,y,d,ac,xc,cs,ap,xp,ps,as_,xs,ss,rfl,th,hz,hb,B,y0,y1,q⟩:=h
  refine ⟨_,aB (bA (aK c1 hr (by decide) rfl (az (pv 0) (az (pv 1) aj)))) (aH (aU (aK c3 hr (by decide) rfl (az (aK c2 hr (by decide) rfl (az (pv 0) (az (pv 1) aj))) aj)))),?_⟩
  refine aG ?_
  refine ⟨_,rfl,_,rfl,S,bk,y,d,ac,xc,cs,ap,xp,ps,as_,xs,ss,rfl,th,hz,hb,B,y0,y1,fun H1 s1=>?_⟩
  dsimp only
  have B1:=B.same s1
  obtain ⟨oko,lno⟩:=wG (cs:=cs) B.lp B.un B.h5 B.okp (y.toNat+1)
  exact ⟨_,rfl,_,rfl,bk,y,ac,xc,cs,ap,xp,ps,as_,xs,ss,rfl,B1,y0,y1,fun k xk H2 s2 n ns e1 e2=>⟨k,xk,_,rfl,e1,e2,fun r hr=>(oko r hr).1,by have:=B.lc;lia,fun H3 s3=>q H3 ((s1.trans s2).trans s3)⟩⟩
end
end K74

namespace K74
open PySem L2
def Bk (H:Hp)(bk:Addr)(cs ps ss:List (List Int)):Prop:=∃ ac xc ap xp as_ xs,BookAt H bk ac xc cs ap xp ps as_ xs ss
theorem Bk.keep {H H':Hp}{bk:Addr}{cs ps ss:List (List Int)}(b:Bk H bk cs ps ss)(k:∀ b l,H b=some (.tup l)->H' b=some (.tup l)):Bk H' bk cs ps ss:=by
 obtain ⟨ac,xc,ap,xp,as_,xs,b⟩:=b
 exact ⟨ac,xc,ap,xp,as_,xs,k _ _ b.e,b.rc.keep k,b.okc,b.lc,b.rp.keep k,b.lp,b.okp,b.rs.keep k,b.ls,b.h5,b.un⟩
theorem Bk.same {H H':Hp}{bk:Addr}{cs ps ss:List (List Int)}(b:Bk H bk cs ps ss)(s:Same H H'):Bk H' bk cs ps ss:=b.keep fun _ _ e=>s _ _ e
inductive SpMoreI (vs:List V)(H:Hp)(Q:VK):Prop
 | mk:∀ a xs m,(vs=[.ref a,.int m])->(H a=some (.tup xs))->((xs.length:Int) < m)->(Q .non H)->SpMoreI  vs H Q
def rF:Sp:=fun vs H Q _=>SpMoreI  vs H Q
inductive SpGBYI (vs:List V)(H:Hp)(Q:VK):Prop
 | mk:∀ bk cs ps ss,(vs=[.ref bk])->(Bk H bk cs ps ss)->(1<=cs.length)->(∀ l,∀ gs:List Addr,∀ H',Same H H'->H' l=some (.lst (gs.map V.ref))->gs.length=cs.length->(∀ (j:Nat) g,gs[j]?=some g->∃ xg,H' g=some (.lst xg)/\Els H' xg (srt (uX cs ps ss j).g))->Q (.ref l) H')->SpGBYI  vs H Q
def Dw:Sp:=fun vs H Q _=>SpGBYI  vs H Q
section
variable {P:Program}{w:World}{K:PySem.W.Frag}{mg:Str->Option Value}{base:Heap}
theorem J5:FnScope ["rows","most"] ["rows","most"] (aJ (top 34)):=⟨rfl,rfl,rfl,by decide +kernel,rfl,by decide +kernel,by decide +kernel⟩
theorem CN {f:Addr}{fd:FuncData}(F:Fun K "refuse_one_more" "refuse_one_more" (top 34) f fd)(T:Mg mg):FnOk P w K mg base CX0 1 f fd ["rows","most"] rF:=by
 refine F.ok J5 (fun vs H Q E h=>?_) (fun cdv A outer s H vs Q E hr h=>?_)
 ·obtain ⟨a,xs,m,rfl,_⟩:=h
  rfl
 ·obtain ⟨a,xs,m,rfl,e,hl,q⟩:=h
  refine ⟨_,aH (cu (bJ vz (aO bj rfl T.len PySem.boot_len (az (pv 0) aj)) (pv 1) (bI _)) (aH dz) bh),?_⟩
  refine ⟨_,rfl,a,xs,rfl,.inr (SqT.of e),_,rfl,_,_,rfl,rfl,_,rfl,?_⟩
  rw [decide_eq_false (show ¬ ((xs.length:Int) ≥ m) by lia)]
  exact bD q
theorem Fj:(["gifts","owed","left"]:List Str).Nodup:=by decide +kernel
theorem J6:FnScope ["book"] ["book"] (aJ (top 57)):=⟨rfl,rfl,rfl,by decide +kernel,rfl,by decide +kernel,by decide +kernel⟩
theorem Fl {f:Addr}{fd:FuncData}(F:Fun K "gifts_by_year" "gifts_by_year" (top 57) f fd)(T:Mg mg)(c1:Cal P w K mg base 10 "years_given" ["book","year"] lN):FnOk P w K mg base CX0 11 f fd ["book"] Dw:=by
 refine F.ok J6 (fun vs H Q E h=>?_) (fun cdv A outer s H vs Q E hr h=>?_)
 ·obtain ⟨bk,cs,ps,ss,rfl,_⟩:=h
  rfl
 ·obtain ⟨bk,cs,ps,ss,rfl,b,l1,q⟩:=h
  obtain ⟨ac,xc,ap,xp,as_,xs,B⟩:=b
  refine ⟨_,aH (aU (bZ (g:=lq K 3 (cA (bK 0) (cA (bK 1) (cA (bK 2) lV)))) ["gifts","owed","left"] [none,none,none] rfl (fX (aK c1 hr (by decide) rfl (az (pv 0) (az (aV dW (aO bj rfl T.len PySem.boot_len (az (aZ bG (pv 0) aA (fun _ _=>rfl)) aj)) aA) aj))))
   (fun C fp pins s₂ H₂=>⟨dJ rfl rfl (aq (au (i:=0) Fj rfl (Or.inl rfl) (Or.inr rfl)) (aq (au (i:=1) Fj rfl (Or.inl rfl) (Or.inr rfl)) (aq (au (i:=2) Fj rfl (Or.inl rfl) (Or.inr rfl)) aY))),bT,pv 0⟩) (fun C=>trivial) ⟨rfl,rfl,rfl,rfl⟩)),?_⟩
  have lcx:=B.rc.l
  refine ⟨_,rfl,_,rfl,bk,_,0,.ref ac,rfl,rfl,SqT.of B.e,rfl,ac,xc,rfl,.inr (SqT.of B.rc.e),_,_,rfl,rfl,bk,_,ac,xc,cs,ap,xp,ps,as_,xs,ss,rfl,B.e,B.rc,B.okc,B.lc,by lia,by lia,B.rp,B.lp,B.okp,B.rs,B.ls,B.h5,B.un,fun l ts H2 s2 nl el lt hy=>?_⟩
  have hlt:ts.length=cs.length:=by lia
  refine ⟨l,rfl,⟨_,SqL.of el⟩,dF ts.length (fun i ys σ Hc=>Same H2 Hc/\(∃ o1 o2 o3,σ=[o1,o2,o3])/\∃ gs:List Addr,ys=gs.map V.ref/\gs.length=i/\∀ (j:Nat) g,gs[j]?=some g->∃ xg,H2 g=some (.lst xg)/\Els H2 xg (srt (uX cs ps ss j).g)) ⟨Same.refl _,⟨_,_,_,rfl⟩,[],rfl,rfl,fun j g e=>(by cases e)⟩ (by rw [sizeLine_eq];have:=B.lc;lia) ?_ ?_⟩
  ·rintro i ys σ Hc hi hyl ⟨sc,⟨o1,o2,o3,rfl⟩,gs,rfl,lg,hg⟩
   obtain ⟨g,k,tl,xg,xk,e1,n1,n2,d1,d2,e2,e3,e4,e5,e6⟩:=hy i ts[i] (zA0 hi)
   have ex:(ts.map V.ref)[i]?=some (.ref ts[i]):=by rw [zAb,zA0 hi];rfl
   refine ⟨⟨_,_,SqL.of (sc _ _ el),ex⟩,fun v H' y R hR=>?_⟩
   obtain ⟨rfl,y⟩:=y
   have hv:=y _ (SqL.of (sc _ _ el))
   rw [ex] at hv
   cases hv
   refine ⟨ts[i],_,rfl,SqT.of (sc _ _ e1),rfl,_,_,rfl,_,_,rfl,_,_,rfl,rfl,_,rfl,hR _ _ _ ⟨sc,⟨_,_,_,rfl⟩,gs++[g],by rw [zA4];rfl,by rw [zA2,lg];rfl,fun j g' ej=>?_⟩⟩
   by_cases hj:j < gs.length
   ·rw [List.getElem?_append_left hj] at ej
    exact hg j g' ej
   ·have hj':j=i:=by
     have:=(zAa.mp ej).1
     rw [zA2] at this
     simp at this
     lia
    subst hj'
    rw [List.getElem?_append_right (by lia),lg,Nat.sub_self] at ej
    cases ej
    exact ⟨xg,e2,e3⟩
  rintro ys σ Hc hyl ⟨sc,_,gs,rfl,lg,hg⟩
  refine ⟨⟨_,SqL.of (sc _ _ el),by rw [zA1];exact zA3 _⟩,fun D hD=>?_⟩
  have u:=sc.updR (o:=.lst (gs.map V.ref)) hD
  exact q D gs _ (s2.trans u) ao (by lia) fun j g ej=>by
   obtain ⟨xg,a,b⟩:=hg j g ej
   exact ⟨xg,u _ _ a,b.same u⟩
end
structure St3 where
 cs:List (List Int)
 ps:List (List Int)
 ss:List (List Int)
structure KpAt (C:Addr)(H:Hp)(p l:Addr)(ts:List Addr)(Ss:List St3):Prop where
 ob:∃ dx,H p=some (.ins C dx [("stages",.ref l)])
 el:H l=some (.lst (ts.map V.ref))
 ln:ts.length=Ss.length
 bk:∀ (i:Nat) t S,ts[i]?=some t->Ss[i]?=some S->Bk H t S.cs S.ps S.ss
theorem KpAt.keep {C:Addr}{H H':Hp}{p l:Addr}{ts:List Addr}{Ss:List St3}(k:KpAt C H p l ts Ss)(kt:∀ b x,H b=some (.tup x)->H' b=some (.tup x))(kp:∀ dx f,H p=some (.ins C dx f)->H' p=some (.ins C dx f))(kl:∀ x,H l=some (.lst x)->H' l=some (.lst x)):KpAt C H' p l ts Ss:=by
 obtain ⟨dx,e⟩:=k.ob
 exact ⟨⟨dx,kp _ _ e⟩,kl _ k.el,k.ln,fun i t S h1 h2=>(k.bk i t S h1 h2).keep kt⟩
theorem KpAt.same {C:Addr}{H H':Hp}{p l:Addr}{ts:List Addr}{Ss:List St3}(k:KpAt C H p l ts Ss)(s:Same H H'):KpAt C H' p l ts Ss:=k.keep (fun _ _ e=>s _ _ e) (fun _ _ e=>s _ _ e) fun _ e=>s _ _ e
theorem KpAt.last {C:Addr}{H:Hp}{p l t:Addr}{ts:List Addr}{Ss:List St3}{S:St3}(k:KpAt C H p l (ts++[t]) (Ss++[S])):Bk H t S.cs S.ps S.ss:=by
 have h:=k.ln
 rw [zA2,zA2] at h
 have h:ts.length=Ss.length:=by simpa using h
 exact k.bk ts.length t S (by rw [List.getElem?_append_right (zA3 _),Nat.sub_self];rfl) (by rw [h,List.getElem?_append_right (zA3 _),Nat.sub_self];rfl)
theorem KpAt.snoc {C:Addr}{H H':Hp}{p l t:Addr}{ts:List Addr}{Ss:List St3}{S:St3}(k:KpAt C H p l ts Ss)(kt:∀ b x,H b=some (.tup x)->H' b=some (.tup x))(kp:∀ dx f,H p=some (.ins C dx f)->H' p=some (.ins C dx f))(el:H' l=some (.lst ((ts++[t]).map V.ref)))(b:Bk H' t S.cs S.ps S.ss):KpAt C H' p l (ts++[t]) (Ss++[S]):=by
 obtain ⟨dx,e⟩:=k.ob
 refine ⟨⟨dx,kp _ _ e⟩,el,by rw [zA2,zA2,k.ln];rfl,fun i t' S' h1 h2=>?_⟩
 have hln:=k.ln
 by_cases hi:i < ts.length
 ·rw [List.getElem?_append_left hi] at h1
  rw [List.getElem?_append_left (by lia)] at h2
  exact (k.bk i t' S' h1 h2).keep kt
 ·have hi':i=ts.length:=by
   have:=(zAa.mp h1).1
   rw [zA2] at this
   simp at this
   lia
  rw [hi',List.getElem?_append_right (zA3 _),Nat.sub_self] at h1
  rw [hi',hln,List.getElem?_append_right (zA3 _),Nat.sub_self] at h2
  cases h1
  cases h2
  exact b
theorem KpAt.pop {C:Addr}{H H':Hp}{p l t:Addr}{ts:List Addr}{Ss:List St3}{S:St3}(k:KpAt C H p l (ts++[t]) (Ss++[S]))(kt:∀ b x,H b=some (.tup x)->H' b=some (.tup x))(kp:∀ dx f,H p=some (.ins C dx f)->H' p=some (.ins C dx f))(el:H' l=some (.lst (ts.map V.ref))):KpAt C H' p l ts Ss:=by
 obtain ⟨dx,e⟩:=k.ob
 have hln:=k.ln
 rw [zA2,zA2] at hln
 have hln:ts.length=Ss.length:=by simpa using hln
 refine ⟨⟨dx,kp _ _ e⟩,el,hln,fun i t' S' h1 h2=>?_⟩
 have hi:=(zAa.mp h1).1
 exact (k.bk i t' S' (by rw [List.getElem?_append_left hi];exact h1) (by rw [List.getElem?_append_left (by lia)];exact h2)).keep kt
theorem Al {α:Type}{xs:List α}{x:α}:atI (xs++[x]) (-1)=some x:=by
 unfold atI ixN
 rw [zA2]
 have e1:¬ (0:Int)<=-1:=by decide
 rw [if_neg e1,if_pos (by show -(((xs.length+1:Nat)):Int)<=-1;lia)]
 show (xs++[x])[((-1:Int)+((xs.length+1:Nat):Int)).toNat]?=some x
 rw [show ((-1:Int)+((xs.length+1:Nat):Int)).toNat=xs.length by lia,List.getElem?_append_right (zA3 _),Nat.sub_self]
 rfl
end K74

namespace K74
open PySem L2
def gw (P:Program)(w:World)(K:PySem.W.Frag)(mg:Str->Option Value)(base:Heap)(C:Addr)(k:Nat)(m:Str)(ps:List Str)(sp:Sp):Prop :=
 ∃ f fd,FnOk P w K mg base CX0 k f fd ps sp/\Meth K C m f/\Binds K fd ps []
theorem iz {X:Cx}{C:Addr}{k j:Nat}{m:Str}{ps:List Str}{sp:Sp}{apos pos:Pos}{o e:Expr}{es:List Expr}{ta:TE}{t:TA}{pl:Sem Bool}(c:gw X.prog X.w X.K X.mg X.base C j m ps sp)(cl:Cls X.K C)(hr:Room k X.A)(hjk:j<=k)(ho:PE X o ta)(ha:PA X (e::es) t)
  (hst:starEach (e::es) X.env=(false,eval e X.env)::starEach es X.env:=by rfl) (hpl:(backTo pos (starEach es X.env)).any (·.1)=false:=by rfl)
  (ht:eval (.Call (.Attribute o m apos) (e::es) [] pos) X.env=(do
   let ov <- eval o X.env
   standAt apos.atName
   let (f,first) <- holding [ov] (getMethod ov m pl)
   callWith pos f first (backTo pos (starEach (e::es) X.env)) (backToKw pos (keywordEach [] X.env))):=by rfl) :
  PE X (.Call (.Attribute o m apos) (e::es) [] pos) (vA C m sp [] E0 ta t):=by
 obtain ⟨f,fd,F,hm,hb⟩:=c
 exact Bh ho cl hm F (hr.mono hjk) hb .nil rR ha hst hpl ht
theorem cR {X:Cx}{C:Addr}{k j:Nat}{m:Str}{ps:List Str}{sp:Sp}{apos pos:Pos}{o:Expr}{ta:TE}{pl:Sem Bool}(c:gw X.prog X.w X.K X.mg X.base C j m ps sp)(cl:Cls X.K C)(hr:Room k X.A)(hjk:j<=k)(ho:PE X o ta)
  (ht:eval (.Call (.Attribute o m apos) [] [] pos) X.env=(do
   let ov <- eval o X.env
   standAt apos.atName
   let (f,first) <- holding [ov] (getMethod ov m pl)
   callWith pos f first (backTo pos (starEach [] X.env)) (backToKw pos (keywordEach [] X.env))):=by rfl) :
  PE X (.Call (.Attribute o m apos) [] [] pos) (vA C m sp [] E0 ta qw):=by
 obtain ⟨f,fd,F,hm,hb⟩:=c
 exact yJ ho cl hm F (hr.mono hjk) hb .nil rR ht
structure Txt (K:PySem.W.Frag)(C:Addr):Prop where
 cl:Cls K C
 nS:NoAttr K C "stages"
theorem eV {l:Addr}:([("stages",V.ref l)]:List (Str×V)).lookup ("stages" : Str)=some (V.ref l):=by
 rw [List.lookup_cons_self]
theorem dO {l:Addr}{m:Str}(h:(m == ("stages" : Str))=false):([("stages",V.ref l)]:List (Str×V)).lookup m=none:=by
 rw [List.lookup_cons,h]
 rfl
abbrev kI:Stmt:=inClass (top 65) 0
abbrev kB:Stmt:=inClass (top 65) 1
abbrev kS:Stmt:=inClass (top 65) 2
abbrev kP:Stmt:=inClass (top 65) 3
abbrev kL:Stmt:=inClass (top 65) 4
abbrev kU:Stmt:=inClass (top 65) 5
abbrev kG:Stmt:=inClass (top 65) 6
abbrev kO:Stmt:=inClass (top 65) 7
abbrev kK:Stmt:=inClass (top 65) 8
inductive SpInitI (C:Addr)(vs:List V)(H:Hp)(Q:VK):Prop
 | mk:∀ p dx,(vs=[.ref p])->(H p=some (.ins C dx []))->(∀ l t H',(∀ b o,b≠p->H b=some o->H' b=some o)->H l=none->KpAt C H' p l [t] [⟨[],[],[]⟩]->Q .non H')->SpInitI C vs H Q
def v6 (C:Addr):Sp:=fun vs H Q _=>SpInitI C vs H Q
inductive SpNowI (C:Addr)(vs:List V)(H:Hp)(Q:VK):Prop
 | mk:∀ p l ts t Ss S,(vs=[.ref p])->(KpAt C H p l (ts++[t]) (Ss++[S]))->(Q (.ref t) H)->SpNowI C vs H Q
def nW (C:Addr):Sp:=fun vs H Q _=>SpNowI C vs H Q
inductive SpDeedI (C:Addr)(ok:St3->List Int->Prop)(nx:St3->List Int->St3)(vs:List V)(H:Hp)(Q:VK):Prop
 | mk:∀ p l ts t Ss S tc r,(vs=[.ref p,.ref tc])->(KpAt C H p l (ts++[t]) (Ss++[S]))->(ts.length<=100)->(H tc=some (.tup (r.map V.int)))->(ok S r)->(∀ v t' H',(∀ b o,b≠l->H b=some o->H' b=some o)->KpAt C H' p l (ts++[t]++[t']) (Ss++[S]++[nx S r])->Q v H')->SpDeedI C ok nx vs H Q
def gA (C:Addr)(ok:St3->List Int->Prop)(nx:St3->List Int->St3):Sp:=fun vs H Q _=>SpDeedI C ok nx vs H Q
inductive SpUndoI (C:Addr)(vs:List V)(H:Hp)(Q:VK):Prop
 | mk:∀ p l ts t Ss S,(vs=[.ref p])->(KpAt C H p l (ts++[t]) (Ss++[S]))->(ts≠[])->(∀ H',(∀ b o,b≠l->H b=some o->H' b=some o)->KpAt C H' p l ts Ss->Q .non H')->SpUndoI C vs H Q
def Am (C:Addr):Sp:=fun vs H Q _=>SpUndoI C vs H Q
def lO (S:St3)(r:List Int):Prop:=okC r/\S.cs.length < 20
def lQ (S:St3)(r:List Int):St3:=⟨S.cs++[r],S.ps,S.ss⟩
def jB (S:St3)(r:List Int):Prop:=okP r/\S.ps.length < 10
def jC (S:St3)(r:List Int):St3:=⟨S.cs,S.ps++[r],S.ss⟩
def v8 (S:St3)(r:List Int):Prop:=r.length=5/\S.ss.length < 12/\cG S.ps S.ss r=true
def vd (S:St3)(r:List Int):St3:=⟨S.cs,S.ps,S.ss++[r]⟩
theorem CP {ps ss:List (List Int)}{r:List Int}(hu:un ps ss=none):un (ps++[r]) ss=none:=by
 refine lJ fun j hj=>?_
 have h:=nJ hu j hj
 generalize ss.getD j []=s at h ⊢
 generalize ss.take j=sa at h ⊢
 unfold cG at h ⊢
 obtain ⟨h1,h2⟩:=Bool.and_eq_true_iff.mp h
 have h1':=h1
 unfold lC at h1'
 simp only [Bool.and_eq_true,decide_eq_true_eq] at h1'
 have e:jl (ps++[r]) s=jl ps s:=by
  unfold jl
  rw [zA7,zA7,List.getElem?_append_left (by lia)]
 rw [e,h2,Bool.and_true]
 unfold lC at h1 ⊢
 rw [e]
 simp only [Bool.and_eq_true,decide_eq_true_eq] at h1 ⊢
 rw [zA2]
 refine ⟨⟨h1.1.1,by lia⟩,h1.2⟩
theorem CQ {ps ss:List (List Int)}{r:List Int}(hu:un ps ss=none)(h:cG ps ss r=true):un ps (ss++[r])=none:=by
 refine lJ fun j hj=>?_
 rw [zA2] at hj
 have hj:j < ss.length+1:=hj
 by_cases hlt:j < ss.length
 ·rw [List.take_append_of_le_length (by lia),zA7,List.getElem?_append_left hlt,<- zA7]
  exact nJ hu j hlt
 ·have e:j=ss.length:=by lia
  subst e
  rw [List.take_left',zA7,List.getElem?_append_right (zA3 _),Nat.sub_self]
  ·exact h
  ·rfl
theorem CT {r:List Int}(h:okC r):kY (bw r)=true:=by
 obtain ⟨h3,hb⟩:=h
 show (bu (bw r) 3 && (r.map PyData.int).all fun x=>decide (0<=intOf x) && decide (intOf x<=999))=true
 rw [show bu (bw r) 3=true from eU h3,Bool.true_and]
 refine List.all_eq_true.mpr fun x hx=>?_
 obtain ⟨i,hi,rfl⟩:=zA5.mp hx
 have:=hb i hi
 show (decide (0<=i) && decide (i<=999))=true
 rw [decide_eq_true (by lia),decide_eq_true (by lia)]
 rfl
theorem An {r:List Int}(h:okP r):gQ (bw r)=true:=by
 obtain ⟨h6,h1,h2,h3,h4,h5'⟩:=h
 show (bu (bw r) 6 && jK (at_ (bw r) 0) (at_ (bw r) 1) (at_ (bw r) 2) (at_ (bw r) 3) (at_ (bw r) 4) (at_ (bw r) 5))=true
 rw [show bu (bw r) 6=true from eU h6,Bool.true_and]
 have ea:∀ i,i < 6->at_ (bw r) i=fl r i:=fun i hi=>by
  unfold at_ fl
  show intOf ((r.map PyData.int).getD i .none)=r.getD i 0
  rw [zA7,zA7,zAb,zA0 (by lia)]
  rfl
 rw [ea 0 (by decide),ea 1 (by decide),ea 2 (by decide),ea 3 (by decide),ea 4 (by decide),ea 5 (by decide)]
 unfold jK
 simp only [Bool.and_eq_true,decide_eq_true_eq]
 exact ⟨h1,h2,⟨h3.1,h3.2.1,h3.2.2⟩,h4,h5'⟩
theorem vf {r:List Int}{n:Nat}(h:r.length<=n)(hn:n<=100):sz (bw r)<=4000:=by
 show 1+szs (r.map PyData.int)<=4000
 rw [jW]
 lia
section
variable {P:Program}{w:World}{K:PySem.W.Frag}{mg:Str->Option Value}{base:Heap}{C:Addr}
theorem scI:FnScope ["self"] ["self"] (aJ kI):=⟨rfl,rfl,rfl,by decide +kernel,rfl,by decide +kernel,by decide +kernel⟩
theorem CV {f:Addr}{fd:FuncData}(F:Fun K "__init__" "Keeper.__init__" kI f fd)(X:Txt K C):FnOk P w K mg base CX0 1 f fd ["self"] (v6 C):=by
 refine F.ok scI (fun vs H Q E h=>?_) (fun cdv A outer s H vs Q E hr h=>?_)
 ·obtain ⟨p,dx,rfl,_⟩:=h
  rfl
 ·obtain ⟨p,dx,rfl,hp,q⟩:=h
  refine ⟨_,aH (Ef (pv 0) (cC (az (bH (az (lG dX) (az (lG dX) (az (lG dX) aj)))) aj)) rfl),?_⟩
  refine ⟨(by show 0<=sizeLine;decide),fun e1 h1=>⟨(by show 0<=sizeLine;decide),fun e2 h2=>⟨(by show 0<=sizeLine;decide),fun e3 h3=>⟨(by show 3<=sizeLine;decide),fun t ht=>⟨(by show 1<=sizeLine;decide),fun l hl=>?_⟩⟩⟩⟩⟩
  have u1:=Same.upd (o:=.tup []) h1
  have u2:=Same.upd (o:=.tup []) h2
  have u3:=Same.upd (o:=.tup []) h3
  have u4:=Same.upd (o:=.tup [V.ref e1,V.ref e2,V.ref e3]) ht
  have u5:=Same.upd (o:=.lst [V.ref t]) hl
  have s5:=(((u1.trans u2).trans u3).trans u4).trans u5
  have nl:H l=none:=(((u1.trans u2).trans u3).trans u4).free hl
  refine ⟨_,rfl,p,C,dx,[],rfl,s5 _ _ hp,X.cl,X.nS,(by show 0 < 1000;decide),?_⟩
  have np:l≠p:=(aF hp nl).symm
  have E1:=((u2.trans u3).trans u4).trans u5 _ _ (ao (H:=H) (a:=e1) (o:=.tup []))
  have E2:=(u3.trans u4).trans u5 _ _ (ao (H:=upd H e1 (.tup [])) (a:=e2) (o:=.tup []))
  have E3:=u4.trans u5 _ _ (ao (H:=upd (upd H e1 (.tup [])) e2 (.tup [])) (a:=e3) (o:=.tup []))
  have E4:=u5 _ _ (ao (H:=upd (upd (upd H e1 (.tup [])) e2 (.tup [])) e3 (.tup [])) (a:=t) (o:=.tup [V.ref e1,V.ref e2,V.ref e3]))
  have E5:=ao (H:=upd (upd (upd (upd H e1 (.tup [])) e2 (.tup [])) e3 (.tup [])) t (.tup [V.ref e1,V.ref e2,V.ref e3])) (a:=l) (o:=.lst [V.ref t])
  have hp5:=s5 _ _ hp
  generalize upd (upd (upd (upd (upd H e1 (.tup [])) e2 (.tup [])) e3 (.tup [])) t (.tup [V.ref e1,V.ref e2,V.ref e3])) l (.lst [V.ref t])=H5 at s5 E1 E2 E3 E4 E5 hp5 ⊢
  have kt:∀ {o:HO} b x,H5 b=some (.tup x)->upd H5 p o b=some (.tup x):=fun {o} b x e=>by
   rw [aD fun z=>by rw [z,hp5] at e;cases e]
   exact e
  refine q l t _ (fun b o n e=>by rw [aD n];exact s5 _ _ e) nl ⟨⟨dx,ao⟩,by rw [aD np];exact E5,rfl,fun i t' S h1 h2=>?_⟩
  have hi:i=0:=by
   have:=(zAa.mp h1).1
   simp at this
   lia
  subst hi
  cases h1
  cases h2
  exact ⟨e1,[],e2,[],e3,[],kt _ _ E4,⟨kt _ _ E1,rfl,fun i r e=>(by cases e)⟩,fun r hr=>(by cases hr),by decide,⟨kt _ _ E2,rfl,fun i r e=>(by cases e)⟩,by decide,fun r hr=>(by cases hr),⟨kt _ _ E3,rfl,fun i r e=>(by cases e)⟩,by decide,fun r hr=>(by cases hr),rfl⟩
theorem scB:FnScope ["self"] ["self"] (aJ kB):=⟨rfl,rfl,rfl,by decide +kernel,rfl,by decide +kernel,by decide +kernel⟩
theorem Fo {f:Addr}{fd:FuncData}(F:Fun K "book_now" "Keeper.book_now" kB f fd)(X:Txt K C):FnOk P w K mg base CX0 1 f fd ["self"] (nW C):=by
 refine F.ok scB (fun vs H Q E h=>?_) (fun cdv A outer s H vs Q E hr h=>?_)
 ·obtain ⟨p,l,ts,t,Ss,S,rfl,_⟩:=h
  rfl
 ·obtain ⟨p,l,ts,t,Ss,S,rfl,k,q⟩:=h
  obtain ⟨dx,hp⟩:=k.ob
  refine ⟨_,aH (aU (aZ bF (jF (pv 0) rfl) (Df yC aA) (fun _ _=>rfl))),?_⟩
  refine ⟨_,rfl,p,C,dx,_,_,rfl,hp,X.cl,X.nS,eV,1,rfl,l,_,-1,.ref t,rfl,rfl,SqL.of k.el,?_,q⟩
  rw [zA4]
  exact Al
theorem wK {H:Hp}{p l:Addr}{x0:List V}{C:Addr}{o:HO}(el:H l=some (.lst x0)):(∀ b x,H b=some (.tup x)->upd H l o b=some (.tup x))/\(∀ dx f,H p=some (.ins C dx f)->upd H l o p=some (.ins C dx f)):=by
 refine ⟨fun b x e=>?_,fun dx f e=>?_⟩
 ·rw [aD fun z=>by rw [z,el] at e;cases e]
  exact e
 ·rw [aD fun z=>by rw [z,el] at e;cases e]
  exact e
theorem scS:FnScope ["self","clip","clips","promises","sales"] ["self","clip"] (aJ kS):=⟨rfl,rfl,rfl,by decide +kernel,rfl,by decide +kernel,by decide +kernel⟩
theorem Ao {f:Addr}{fd:FuncData}(F:Fun K "shear" "Keeper.shear" kS f fd)(X:Txt K C)(N:Nums mg)(c1:Cal P w K mg base 3 "is_clip" ["thing"] (spT kY))(c2:gw P w K mg base C 1 "book_now" ["self"] (nW C))(c3:Cal P w K mg base 1 "refuse_one_more" ["rows","most"] rF):FnOk P w K mg base CX0 4 f fd ["self","clip"] (gA C lO lQ):=by
 refine F.ok scS (fun vs H Q E h=>?_) (fun cdv A outer s H vs Q E hr h=>?_)
 ·obtain ⟨p,l,ts,t,Ss,S,tc,r,rfl,_⟩:=h
  rfl
 ·obtain ⟨p,l,ts,t,Ss,S,tc,r,rfl,k,lts,etc,⟨okr,lok⟩,q⟩:=h
  obtain ⟨t1,e1⟩:=N.clips
  refine K74P.ok_b (aP ⟨cu (bY (cN (aK c1 hr (by decide) rfl (az (pv 1) aj)))) (aH dz) bh⟩
   (aP ⟨cB (cR c2 X.cl hr (by decide) (pv 0)) (bU rfl (aq (au (i:=2) scS.nd rfl (Or.inl rfl)) (aq (au (i:=3) scS.nd rfl (Or.inl rfl)) (aq (au (i:=4) scS.nd rfl (Or.inl rfl)) aY))))⟩
   (aP ⟨bA (aK c3 hr (by decide) rfl (az (pv 2) (az (bR (v:=.int 20) rfl e1 ⟨_,rfl⟩) aj)))⟩
   (cZ ⟨bA (j8 PySem.F.plainAttrs_list PySem.F.slot_list_append PySem.F.type_list_append di (jF (pv 0) rfl) (az (bH (az (aV jy (pv 2) (bH (az (pv 1) aj))) (az (pv 3) (az (pv 4) aj)))) aj))⟩)))) ?_
  refine aG ?_
  refine ⟨_,rfl,fun _=>False,.ref tc,bw r,rfl,.tup etc (IsThs.ints r),vf (n:=3) (by rw [okr.1];decide) (by decide),fun H1 s1=>⟨_,rfl,?_⟩⟩
  rw [CT okr]
  refine bD ?_
  refine cz ?_
  dsimp only
  have k1:=k.same s1
  obtain ⟨dx,hp⟩:=k1.ob
  obtain ⟨ac,xc,ap,xp,as_,xs,B⟩:=k1.last
  refine aG ?_
  refine ⟨_,rfl,p,dx,_,rfl,hp,dO rfl,p,l,ts,t,Ss,S,rfl,k1,t,_,rfl,SqT.of B.e,rfl,_,_,rfl,_,_,rfl,_,_,rfl,rfl,?_⟩
  dsimp only
  refine aG ?_
  refine ⟨_,rfl,ac,xc,20,rfl,B.rc.e,by rw [B.rc.l];lia,?_⟩
  dsimp only
  refine ⟨_,rfl,p,C,dx,_,_,rfl,hp,X.cl,X.nS,eV,.inl ⟨rfl,_,SqL.of k1.el⟩,_,rfl,_,rfl,(by show 1<=sizeLine;decide),fun u1 hu1=>?_⟩
  have s2:=Same.upd (o:=.tup [V.ref tc]) hu1
  refine ⟨ac,u1,xc,_,rfl,rfl,s2 _ _ B.rc.e,ao,by simp,by rw [B.rc.l,sizeLine_eq];show _+1<=_;lia,fun c H3 s3 ec=>⟨_,rfl,_,rfl,(by show 3<=sizeLine;decide),fun tn htn=>?_⟩⟩
  have s13:=s2.trans s3
  have sN:=s13.trans (Same.upd (o:=.tup [V.ref c,V.ref ap,V.ref as_]) htn)
  have rc:=fW ((B.rc.same s2).same s3) (s13 _ _ (s1 _ _ etc)) ec
  have un3:=Same.upd (o:=.tup [V.ref c,V.ref ap,V.ref as_]) htn
  have bN:BookAt (upd H3 tn (.tup [V.ref c,V.ref ap,V.ref as_])) tn c (xc++[V.ref tc]) (S.cs++[r]) ap xp S.ps as_ xs S.ss:=⟨ao,rc.same un3,fun r' hr'=>by
   rcases zA6.mp hr' with z | z
   ·exact B.okc r' z
   ·rw [List.mem_singleton.mp z]
    exact ⟨okr.1,fun x hx=>(okr.2 x hx).1⟩,by rw [zA2];show S.cs.length+1<=20;lia,B.rp.same sN,B.lp,B.okp,B.rs.same sN,B.ls,B.h5,B.un⟩
  have kN:=k1.same sN
  have elN:=kN.el
  generalize upd H3 tn (.tup [V.ref c,V.ref ap,V.ref as_])=HN at bN kN elN sN ⊢
  refine ⟨l,_,.ref tn,rfl,rfl,elN,by rw [zA1,zA2,sizeLine_eq];show ts.length+1 < _;lia,?_⟩
  rw [show (ts++[t]).map V.ref++[V.ref tn]=(ts++[t]++[tn]).map V.ref by rw [zA4 (l₁:=ts++[t])];rfl]
  obtain ⟨kt,kp⟩:=wK (p:=p) (C:=C) (o:=.lst ((ts++[t]++[tn]).map V.ref)) elN
  exact q .non tn _ (fun b o n e=>by rw [aD n];exact sN _ _ (s1 _ _ e)) (kN.snoc kt kp ao (Bk.keep ⟨_,_,_,_,_,_,bN⟩ kt))
theorem scP:FnScope ["self","promise","clips","promises","sales"] ["self","promise"] (aJ kP):=⟨rfl,rfl,rfl,by decide +kernel,rfl,by decide +kernel,by decide +kernel⟩
theorem yl {f:Addr}{fd:FuncData}(F:Fun K "pledge" "Keeper.pledge" kP f fd)(X:Txt K C)(T:Mg mg)(N:Nums mg)(c1:Cal P w K mg base 3 "is_promise" ["thing"] (spT gQ))(c2:gw P w K mg base C 1 "book_now" ["self"] (nW C))(c3:Cal P w K mg base 1 "refuse_one_more" ["rows","most"] rF):FnOk P w K mg base CX0 4 f fd ["self","promise"] (gA C jB jC):=by
 refine F.ok scP (fun vs H Q E h=>?_) (fun cdv A outer s H vs Q E hr h=>?_)
 ·obtain ⟨p,l,ts,t,Ss,S,tc,r,rfl,_⟩:=h
  rfl
 ·obtain ⟨p,l,ts,t,Ss,S,tc,r,rfl,k,lts,etc,⟨okr,lok⟩,q⟩:=h
  obtain ⟨t1,e1⟩:=N.proms
  refine K74P.ok_b (aP ⟨cu (bY (cN (aK c1 hr (by decide) rfl (az (pv 1) aj)))) (aH dz) bh⟩
   (aP ⟨cB (cR c2 X.cl hr (by decide) (pv 0)) (bU rfl (aq (au (i:=2) scP.nd rfl (Or.inl rfl)) (aq (au (i:=3) scP.nd rfl (Or.inl rfl)) (aq (au (i:=4) scP.nd rfl (Or.inl rfl)) aY))))⟩
   (aP ⟨bA (aK c3 hr (by decide) rfl (az (pv 3) (az (bR (v:=.int 10) rfl e1 ⟨_,rfl⟩) aj)))⟩
   (aP ⟨bA (j8 PySem.F.plainAttrs_list PySem.F.slot_list_append PySem.F.type_list_append di (jF (pv 0) rfl) (az (bH (az (pv 2) (az (aV jy (pv 3) (bH (az (pv 1) aj))) (az (pv 4) aj)))) aj))⟩ (cZ (mW ⟨aO bj rfl T.len PySem.boot_len (az (pv 3) aj)⟩)))))) ?_
  refine aG ?_
  refine ⟨_,rfl,fun _=>False,.ref tc,bw r,rfl,.tup etc (IsThs.ints r),vf (n:=6) (by rw [okr.1];decide) (by decide),fun H1 s1=>⟨_,rfl,?_⟩⟩
  rw [An okr]
  refine bD ?_
  refine cz ?_
  dsimp only
  have k1:=k.same s1
  obtain ⟨dx,hp⟩:=k1.ob
  obtain ⟨ac,xc,ap,xp,as_,xs,B⟩:=k1.last
  refine aG ?_
  refine ⟨_,rfl,p,dx,_,rfl,hp,dO rfl,p,l,ts,t,Ss,S,rfl,k1,t,_,rfl,SqT.of B.e,rfl,_,_,rfl,_,_,rfl,_,_,rfl,rfl,?_⟩
  dsimp only
  refine aG ?_
  refine ⟨_,rfl,ap,xp,10,rfl,B.rp.e,by rw [B.rp.l];lia,?_⟩
  dsimp only
  refine aG ?_
  refine ⟨_,rfl,p,C,dx,_,_,rfl,hp,X.cl,X.nS,eV,.inl ⟨rfl,_,SqL.of k1.el⟩,_,rfl,_,rfl,_,rfl,(by show 1<=sizeLine;decide),fun u1 hu1=>?_⟩
  have s2:=Same.upd (o:=.tup [V.ref tc]) hu1
  refine ⟨ap,u1,xp,_,rfl,rfl,s2 _ _ B.rp.e,ao,by simp,by rw [B.rp.l,sizeLine_eq];show _+1<=_;lia,fun c H3 s3 ec=>⟨_,rfl,(by show 3<=sizeLine;decide),fun tn htn=>?_⟩⟩
  have s13:=s2.trans s3
  have sN:=s13.trans (Same.upd (o:=.tup [V.ref ac,V.ref c,V.ref as_]) htn)
  have rc:=fW ((B.rp.same s2).same s3) (s13 _ _ (s1 _ _ etc)) ec
  have un3:=Same.upd (o:=.tup [V.ref ac,V.ref c,V.ref as_]) htn
  have bN:BookAt (upd H3 tn (.tup [V.ref ac,V.ref c,V.ref as_])) tn ac xc S.cs c (xp++[V.ref tc]) (S.ps++[r]) as_ xs S.ss:=⟨ao,B.rc.same sN,B.okc,B.lc,rc.same un3,by rw [zA2];show S.ps.length+1<=10;lia,fun r' hr'=>by
   rcases zA6.mp hr' with z | z
   ·exact B.okp r' z
   ·rw [List.mem_singleton.mp z]
    exact okr,B.rs.same sN,B.ls,B.h5,CP B.un⟩
  have kN:=k1.same sN
  have elN:=kN.el
  have ep:=sN _ _ B.rp.e
  generalize upd H3 tn (.tup [V.ref ac,V.ref c,V.ref as_])=HN at bN kN elN sN ep ⊢
  refine ⟨l,_,.ref tn,rfl,rfl,elN,by rw [zA1,zA2,sizeLine_eq];show ts.length+1 < _;lia,?_⟩
  rw [show (ts++[t]).map V.ref++[V.ref tn]=(ts++[t]++[tn]).map V.ref by rw [zA4 (l₁:=ts++[t])];rfl]
  obtain ⟨kt,kp⟩:=wK (p:=p) (C:=C) (o:=.lst ((ts++[t]++[tn]).map V.ref)) elN
  dsimp only
  refine ⟨_,rfl,ap,xp,rfl,.inr (SqT.of (kt _ _ ep)),?_⟩
  exact q _ tn _ (fun b o n e=>by rw [aD n];exact sN _ _ (s1 _ _ e)) (kN.snoc kt kp ao (Bk.keep ⟨_,_,_,_,_,_,bN⟩ kt))
theorem scL:FnScope ["self","sale","clips","promises","sales"] ["self","sale"] (aJ kL):=⟨rfl,rfl,rfl,by decide +kernel,rfl,by decide +kernel,by decide +kernel⟩
theorem Aq {f:Addr}{fd:FuncData}(F:Fun K "sell" "Keeper.sell" kL f fd)(X:Txt K C)(N:MS mg)(c1:Cal P w K mg base 2 "are_wholes" ["thing","many"] (yZ bu))(c4:Cal P w K mg base 2 "sale_holds" ["promises","ahead","sale"] qQ)(c2:gw P w K mg base C 1 "book_now" ["self"] (nW C))(c3:Cal P w K mg base 1 "refuse_one_more" ["rows","most"] rF):FnOk P w K mg base CX0 4 f fd ["self","sale"] (gA C v8 vd):=by
 refine F.ok scL (fun vs H Q E h=>?_) (fun cdv A outer s H vs Q E hr h=>?_)
 ·obtain ⟨p,l,ts,t,Ss,S,tc,r,rfl,_⟩:=h
  rfl
 ·obtain ⟨p,l,ts,t,Ss,S,tc,r,rfl,k1,lts,etc,⟨r5,lok,hh⟩,q⟩:=h
  obtain ⟨t1,e1⟩:=N.sales
  refine K74P.ok_b (aP ⟨cB (cR c2 X.cl hr (by decide) (pv 0)) (bU rfl (aq (au (i:=2) scL.nd rfl (Or.inl rfl)) (aq (au (i:=3) scL.nd rfl (Or.inl rfl)) (aq (au (i:=4) scL.nd rfl (Or.inl rfl)) aY))))⟩
   (aP ⟨bA (aK c3 hr (by decide) rfl (az (pv 4) (az (bR (v:=.int 12) rfl e1 ⟨_,rfl⟩) aj)))⟩
   (aP ⟨cu (PW.pt (oV (bY (cN (aK c1 hr (by decide) rfl (az (pv 1) (az aA aj))))) (ql (bY (cN (aK c4 hr (by decide) rfl (az (pv 3) (az (pv 4) (az (pv 1) aj))))))))) (aH dz) bh⟩
   (cZ ⟨bA (j8 PySem.F.plainAttrs_list PySem.F.slot_list_append PySem.F.type_list_append di (jF (pv 0) rfl) (az (bH (az (pv 2) (az (pv 3) (az (aV jy (pv 4) (bH (az (pv 1) aj))) aj)))) aj))⟩)))) ?_
  obtain ⟨dx,hp⟩:=k1.ob
  obtain ⟨ac,xc,ap,xp,as_,xs,B⟩:=k1.last
  refine aG ?_
  refine ⟨_,rfl,p,dx,_,rfl,hp,dO rfl,p,l,ts,t,Ss,S,rfl,k1,t,_,rfl,SqT.of B.e,rfl,_,_,rfl,_,_,rfl,_,_,rfl,rfl,?_⟩
  dsimp only
  refine aG ?_
  refine ⟨_,rfl,as_,xs,12,rfl,B.rs.e,by rw [B.rs.l];lia,?_⟩
  dsimp only
  refine aG ?_
  refine ⟨_,rfl,fun _=>False,.ref tc,bw r,5,rfl,.tup etc (IsThs.ints r),vf (n:=5) (by rw [r5];decide) (by decide),fun H1 s1=>⟨_,rfl,?_⟩⟩
  rw [show bu (bw r) 5=true from eU r5]
  refine bD ?_
  refine ⟨_,rfl,_,rfl,_,rfl,ap,xp,S.ps,as_,xs,S.ss,tc,r,rfl,B.rp.same s1,B.okp,B.rs.same s1,B.ls,wF B.un B.h5,s1 _ _ etc,r5,fun H2 s2=>⟨_,rfl,?_⟩⟩
  rw [hh]
  refine bD ?_
  refine cz ?_
  dsimp only
  have s12:=s1.trans s2
  have k2:=k1.same s12
  have B:=B.same s12
  have hp:=s12 _ _ hp
  refine ⟨_,rfl,p,C,dx,_,_,rfl,hp,X.cl,X.nS,eV,.inl ⟨rfl,_,SqL.of k2.el⟩,_,rfl,_,rfl,_,rfl,_,rfl,(by show 1<=sizeLine;decide),fun u1 hu1=>?_⟩
  have s4:=Same.upd (o:=.tup [V.ref tc]) hu1
  refine ⟨as_,u1,xs,_,rfl,rfl,s4 _ _ B.rs.e,ao,by simp,by rw [B.rs.l,sizeLine_eq];show _+1<=_;lia,fun c H3 s3 ec=>⟨(by show 3<=sizeLine;decide),fun tn htn=>?_⟩⟩
  have s13:=s4.trans s3
  have un3:=Same.upd (o:=.tup [V.ref ac,V.ref ap,V.ref c]) htn
  have sN:=s13.trans un3
  have rc:=fW ((B.rs.same s4).same s3) (s13 _ _ (s12 _ _ etc)) ec
  have bN:BookAt (upd H3 tn (.tup [V.ref ac,V.ref ap,V.ref c])) tn ac xc S.cs ap xp S.ps c (xs++[V.ref tc]) (S.ss++[r]):=⟨ao,B.rc.same sN,B.okc,B.lc,B.rp.same sN,B.lp,B.okp,rc.same un3,by rw [zA2];show S.ss.length+1<=12;lia,fun r' hr'=>by
   rcases zA6.mp hr' with z | z
   ·exact B.h5 r' z
   ·rw [List.mem_singleton.mp z]
    exact r5,CQ B.un hh⟩
  have kN:=k2.same sN
  have elN:=kN.el
  generalize upd H3 tn (.tup [V.ref ac,V.ref ap,V.ref c])=HN at bN kN elN sN ⊢
  refine ⟨l,_,.ref tn,rfl,rfl,elN,by rw [zA1,zA2,sizeLine_eq];show ts.length+1 < _;lia,?_⟩
  rw [show (ts++[t]).map V.ref++[V.ref tn]=(ts++[t]++[tn]).map V.ref by rw [zA4 (l₁:=ts++[t])];rfl]
  obtain ⟨kt,kp⟩:=wK (p:=p) (C:=C) (o:=.lst ((ts++[t]++[tn]).map V.ref)) elN
  exact q .non tn _ (fun b o n e=>by rw [aD n];exact sN _ _ (s12 _ _ e)) (kN.snoc kt kp ao (Bk.keep ⟨_,_,_,_,_,_,bN⟩ kt))
theorem scU:FnScope ["self"] ["self"] (aJ kU):=⟨rfl,rfl,rfl,by decide +kernel,rfl,by decide +kernel,by decide +kernel⟩
theorem CW {f:Addr}{fd:FuncData}(F:Fun K "undo" "Keeper.undo" kU f fd)(X:Txt K C)(T:Mg mg):FnOk P w K mg base CX0 1 f fd ["self"] (Am C):=by
 refine F.ok scU (fun vs H Q E h=>?_) (fun cdv A outer s H vs Q E hr h=>?_)
 ·obtain ⟨p,l,ts,t,Ss,S,rfl,_⟩:=h
  rfl
 ·obtain ⟨p,l,ts,t,Ss,S,rfl,k,hne,q⟩:=h
  obtain ⟨dx,hp⟩:=k.ob
  refine ⟨_,aB (cu (bJ mj (aO bj rfl T.len PySem.boot_len (aQ (jF (pv 0) rfl) aj)) aA (bI _)) (aH dz) bh) (aH (bA (Ej PySem.F.plainAttrs_list PySem.F.slot_list_pop PySem.F.type_list_pop Ek (jF (pv 0) rfl)))),?_⟩
  have hl:1<=ts.length:=List.length_pos_iff.mpr hne
  refine aG ?_
  refine ⟨_,rfl,p,C,dx,_,_,rfl,hp,X.cl,X.nS,eV,l,_,rfl,.inl (SqL.of k.el),rfl,_,rfl,?_⟩
  rw [decide_eq_false (fun z=>by
   injection z with z
   rw [zA1,zA2] at z
   have:ts.length+1=1:=by exact_mod_cast z
   lia)]
  refine bD ?_
  refine cz ?_
  dsimp only
  refine ⟨_,rfl,p,C,dx,_,_,rfl,hp,X.cl,X.nS,eV,.inl ⟨rfl,_,SqL.of k.el⟩,l,_,.ref t,rfl,rfl,k.el,?_,?_⟩
  ·rw [zA1,zA2,zAb]
   show ((ts++[t])[ts.length+1 - 1]?).map V.ref=_
   rw [Nat.add_sub_cancel,List.getElem?_append_right (zA3 _),Nat.sub_self]
   rfl
  ·rw [show ((ts++[t]).map V.ref).dropLast=ts.map V.ref by rw [zA4];exact List.dropLast_concat]
   obtain ⟨kt,kp⟩:=wK (p:=p) (C:=C) (o:=.lst (ts.map V.ref)) k.el
   exact q _ (fun b o n e=>by rw [aD n];exact e) (k.pop kt kp ao)
end
end K74

namespace K74
open PySem L2
inductive SpGOI (C:Addr)(vs:List V)(H:Hp)(Q:VK):Prop
 | mk:∀ p l ts t Ss S y,(vs=[.ref p,.int y])->(KpAt C H p l (ts++[t]) (Ss++[S]))->(0<=y)->(y < S.cs.length)->(∀ g xg H',Same H H'->H' g=some (.lst xg)->Els H' xg (srt (uX S.cs S.ps S.ss y.toNat).g)->Q (.ref g) H')->SpGOI C vs H Q
def Hs (C:Addr):Sp:=fun vs H Q _=>SpGOI C vs H Q
inductive SpONI (C:Addr)(vs:List V)(H:Hp)(Q:VK):Prop
 | mk:∀ p l ts t Ss S,(vs=[.ref p])->(KpAt C H p l (ts++[t]) (Ss++[S]))->(1<=S.cs.length)->(∀ k xk H',Same H H'->H' k=some (.lst xk)->Els H' xk (iC S.cs S.ps S.ss S.cs.length)->Q (.ref k) H')->SpONI C vs H Q
def Fp (C:Addr):Sp:=fun vs H Q _=>SpONI C vs H Q
inductive SpLNI (C:Addr)(vs:List V)(H:Hp)(Q:VK):Prop
 | mk:∀ p l ts t Ss S,(vs=[.ref p])->(KpAt C H p l (ts++[t]) (Ss++[S]))->(1<=S.cs.length)->(∀ H',Same H H'->Q (.int (dG (iC S.cs S.ps S.ss S.cs.length))) H')->SpLNI C vs H Q
def Ht (C:Addr):Sp:=fun vs H Q _=>SpLNI C vs H Q
section
variable {P:Program}{w:World}{K:PySem.W.Frag}{mg:Str->Option Value}{base:Heap}{C:Addr}
theorem scG:FnScope ["self","year","book"] ["self","year"] (aJ kG):=⟨rfl,rfl,rfl,by decide +kernel,rfl,by decide +kernel,by decide +kernel⟩
theorem vg {f:Addr}{fd:FuncData}(F:Fun K "gifts_of" "Keeper.gifts_of" kG f fd)(X:Txt K C)(c2:gw P w K mg base C 1 "book_now" ["self"] (nW C))(c3:Cal P w K mg base 3 "refuse_no_year_of" ["clips","year"] uZ)(c4:Cal P w K mg base 11 "gifts_by_year" ["book"] Dw):FnOk P w K mg base CX0 12 f fd ["self","year"] (Hs C):=by
 refine F.ok scG (fun vs H Q E h=>?_) (fun cdv A outer s H vs Q E hr h=>?_)
 ·obtain ⟨p,l,ts,t,Ss,S,y,rfl,_⟩:=h
  rfl
 ·obtain ⟨p,l,ts,t,Ss,S,y,rfl,k,y0,y1,q⟩:=h
  obtain ⟨dx,hp⟩:=k.ob
  have b:=k.last
  obtain ⟨ac,xc,ap,xp,as_,xs,B⟩:=id b
  refine ⟨_,aB (bf (i:=2) scG.nd rfl (Or.inl rfl) (cR c2 X.cl hr (by decide) (pv 0)))
   (aB (bA (aK c3 hr (by decide) rfl (az (aZ bG (pv 2) aA (fun _ _=>rfl)) (az (pv 1) aj))))
   (aH (aU (aZ bF (aK c4 hr (by decide) rfl (az (pv 2) aj)) (pv 1) (fun _ _=>rfl))))),?_⟩
  refine aG ?_
  refine aX ?_
  refine ⟨_,rfl,p,dx,_,rfl,hp,dO rfl,p,l,ts,t,Ss,S,rfl,k,aM ?_⟩
  dsimp only
  refine aG ?_
  refine ⟨_,rfl,t,_,0,.ref ac,rfl,rfl,SqT.of B.e,rfl,_,rfl,ac,xc,S.cs,y,rfl,B.rc,y0,y1,fun H1 s1=>?_⟩
  dsimp only
  refine ⟨_,rfl,t,S.cs,S.ps,S.ss,rfl,b.same s1,by lia,fun lg gs H2 s2 el lg' hg=>?_⟩
  have hy:y.toNat < gs.length:=by lia
  obtain ⟨xg,e1,e2⟩:=hg y.toNat gs[y.toNat] (zA0 hy)
  have hat:atI (gs.map V.ref) y=some (.ref gs[y.toNat]):=by
   have:(gs.map V.ref)[y.toNat]?=some (.ref gs[y.toNat]):=by rw [zAb,zA0 hy];rfl
   have:=gh this
   rw [show ((y.toNat:Nat):Int)=y by lia] at this
   exact this
  exact ⟨_,rfl,lg,_,y,.ref gs[y.toNat],rfl,rfl,SqL.of el,hat,q _ xg H2 (s1.trans s2) e1 e2⟩
theorem scO:FnScope ["self","book"] ["self"] (aJ kO):=⟨rfl,rfl,rfl,by decide +kernel,rfl,by decide +kernel,by decide +kernel⟩
theorem vh {f:Addr}{fd:FuncData}(F:Fun K "owed_now" "Keeper.owed_now" kO f fd)(X:Txt K C)(T:Mg mg)(c2:gw P w K mg base C 1 "book_now" ["self"] (nW C))(c3:Cal P w K mg base 11 "owed_behind" ["book","year"] (CG qd)):FnOk P w K mg base CX0 12 f fd ["self"] (Fp C):=by
 refine F.ok scO (fun vs H Q E h=>?_) (fun cdv A outer s H vs Q E hr h=>?_)
 ·obtain ⟨p,l,ts,t,Ss,S,rfl,_⟩:=h
  rfl
 ·obtain ⟨p,l,ts,t,Ss,S,rfl,k,l1,q⟩:=h
  obtain ⟨dx,hp⟩:=k.ob
  obtain ⟨ac,xc,ap,xp,as_,xs,B⟩:=k.last
  refine ⟨_,aB (bf (i:=1) scO.nd rfl (Or.inl rfl) (cR c2 X.cl hr (by decide) (pv 0)))
   (aH (aU (j5 (yF (aZ bG (pv 1) aA (fun _ _=>rfl)) (fun _=>rfl)) (aK c3 hr (by decide) rfl (az (pv 1) (az (aV dW (aO bj rfl T.len PySem.boot_len (az (aZ bG (pv 1) aA (fun _ _=>rfl)) aj)) aA) aj))) (cC aj)))),?_⟩
  refine aG ?_
  refine aX ?_
  refine ⟨_,rfl,p,dx,_,rfl,hp,dO rfl,p,l,ts,t,Ss,S,rfl,k,aM ?_⟩
  dsimp only
  have lcx:=B.rc.l
  refine ⟨_,rfl,t,_,0,.ref ac,rfl,rfl,SqT.of B.e,rfl,true,?_,?_⟩
  ·refine .inr (.inl ⟨xc,SqT.of B.rc.e,?_⟩)
   cases xc with
   | nil=>rw [<- lcx] at l1;cases l1
   | cons=>rfl
  refine cj ?_
  refine ⟨_,rfl,_,rfl,t,_,0,.ref ac,rfl,rfl,SqT.of B.e,rfl,ac,xc,rfl,.inr (SqT.of B.rc.e),_,_,rfl,rfl,t,_,ac,xc,S.cs,ap,xp,S.ps,as_,xs,S.ss,rfl,B,by lia,by lia,fun kk xk H2 s2 nk nks ek elk=>?_⟩
  have e:((xc.length:Int) - 1).toNat+1=S.cs.length:=by lia
  rw [e] at elk
  exact q kk xk H2 s2 ek elk
theorem scK:FnScope ["self"] ["self"] (aJ kK):=⟨rfl,rfl,rfl,by decide +kernel,rfl,by decide +kernel,by decide +kernel⟩
theorem vm {f:Addr}{fd:FuncData}(F:Fun K "lack_now" "Keeper.lack_now" kK f fd)(X:Txt K C)(c2:gw P w K mg base C 12 "owed_now" ["self"] (Fp C))(c3:Cal P w K mg base 1 "sacks_of" ["rows"] lM):FnOk P w K mg base CX0 13 f fd ["self"] (Ht C):=by
 refine F.ok scK (fun vs H Q E h=>?_) (fun cdv A outer s H vs Q E hr h=>?_)
 ·obtain ⟨p,l,ts,t,Ss,S,rfl,_⟩:=h
  rfl
 ·obtain ⟨p,l,ts,t,Ss,S,rfl,k,l1,q⟩:=h
  obtain ⟨dx,hp⟩:=k.ob
  obtain ⟨ac,xc,ap,xp,as_,xs,B⟩:=k.last
  refine ⟨_,aH (aU (aK c3 hr (by decide) rfl (aQ (cR c2 X.cl hr (by decide) (pv 0)) aj))),?_⟩
  obtain ⟨oko,lno⟩:=wG (cs:=S.cs) B.lp B.un B.h5 B.okp S.cs.length
  refine ⟨_,rfl,p,dx,_,rfl,hp,dO rfl,p,l,ts,t,Ss,S,rfl,k,l1,fun kk xk H2 s2 ek elk=>⟨kk,xk,_,rfl,ek,elk,fun r hr=>(oko r hr).1,by have:=B.lc;lia,fun H3 s3=>q H3 (s2.trans s3)⟩⟩
end
end K74

namespace L2
open PySem PySem.Spec PyProof.Rows PySem.SeqAt
theorem Ar {X:Cx}{S:Addr->Prop}(hu:X.A.units+64 < cLine):OpR X (compareOp .NotEq) (fun x y H Q=>∃ d,IsTh S H x d/\IsTh S H y d/\shaped d=true/\noMix d d=true/\Q (.bl false) H):=by
 intro pins s σ H x y v u Q I rx ry h
 obtain ⟨d,t1,t2,sh,nm,q⟩:=h
 obtain ⟨as,r1,_⟩:=t1.reads I rx
 obtain ⟨bs,r2,_⟩:=t2.reads I ry
 refine ne_dataH_same r1 r2 sh sh hu nm ⟨.bl false,H,I,?_,q⟩
 rw [Spec.same_self]
 rfl
theorem nY:∀ ns:List Int,PyData.canLayAll0 (ns.map PyData.int)=true
 | []=>rfl
 | _::r=>by simp [PyData.canLayAll0,PyData.canLay0,nY r]
theorem ud:∀ ns:List Int,noMixAll (ns.map PyData.int) (ns.map PyData.int)=true
 | []=>rfl
 | _::r=>by simp [noMixAll,noMix,ud r]
theorem ue:∀ ns:List Int,PyData.depthAll (ns.map PyData.int)=0
 | []=>rfl
 | _::r=>by simp [PyData.depthAll,PyData.depth,ue r]
end L2

namespace K74
open PySem L2
def wd:Nat->Str
 | 0=>"shear"
 | 1=>"pledge"
 | _=>"sell"
def okD:Nat->St3->List Int->Prop
 | 0=>lO
 | 1=>jB
 | _=>v8
def nxD:Nat->St3->List Int->St3
 | 0=>lQ
 | 1=>jC
 | _=>vd
inductive SpDoI (C:Addr)(vs:List V)(H:Hp)(Q:VK):Prop
 | mk:∀ p l ts t Ss S td tc r,∀ k:Nat,(vs=[.ref p,.ref td])->(k < 3)->(KpAt C H p l (ts++[t]) (Ss++[S]))->(ts.length<=100)->(H td=some (.tup [.str (wd k),.ref tc]))->(H tc=some (.tup (r.map V.int)))->(okD k S r)->(∀ v t' H',(∀ b o,b≠l->H b=some o->H' b=some o)->KpAt C H' p l (ts++[t]++[t']) (Ss++[S]++[nxD k S r])->Q v H')->SpDoI C vs H Q
def Hu (C:Addr):Sp:=fun vs H Q _=>SpDoI C vs H Q
theorem Av {X:Cx}{S:Addr->Prop}(hu:X.A.units+64 < cLine):OpR X (compareOp .NotEq) (fun x y H Q=>∃ d e,IsTh S H x d/\IsTh S H y e/\PySem.SeqAt.shaped d=true/\PySem.SeqAt.shaped e=true/\PySem.SeqAt.noMix d e=true/\Q (.bl (!Spec.same d e)) H):=by
 intro pins s σ H x y v u Q I rx ry h
 obtain ⟨d,e,t1,t2,sh,sh2,nm,q⟩:=h
 obtain ⟨as,r1,_⟩:=t1.reads I rx
 obtain ⟨bs,r2,_⟩:=t2.reads I ry
 exact PyProof.Rows.ne_dataH_same r1 r2 sh sh2 hu nm ⟨.bl _,H,I,rfl,q⟩
theorem Fq {X:Cx}{S:Addr->Prop}(hu:X.A.units+64 < cLine):OpR X (compareOp .Eq) (fun x y H Q=>∃ d,IsTh S H x d/\IsTh S H y d/\PySem.SeqAt.shaped d=true/\PySem.SeqAt.noMix d d=true/\Q (.bl true) H):=by
 intro pins s σ H x y v u Q I rx ry h
 obtain ⟨d,t1,t2,sh,nm,q⟩:=h
 obtain ⟨as,r1,_⟩:=t1.reads I rx
 obtain ⟨bs,r2,_⟩:=t2.reads I ry
 refine PyProof.Rows.eq_dataH_same r1 r2 sh sh hu nm ⟨.bl true,H,I,?_,q⟩
 rw [Spec.same_self]
 rfl
theorem ie:∀ rs:List (List Int),PyData.canLayAll0 (rs.map bw)=true
 | []=>rfl
 | r::rs=>by simp [PyData.canLayAll0,PyData.canLay0,bw,nY r,ie rs]
theorem jD:∀ rs:List (List Int),PySem.SeqAt.noMixAll (rs.map bw) (rs.map bw)=true
 | []=>rfl
 | r::rs=>by simp [PySem.SeqAt.noMixAll,PySem.SeqAt.noMix,bw,ud r,jD rs]
theorem wL (rs:List (List Int)):PySem.SeqAt.shaped (.list (rs.map bw))=true:=by
 show (PyData.canLayAll0 (rs.map bw) && decide (PyData.depthAll (rs.map bw)+1<=64))=true
 rw [ie,decide_eq_true (by have:=fc rs;lia)]
 rfl
theorem CZ (cs ps ss:List (List Int)):PySem.SeqAt.shaped (.tuple [bx cs,bx ps,bx ss])=true:=by
 show ((PyData.canLayAll0 (cs.map bw) && (PyData.canLayAll0 (ps.map bw) && (PyData.canLayAll0 (ss.map bw) && true))) && decide (max (PyData.depthAll (cs.map bw)+1) (max (PyData.depthAll (ps.map bw)+1) (max (PyData.depthAll (ss.map bw)+1) 0))+1<=64))=true
 rw [ie,ie,ie,decide_eq_true (by have:=fc cs;have:=fc ps;have:=fc ss;lia)]
 rfl
theorem Aw (cs ps ss:List (List Int)):PySem.SeqAt.noMix (.tuple [bx cs,bx ps,bx ss]) (.tuple [bx cs,bx ps,bx ss])=true:=by
 simp [PySem.SeqAt.noMix,PySem.SeqAt.noMixAll,bx,jD]
theorem uf {A:Around}{k:Nat}(hr:Room k A):A.units+64 < cLine:=by
 have:=hr.un
 lia
def fG (k:Nat)(r:List Int):PyData:=.tuple [.str (wd k),bw r]
theorem Hv (k:Nat):PyData.strOk (wd k)=true:=by
 match k with
 | 0=>decide +kernel
 | 1=>decide +kernel
 | k+2=>exact (by decide +kernel:PyData.strOk ("sell" : Str)=true)
theorem jX:∀ ds:List (Nat×List Int),PyData.canLayAll0 (ds.map fun d=>fG d.1 d.2)=true/\PyData.depthAll (ds.map fun d=>fG d.1 d.2)<=2
 | []=>⟨rfl,zAp _⟩
 | d::ds=>by
  obtain ⟨a,b⟩:=jX ds
  refine ⟨?_,?_⟩
  ·show ((PyData.strOk (wd d.1) && (PyData.canLayAll0 (d.2.map PyData.int) && true)) && PyData.canLayAll0 (ds.map fun d=>fG d.1 d.2))=true
   rw [Hv,nY,a]
   rfl
  ·show max (max 0 (max (PyData.depthAll (d.2.map PyData.int)+1) 0)+1) (PyData.depthAll (ds.map fun d=>fG d.1 d.2))<=2
   rw [ue]
   lia
theorem ug (ds:List (Nat×List Int)):PySem.SeqAt.shaped (.list (ds.map fun d=>fG d.1 d.2))=true:=by
 show (PyData.canLayAll0 (ds.map fun d=>fG d.1 d.2) && decide (PyData.depthAll (ds.map fun d=>fG d.1 d.2)+1<=64))=true
 rw [(jX ds).1,decide_eq_true (by have:=(jX ds).2;lia)]
 rfl
theorem wM (ds:List PyData):PySem.SeqAt.noMix (.list ds) (.list [])=true:=by
 cases ds <;> simp [PySem.SeqAt.noMix,PySem.SeqAt.noMixAll]
theorem uh (ds:List PyData):Spec.same (.list ds) (.list [])=ds.isEmpty:=by
 cases ds <;> simp [Spec.same,Spec.sameAll]
def Dls (H:Hp)(xs:List V)(ds:List (Nat×List Int)):Prop:=xs.length=ds.length/\∀ (i:Nat) d,ds[i]?=some d->∃ td tc,xs[i]?=some (V.ref td)/\H td=some (.tup [.str (wd d.1),.ref tc])/\H tc=some (.tup (d.2.map V.int))
theorem Dls.keep {H H':Hp}{xs:List V}{ds:List (Nat×List Int)}(h:Dls H xs ds)(k:∀ b l,H b=some (.tup l)->H' b=some (.tup l)):Dls H' xs ds :=
 ⟨h.1,fun i d e=>by
  obtain ⟨td,tc,a,b,c⟩:=h.2 i d e
  exact ⟨td,tc,a,k _ _ b,k _ _ c⟩⟩
theorem Dls.same {H H':Hp}{xs:List V}{ds:List (Nat×List Int)}(h:Dls H xs ds)(s:Same H H'):Dls H' xs ds:=h.keep fun _ _ e=>s _ _ e
theorem Dls.tail {H:Hp}{x:V}{xs:List V}{d:Nat×List Int}{ds:List (Nat×List Int)}(h:Dls H (x::xs) (d::ds)):Dls H xs ds :=
 ⟨by have:=h.1;simpa using this,fun i e ei=>by
  have:=h.2 (i+1) e (by rw [List.getElem?_cons_succ];exact ei)
  rw [List.getElem?_cons_succ] at this
  exact this⟩
theorem Dls.app {H:Hp}{xs ys:List V}{ds es:List (Nat×List Int)}(h:Dls H xs ds)(g:Dls H ys es):Dls H (xs++ys) (ds++es):=by
 refine ⟨by rw [zA2,zA2,h.1,g.1],fun i d e=>?_⟩
 have:=h.1
 by_cases hi:i < ds.length
 ·rw [List.getElem?_append_left hi] at e
  rw [List.getElem?_append_left (by lia)]
  exact h.2 i d e
 ·rw [List.getElem?_append_right (by lia)] at e
  rw [List.getElem?_append_right (by lia),this]
  exact g.2 _ d e
theorem Dls.ths {S:Addr->Prop}{H:Hp}:∀ {xs:List V} {ds:List (Nat×List Int)},Dls H xs ds->IsThs S H xs (ds.map fun d=>fG d.1 d.2)
 | [],[],_=>.nil
 | [],_::_,h=>by have:=h.1;simp at this
 | _::_,[],h=>by have:=h.1;simp at this
 | x::xs,d::ds,h=>by
  obtain ⟨td,tc,a,b,c⟩:=h.2 0 d rfl
  rw [List.getElem?_cons_zero] at a
  cases a
  exact .cons (.tup b (.cons (.str _) (.cons (.tup c (IsThs.ints _)) .nil))) h.tail.ths
section
variable {P:Program}{w:World}{K:PySem.W.Frag}{mg:Str->Option Value}{base:Heap}{C:Addr}
theorem scD:FnScope ["_law_keeper","_law_deed"] ["_law_keeper","_law_deed"] (aJ (top 81)):=⟨rfl,rfl,rfl,by decide +kernel,rfl,by decide +kernel,by decide +kernel⟩
theorem Hw {f:Addr}{fd:FuncData}(F:Fun K "_law_do" "_law_do" (top 81) f fd)(X:Txt K C)(c1:gw P w K mg base C 4 "shear" ["self","clip"] (gA C lO lQ))(c2:gw P w K mg base C 4 "pledge" ["self","promise"] (gA C jB jC))(c3:gw P w K mg base C 4 "sell" ["self","sale"] (gA C v8 vd)):FnOk P w K mg base CX0 5 f fd ["_law_keeper","_law_deed"] (Hu C):=by
 refine F.ok scD (fun vs H Q E h=>?_) (fun cdv A outer s H vs Q E hr h=>?_)
 ·obtain ⟨p,l,ts,t,Ss,S,td,tc,r,k,rfl,_⟩:=h
  rfl
 ·obtain ⟨p,l,ts,t,Ss,S,td,tc,r,k,rfl,hk,kp,lts,etd,etc,ok,q⟩:=h
  obtain ⟨dx,hp⟩:=kp.ob
  refine K74P.ok_b (aP ⟨cu (bJ mj (aZ bG (pv 1) aA (fun _ _=>rfl)) lU (bI _)) (aH (aU (iz c1 X.cl hr (by decide) (pv 0) (az (aZ bG (pv 1) aA (fun _ _=>rfl)) aj)))) bh⟩
   (cZ (mW ⟨j5 (bJ mj (aZ bG (pv 1) aA (fun _ _=>rfl)) lU (bI _)) (iz c2 X.cl hr (by decide) (pv 0) (az (aZ bG (pv 1) aA (fun _ _=>rfl)) aj)) (iz c3 X.cl hr (by decide) (pv 0) (az (aZ bG (pv 1) aA (fun _ _=>rfl)) aj))⟩))) ?_
  refine aG ?_
  have go:∀ {okk nx Q'},okk S r->(∀ v t' H',(∀ b o,b≠l->H b=some o->H' b=some o)->KpAt C H' p l (ts++[t]++[t']) (Ss++[S]++[nx S r])->Q' v H')->gA C okk nx [.ref p,.ref tc] H Q' E0:=fun h1 h2=>⟨p,l,ts,t,Ss,S,tc,r,rfl,kp,lts,etc,h1,h2⟩
  refine ⟨_,rfl,td,_,0,.str (wd k),rfl,rfl,SqT.of etd,rfl,rfl,_,rfl,?_⟩
  have:k=0\/k=1\/k=2:=by lia
  rcases this with rfl | rfl | rfl
  ·rw [decide_eq_true (show V.str (wd 0)=V.str "shear" from rfl)]
   exact cj ⟨_,rfl,p,dx,_,rfl,hp,dO rfl,_,rfl,td,_,1,.ref tc,rfl,rfl,SqT.of etd,rfl,go ok q⟩
  ·rw [decide_eq_false (show ¬ V.str (wd 1)=V.str "shear" by decide +kernel)]
   refine bD (cz ?_)
   dsimp only
   refine ⟨_,rfl,td,_,0,.str (wd 1),rfl,rfl,SqT.of etd,rfl,rfl,_,rfl,?_⟩
   rw [decide_eq_true (show V.str (wd 1)=V.str "pledge" from rfl)]
   exact cj ⟨_,rfl,p,dx,_,rfl,hp,dO rfl,_,rfl,td,_,1,.ref tc,rfl,rfl,SqT.of etd,rfl,go ok q⟩
  ·rw [decide_eq_false (show ¬ V.str (wd 2)=V.str "shear" by decide +kernel)]
   refine bD (cz ?_)
   dsimp only
   refine ⟨_,rfl,td,_,0,.str (wd 2),rfl,rfl,SqT.of etd,rfl,rfl,_,rfl,?_⟩
   rw [decide_eq_false (show ¬ V.str (wd 2)=V.str "pledge" by decide +kernel)]
   exact bD ⟨_,rfl,p,dx,_,rfl,hp,dO rfl,_,rfl,td,_,1,.ref tc,rfl,rfl,SqT.of etd,rfl,go ok q⟩
end
end K74

namespace K74
open PySem L2
section
variable (cs ps ss:List (List Int))
def dA:List (Nat×List Int):=cs.map fun r=>(0,r)
def dB:List (Nat×List Int):=(ps.map fun r=>(1,r))++ss.map fun r=>(2,r)
def stg (i j:Nat):St3:=⟨cs.take i,ps.take j,ss.take (j - ps.length)⟩
end
theorem nZ {ps ss:List (List Int)}:(dB ps ss).length=ps.length+ss.length:=by
 unfold dB
 rw [zA2,zA1,zA1]
theorem stA {cs ps ss:List (List Int)}{i j:Nat}(hi:i < cs.length)(lc:cs.length<=20)(okc:∀ r∈cs,okC r):(dA cs)[i]?=some (0,cs[i])/\okD 0 (stg cs ps ss i j) cs[i]/\nxD 0 (stg cs ps ss i j) cs[i]=stg cs ps ss (i+1) j:=by
 refine ⟨?_,⟨okc _ (zAh hi),?_⟩,?_⟩
 ·unfold dA
  rw [zAb,zA0 hi]
  rfl
 ·show (cs.take i).length < 20
  rw [zAd]
  lia
 ·show (⟨cs.take i++[cs[i]],_,_⟩:St3)=⟨cs.take (i+1),_,_⟩
  rw [zAj,zA0 hi]
  rfl
theorem stB {cs ps ss:List (List Int)}{i j:Nat}(hj:j < ps.length+ss.length)(lp:ps.length<=10)(okp:∀ r∈ps,okP r)(ls:ss.length<=12)(h5:∀ s∈ss,s.length=5)(hu:un ps ss=none):∃ k r,(dB ps ss)[j]?=some (k,r)/\k < 3/\okD k (stg cs ps ss i j) r/\nxD k (stg cs ps ss i j) r=stg cs ps ss i (j+1):=by
 by_cases h:j < ps.length
 ·refine ⟨1,ps[j],?_,by decide,⟨okp _ (zAh h),?_⟩,?_⟩
  ·unfold dB
   rw [List.getElem?_append_left (by rw [zA1];exact h),zAb,zA0 h]
   rfl
  ·show (ps.take j).length < 10
   rw [zAd]
   lia
  ·show (⟨_,ps.take j++[ps[j]],ss.take (j - ps.length)⟩:St3)=⟨_,ps.take (j+1),ss.take (j+1 - ps.length)⟩
   rw [zAj,zA0 h,show j - ps.length=0 by lia,show j+1 - ps.length=0 by lia]
   rfl
 ·have hk:j - ps.length < ss.length:=by lia
  have hh:=nJ hu _ hk
  rw [getD_get hk] at hh
  refine ⟨2,ss[j - ps.length],?_,by decide,⟨h5 _ (zAh hk),?_,?_⟩,?_⟩
  ·unfold dB
   rw [List.getElem?_append_right (by rw [zA1];lia),zA1,zAb,zA0 hk]
   rfl
  ·show (ss.take (j - ps.length)).length < 12
   rw [zAd]
   lia
  ·show cG (ps.take j) (ss.take (j - ps.length)) ss[j - ps.length]=true
   rw [List.take_of_length_le (by lia)]
   exact hh
  ·show (⟨_,ps.take j,ss.take (j - ps.length)++[ss[j - ps.length]]⟩:St3)=⟨_,ps.take (j+1),ss.take (j+1 - ps.length)⟩
   rw [List.take_of_length_le (l:=ps) (i:=j) (by lia),List.take_of_length_le (l:=ps) (i:=j+1) (by lia),show j+1 - ps.length=(j - ps.length)+1 by lia,zAj,zA0 hk]
   rfl
theorem j0 {K:PySem.W.Frag}{a:Addr}{xs:List V}{rs:List (List Int)}{k:Nat}{H0:Hp}{Fin:List V->Hp->Prop}(r:RowsAt H0 a xs rs)(hl:rs.length<=20)(fin:∀ ys H',Same H0 H'->Dls H' ys (rs.map fun r=>(k,r))->Fin ys H'):j9 (Itt K a) (bK 0) qz (Bg (kh (tC (.str (wd k))) (kh (wV 0) qw))) Fin [none] H0:=by
 refine dF rs.length (fun i ys σ Hc=>Same H0 Hc/\(∃ o1,σ=[o1])/\Dls Hc ys ((rs.take i).map fun r=>(k,r))) ⟨Same.refl _,⟨_,rfl⟩,rfl,fun i d e=>(by cases e)⟩ (by rw [sizeLine_eq];lia) ?_ ?_
 ·rintro i ys σ Hc hi hy ⟨sc,⟨o1,rfl⟩,dl⟩
  obtain ⟨t,ex,et⟩:=r.g i rs[i] (zA0 hi)
  refine ⟨⟨_,_,SqT.of (sc _ _ r.e),ex⟩,fun v H' y R hR=>?_⟩
  obtain ⟨rfl,y⟩:=y
  have hv:=y _ (SqT.of (sc _ _ r.e))
  rw [ex] at hv
  cases hv
  refine aM ?_
  refine ⟨_,rfl,(by show 2<=sizeLine;decide),fun td htd=>hR _ _ _ ⟨sc.updR htd,⟨_,rfl⟩,?_⟩⟩
  rw [zAj,zA0 hi,zA4]
  refine (dl.same (Same.upd htd)).app ⟨rfl,fun j d e=>?_⟩
  have hj:j=0:=by
   have:=(zAa.mp e).1
   simp at this
   lia
  subst hj
  cases e
  exact ⟨td,t,rfl,ao,Same.upd htd _ _ (sc _ _ et)⟩
 ·rintro ys σ Hc hy ⟨sc,_,dl⟩
  rw [zAm] at dl
  exact ⟨⟨_,SqT.of (sc _ _ r.e),by rw [r.l];exact zA3 _⟩,fin ys Hc sc dl⟩
theorem Hx {st g:Addr}{H:Hp}{xs:List V}(h0:dD H st)(e:H g=some (.lst xs))(h:∀ v∈xs,∃ t,v=V.ref t):g≠st:=fun z=>by
 obtain ⟨a,b,es,_⟩:=h0
 rw [z,es] at e
 cases e
 obtain ⟨t,e⟩:=h (.int a) (.head _)
 cases e
inductive SpFedI (C:Addr)(vs:List V)(H:Hp)(Q:VK):Prop
 | mk:∀ st p l t0 bk cs ps ss,(vs=[.ref st,.ref p,.ref bk])->(dD H st)->(KpAt C H p l [t0] [⟨[],[],[]⟩])->(Bk H bk cs ps ss)->((∀ r∈cs,okC r))->(∀ ts t Ss H',(∀ b o,b≠l->b≠st->H b=some o->H' b=some o)->dD H' st->KpAt C H' p l (ts++[t]) (Ss++[⟨cs,ps,ss⟩])->ts.length<=60->Q .non H')->SpFedI C vs H Q
def Dy (C:Addr):Sp:=fun vs H Q _=>SpFedI C vs H Q
section
variable {P:Program}{w:World}{K:PySem.W.Frag}{mg:Str->Option Value}{base:Heap}{C:Addr}
theorem J7:(["_law_clip"]:List Str).Nodup:=by decide +kernel
theorem J8:(["_law_promise"]:List Str).Nodup:=by decide +kernel
theorem J9:(["_law_sale"]:List Str).Nodup:=by decide +kernel
theorem scF:FnScope ["_law_state_here","_law_keeper","_law_book_here","_law_rows","_law_at","_law_deed"] ["_law_state_here","_law_keeper","_law_book_here"] (aJ (top 82)):=⟨rfl,rfl,rfl,by decide +kernel,rfl,by decide +kernel,by decide +kernel⟩
theorem Ft {f:Addr}{fd:FuncData}(F:Fun K "_law_fed" "_law_fed" (top 82) f fd)(c1:Cal P w K mg base 1 "_law_take" ["_law_state_here","_law_many"] jN)(c2:Cal P w K mg base 5 "_law_do" ["_law_keeper","_law_deed"] (Hu C)):FnOk P w K mg base CX0 6 f fd ["_law_state_here","_law_keeper","_law_book_here"] (Dy C):=by
 refine F.ok scF (fun vs H Q E h=>?_) (fun cdv A outer s H vs Q E hr h=>?_)
 ·obtain ⟨st,p,l,t0,bk,cs,ps,ss,rfl,_⟩:=h
  rfl
 ·obtain ⟨st,p,l,t0,bk,cs,ps,ss,rfl,hst,k0,b0,okc,q⟩:=h
  refine K74P.ok_b (aP (d7 (i:=3) scF.nd rfl (Or.inl rfl) ⟨cC (aQ (bZ ["_law_clip"] [none] rfl (dU (aZ bG (pv 2) aA (fun _ _=>rfl))) (fun C fp pins s₂ H₂=>⟨au (i:=0) J7 rfl (Or.inl rfl),bT,bH (az lU (az (pv 0) aj))⟩) (fun C=>trivial) ⟨rfl,rfl,rfl,rfl⟩) (aQ (bZ ["_law_promise"] [none] rfl (dU (aZ bG (pv 2) aA (fun _ _=>rfl))) (fun C fp pins s₂ H₂=>⟨au (i:=0) J8 rfl (Or.inl rfl),bT,bH (az lU (az (pv 0) aj))⟩) (fun C=>trivial) ⟨rfl,rfl,rfl,rfl⟩) aj))⟩)
   (aP ⟨cB (aV uF (aZ bF (pv 3) aA (fun _ _=>rfl)) (bZ ["_law_sale"] [none] rfl (dU (aZ bG (pv 2) aA (fun _ _=>rfl))) (fun C fp pins s₂ H₂=>⟨au (i:=0) J9 rfl (Or.inl rfl),bT,bH (az lU (az (pv 0) aj))⟩) (fun C=>trivial) ⟨rfl,rfl,rfl,rfl⟩)) (qm (pv 3) aA set_list)⟩
   (cZ ⟨yx PassesOwn.never (bJ (Av (S:=fun _=>True) (uf hr)) (aV uF (aZ bF (pv 3) aA (fun _ _=>rfl)) (aZ bF (pv 3) aA (fun _ _=>rfl))) (cC aj) (bI _))
    (vO (aP (d7 (i:=4) scF.nd rfl (Or.inl rfl) ⟨aK c1 hr (by decide) rfl (az (pv 0) (az aA aj))⟩)
    (aP (d7 (i:=4) scF.nd rfl (Or.inl rfl) ⟨j5 (bJ (Av (S:=fun _=>True) (uf hr)) (aZ bF (pv 3) (pv 4) (fun _ _=>rfl)) (cC aj) (bI _)) (pv 4) (aV dW aA (pv 4))⟩)
    (aP (d7 (i:=5) scF.nd rfl (Or.inl rfl) ⟨j8 PySem.F.plainAttrs_list PySem.F.slot_list_pop PySem.F.type_list_pop yO (aZ bF (pv 3) (pv 4) (fun _ _=>rfl)) (az aA aj)⟩)
    (cZ ⟨bA (aK c2 hr (by decide) rfl (az (pv 1) (az (pv 5) aj)))⟩)))))⟩))) ?_
  obtain ⟨ac,xc,ap,xp,as_,xs,B⟩:=b0
  have lst0:l≠st:=Hx hst k0.el fun v hv=>by
   obtain ⟨t,_,rfl⟩:=zA5.mp hv
   exact ⟨t,rfl⟩
  refine aG ?_
  refine aX ?_
  refine ⟨_,rfl,bk,_,0,.ref ac,rfl,rfl,SqT.of B.e,rfl,ac,rfl,⟨_,SqT.of B.rc.e⟩,j0 (k:=0) B.rc B.lc fun xa H1 s1 da=>fun la hla=>?_⟩
  have u1:=s1.updR (o:=.lst xa) hla
  have da1:=da.same (Same.upd (o:=.lst xa) hla)
  have ela:=ao (H:=H1) (a:=la) (o:=.lst xa)
  have B1:=B.same u1
  have nla:H la=none:=s1.free hla
  generalize upd H1 la (.lst xa)=H1' at u1 da1 ela B1 ⊢
  clear s1 da hla
  refine ⟨_,rfl,bk,_,1,.ref ap,rfl,rfl,SqT.of B1.e,rfl,ap,rfl,⟨_,SqT.of B1.rp.e⟩,j0 (k:=1) B1.rp (by have:=B.lp;lia) fun xb0 H2 s2 db=>fun lb0 hlb0=>⟨(by show 2<=sizeLine;decide),fun lr hlr=>aM ?_⟩⟩
  have v2:=s2.updR (o:=.lst xb0) hlb0
  have v3:=v2.updR (o:=.lst [V.ref la,V.ref lb0]) hlr
  have s3:=u1.trans v3
  have ela3:=v3 _ _ ela
  have da3:=da1.same v3
  have w3:=(Same.upd (o:=.lst xb0) hlb0).updR (o:=.lst [V.ref la,V.ref lb0]) hlr
  have db3:=db.same w3
  have elb0:=Same.upd (o:=.lst [V.ref la,V.ref lb0]) hlr _ _ (ao (H:=H2) (a:=lb0) (o:=.lst xb0))
  have elr:=ao (H:=upd H2 lb0 (.lst xb0)) (a:=lr) (o:=.lst [V.ref la,V.ref lb0])
  have nlr:H lr=none:=u1.free (v2.free hlr)
  have B3:=B1.same v3
  generalize upd (upd H2 lb0 (.lst xb0)) lr (.lst [V.ref la,V.ref lb0])=H3 at s3 ela3 da3 db3 elb0 elr B3 ⊢
  clear u1 da1 ela B1 v2 v3 w3 db hlb0 hlr
  dsimp only
  refine aG ?_
  refine aX ?_
  refine ⟨_,rfl,lr,_,1,.ref lb0,rfl,rfl,SqL.of elr,rfl,_,rfl,bk,_,2,.ref as_,rfl,rfl,SqT.of B3.e,rfl,as_,rfl,⟨_,SqT.of B3.rs.e⟩,j0 (k:=2) B3.rs (by have:=B.ls;lia) fun xb1 H4 s4 ds4=>fun D4 hD4=>?_⟩
  have u4:=s4.updR (o:=.lst xb1) hD4
  have hlx:xb0.length+xb1.length<=40:=by
   rw [db3.1,ds4.1,zA1,zA1]
   have:=B.lp
   have:=B.ls
   lia
  refine ⟨lb0,D4,xb0,xb1,rfl,rfl,u4 _ _ elb0,ao,by rw [sizeLine_eq];lia,fun lb hlb=>⟨_,rfl,lr,[V.ref la,V.ref lb0],1,1,rfl,rfl,?_,rfl,?_⟩⟩
  ·exact Same.upd hlb _ _ (u4 _ _ elr)
  have u5:=u4.updR (o:=.lst (xb0++xb1)) hlb
  have db5:Dls (upd (upd H4 D4 (.lst xb1)) lb (.lst (xb0++xb1))) (xb0++xb1) (dB ps ss):=(db3.same u5).app (ds4.same ((Same.upd (o:=.lst xb1) hD4).updR hlb))
  have elb5:=ao (H:=upd H4 D4 (.lst xb1)) (a:=lb) (o:=.lst (xb0++xb1))
  have s5:=s3.trans u5
  have ela5:=u5 _ _ ela3
  have elr5:=u5 _ _ elr
  have da5:=da3.same u5
  have nlb:H lb=none:=s3.free (u4.free hlb)
  have dlr_b:lr≠lb:=aF (u4 _ _ elr) hlb
  have dla_b:la≠lb:=aF (u4 _ _ ela3) hlb
  generalize upd (upd H4 D4 (.lst xb1)) lb (.lst (xb0++xb1))=H5 at db5 elb5 s5 ela5 elr5 da5 ⊢
  have dlr_a:lr≠la:=fun z=>by
   rw [z,ela5] at elr5
   cases elr5
   obtain ⟨td,tc,a,b,_⟩:=da5.2 0 (0,cs.getD 0 []) (by
    have h1:=da5.1
    rw [zA1] at h1
    have h2:0 < cs.length:=by rw [<- h1];show 0 < 2;decide
    rw [zAb,zA0 h2,getD_get h2]
    rfl)
   rw [List.getElem?_cons_zero] at a
   cases a
   rw [ela5] at b
   cases b
  clear hlb u5 u4 hD4 ds4 s4 db3 elb0 elr B3 ela3 da3 s3
  have kR:∀ b o,b≠lr->H5 b=some o->upd H5 lr (.lst ([V.ref la,V.ref lb0].set 1 (.ref lb))) b=some o:=fun b o n e=>by
   rw [aD n]
   exact e
  have elr6:upd H5 lr (.lst ([V.ref la,V.ref lb0].set 1 (.ref lb))) lr=some (.lst [V.ref la,V.ref lb]):=ao
  have ela6:=kR _ _ dlr_a.symm ela5
  have elb6:=kR _ _ dlr_b.symm elb5
  have ktR:∀ b x,H5 b=some (.tup x)->upd H5 lr (.lst ([V.ref la,V.ref lb0].set 1 (.ref lb))) b=some (.tup x):=fun b x e=>kR _ _ (fun z=>by rw [z,elr5] at e;cases e) e
  have da6:=da5.keep ktR
  have db6:=db5.keep ktR
  have s6:Same H (upd H5 lr (.lst ([V.ref la,V.ref lb0].set 1 (.ref lb)))):=fun b o e=>kR _ _ (aF e nlr) (s5 _ _ e)
  dsimp only
  generalize upd H5 lr (.lst ([V.ref la,V.ref lb0].set 1 (.ref lb)))=H6 at elr6 ela6 elb6 da6 db6 s6 ⊢
  clear kR ktR elr5 ela5 elb5 da5 db5 s5
  have nsr:lr≠st:=fun z=>by
   obtain ⟨_,_,e,_⟩:=hst
   rw [z,e] at nlr
   cases nlr
  have nsa:la≠st:=fun z=>by
   obtain ⟨_,_,e,_⟩:=hst
   rw [z,e] at nla
   cases nla
  have nsb:lb≠st:=fun z=>by
   obtain ⟨_,_,e,_⟩:=hst
   rw [z,e] at nlb
   cases nlb
  have nlr_l:lr≠l:=(aF k0.el nlr).symm
  have nla_l:la≠l:=(aF k0.el nla).symm
  have nlb_l:lb≠l:=(aF k0.el nlb).symm
  obtain ⟨lcs,lps,lss⟩:=(⟨B.lc,B.lp,B.ls⟩:cs.length<=20/\ps.length<=10/\ss.length<=12)
  refine ⟨fun m σ Hc=>∃ i j xa xb x4 x5 ts t Ss,σ=[some (.ref st),some (.ref p),some (.ref bk),some (.ref lr),x4,x5]/\(∀ b o,b≠l->b≠st->H b=some o->Hc b=some o)/\dD Hc st/\Hc lr=some (.lst [V.ref la,V.ref lb])/\Hc la=some (.lst xa)/\Hc lb=some (.lst xb)/\Dls Hc xa ((dA cs).drop i)/\Dls Hc xb ((dB ps ss).drop j)/\i<=cs.length/\j<=ps.length+ss.length/\KpAt C Hc p l (ts++[t]) (Ss++[stg cs ps ss i j])/\ts.length=i+j/\m=(cs.length - i)+(ps.length+ss.length - j),⟨_,0,0,xa,xb0++xb1,_,_,[],t0,[],rfl,fun b o _ _ e=>s6 _ _ e,?_,elr6,ela6,elb6,da6,db6,zAp _,zAp _,?_,rfl,rfl⟩,?_⟩
  ·obtain ⟨u,v,e,k⟩:=hst
   exact ⟨u,v,s6 _ _ e,k⟩
  ·have:stg cs ps ss 0 0=⟨[],[],[]⟩:=by
    unfold stg
    rw [List.take_zero,List.take_zero,show 0 - ps.length=0 by lia,List.take_zero]
   rw [this]
   exact k0.same s6
  clear elr6 ela6 elb6 da6 db6 s6
  rintro m σ Hc ⟨i,j,xa,xb,x4,x5,ts,t,Ss,rfl,fr,sa,elr,ela,elb,da,db,hi,hj,kp,lts,rfl⟩
  have lda:(dA cs).length=cs.length:=zA1 _
  have tA:∀ {Hd:Hp} {xs:List V} {ds:List (Nat×List Int)} {q:Addr},Hd q=some (.lst xs)->Dls Hd xs ds->IsTh (fun _=>True) Hd (.ref q) (.list (ds.map fun d=>fG d.1 d.2)):=fun e d=>.lst trivial e d.ths
  have kt0:∀ {Hd:Hp} {q:Addr} {o:HO},Hd q=none->(∀ b o,b≠l->b≠st->H b=some o->Hd b=some o)->(∀ b o',b≠l->b≠st->H b=some o'->upd Hd q o b=some o'):=fun hq f b o n1 n2 e=>Same.upd hq _ _ (f b o n1 n2 e)
  refine ⟨_,rfl,lr,_,0,.ref la,rfl,rfl,SqL.of elr,rfl,_,rfl,lr,_,1,.ref lb,rfl,rfl,SqL.of elr,rfl,la,lb,xa,xb,rfl,rfl,ela,elb,?_,fun c1' hc1=>⟨(by show 0<=sizeLine;decide),fun c2' hc2=>?_⟩⟩
  ·rw [da.1,db.1,List.length_drop,List.length_drop,lda,nZ,sizeLine_eq]
   lia
  have u1:=Same.upd (o:=.lst (xa++xb)) hc1
  have u2:=u1.updR (o:=.lst []) hc2
  have e1:=Same.upd (o:=.lst []) hc2 _ _ (ao (H:=Hc) (a:=c1') (o:=.lst (xa++xb)))
  have e2:=ao (H:=upd Hc c1' (.lst (xa++xb))) (a:=c2') (o:=.lst [])
  have fr2:∀ b o,b≠l->b≠st->H b=some o->upd (upd Hc c1' (.lst (xa++xb))) c2' (.lst []) b=some o:=fun b o n1 n2 e=>u2 _ _ (fr b o n1 n2 e)
  have sa2:dD (upd (upd Hc c1' (.lst (xa++xb))) c2' (.lst [])) st:=by
   obtain ⟨u,v,e,k⟩:=sa
   exact ⟨u,v,u2 _ _ e,k⟩
  have elr2:=u2 _ _ elr
  have ela2:=u2 _ _ ela
  have elb2:=u2 _ _ elb
  have da2:=da.same u2
  have db2:=db.same u2
  have kp2:=kp.same u2
  refine ⟨.list (((dA cs).drop i++(dB ps ss).drop j).map fun d=>fG d.1 d.2),.list [],?_,?_,ug _,rfl,wM _,_,rfl,?_⟩
  ·exact tA e1 (da2.app db2)
  ·exact .lst trivial e2 .nil
  rw [uh]
  generalize upd (upd Hc c1' (.lst (xa++xb))) c2' (.lst [])=H7 at fr2 sa2 elr2 ela2 elb2 da2 db2 kp2 ⊢
  clear e1 e2 u1 u2 hc1 hc2 fr sa elr ela elb da db kp
  by_cases hfin:i=cs.length/\j=ps.length+ss.length
  ·obtain ⟨rfl,rfl⟩:=hfin
   rw [List.drop_of_length_le (by rw [lda];exact zA3 _),List.drop_of_length_le (by rw [nZ];exact zA3 _)]
   refine bD ?_
   dsimp only
   refine q ts t Ss H7 fr2 sa2 ?_ (by lia)
   have:stg cs ps ss cs.length (ps.length+ss.length)=⟨cs,ps,ss⟩:=by
    unfold stg
    rw [zAm,List.take_of_length_le (by lia),List.take_of_length_le (by lia)]
   rw [<- this]
   exact kp2
  have hne:(((dA cs).drop i++(dB ps ss).drop j).map fun d=>fG d.1 d.2).isEmpty=false:=by
   have hl:0 < (((dA cs).drop i++(dB ps ss).drop j).map fun d=>fG d.1 d.2).length:=by
    rw [zA1,zA2,List.length_drop,List.length_drop,lda,nZ]
    lia
   cases z:((dA cs).drop i++(dB ps ss).drop j).map fun d=>fG d.1 d.2 with
   | nil=>rw [z] at hl;cases hl
   | cons=>rfl
  rw [hne]
  refine cj ⟨fun σ' H'=>∃ i' j' xa xb x4 x5 ts t Ss,σ'=[some (.ref st),some (.ref p),some (.ref bk),some (.ref lr),x4,x5]/\(∀ b o,b≠l->b≠st->H b=some o->H' b=some o)/\dD H' st/\H' lr=some (.lst [V.ref la,V.ref lb])/\H' la=some (.lst xa)/\H' lb=some (.lst xb)/\Dls H' xa ((dA cs).drop i')/\Dls H' xb ((dB ps ss).drop j')/\i'<=cs.length/\j'<=ps.length+ss.length/\KpAt C H' p l (ts++[t]) (Ss++[stg cs ps ss i' j'])/\ts.length=i'+j'/\i'+j'=i+j+1,fun σ' H' ⟨i',j',a1,a2,a3,a4,a5,a6,a7,a8,a9,a10,a11,a12,a13,a14,a15,a16,a17,a18,a19,a20⟩=>⟨_,by lia,i',j',a1,a2,a3,a4,a5,a6,a7,a8,a9,a10,a11,a12,a13,a14,a15,a16,a17,a18,a19,rfl⟩,?_⟩
  refine BZ fun De hn_=>?_
  refine aG ?_
  refine aX ?_
  refine ⟨_,rfl,st,2,rfl,sa2,by decide,by decide,fun r a8 b8 r0 r1 z1 z2 z3=>aM ?_⟩
  have tk:Dr st H7 (upd H7 st (.lst [.int a8,.int b8])):=(Dr.mk But.refl sa2).take z1 z2 z3
  have fr3:∀ b o,b≠l->b≠st->H b=some o->upd H7 st (.lst [.int a8,.int b8]) b=some o:=fun b o n1 n2 e=>tk.bt _ _ (fr2 b o n1 n2 e) n2
  have elr3:=tk.bt _ _ elr2 nsr
  have ela3:=tk.bt _ _ ela2 nsa
  have elb3:=tk.bt _ _ elb2 nsb
  have kt3:∀ b x,H7 b=some (.tup x)->upd H7 st (.lst [.int a8,.int b8]) b=some (.tup x):=fun b x e=>tk.tup sa2 e
  have da3:=da2.keep kt3
  have db3:=db2.keep kt3
  have kp3:KpAt C (upd H7 st (.lst [.int a8,.int b8])) p l (ts++[t]) (Ss++[stg cs ps ss i j]):=kp2.keep kt3 (fun dx f e=>tk.bt _ _ e fun z=>by
   obtain ⟨_,_,e',_⟩:=sa2
   rw [z,e'] at e
   cases e) fun x e=>tk.bt _ _ e lst0
  have sa3:=tk.sa
  generalize upd H7 st (.lst [.int a8,.int b8])=H8 at fr3 elr3 ela3 elb3 da3 db3 kp3 sa3 ⊢
  clear tk kt3 fr2 sa2 elr2 ela2 elb2 da2 db2 kp2
  dsimp only
  refine ir fun cc hcc=>?_
  have rest:∀ (n:Nat) (H9:Hp) x5,((n=0/\i < cs.length)\/(n=1/\j < ps.length+ss.length))->Same H8 H9->cc [some (.ref st),some (.ref p),some (.ref bk),some (.ref lr),some (.int n),x5] H9:=by
   intro n H9 x5 hn s9
   refine hcc _ _ ?_
   have fr4:∀ b o,b≠l->b≠st->H b=some o->H9 b=some o:=fun b o n1 n2 e=>s9 _ _ (fr3 b o n1 n2 e)
   have elr4:=s9 _ _ elr3
   have ela4:=s9 _ _ ela3
   have elb4:=s9 _ _ elb3
   have da4:=da3.same s9
   have db4:=db3.same s9
   have kp4:=kp3.same s9
   have sa4:dD H9 st:=by
    obtain ⟨u,v,e,k⟩:=sa3
    exact ⟨u,v,s9 _ _ e,k⟩
   clear hcc s9 fr3 elr3 ela3 elb3 da3 db3 kp3 sa3
   obtain ⟨qq,xs',k,rr,td,tc,i',j',hat,eq,etd,etc,hk,okd,enx,nql,nqs,nqr,hi',hj',hij,nqH,hz⟩:∃ qq xs',∃ k:Nat,∃ rr td tc i' j',atI [V.ref la,V.ref lb] n=some (.ref qq)/\H9 qq=some (.lst (.ref td::xs'))/\H9 td=some (.tup [.str (wd k),.ref tc])/\H9 tc=some (.tup (rr.map V.int))/\k < 3/\okD k (stg cs ps ss i j) rr/\nxD k (stg cs ps ss i j) rr=stg cs ps ss i' j'/\qq≠l/\qq≠st/\qq≠lr/\i'<=cs.length/\j'<=ps.length+ss.length/\i'+j'=i+j+1/\H qq=none /\
     ∀ Hz:Hp,(∀ b o,b≠l->b≠qq->H9 b=some o->Hz b=some o)->(∀ b x,H9 b=some (.tup x)->Hz b=some (.tup x))->Hz qq=some (.lst xs')->∃ ya yb,Hz la=some (.lst ya)/\Hz lb=some (.lst yb)/\Dls Hz ya ((dA cs).drop i')/\Dls Hz yb ((dB ps ss).drop j'):=by
    rcases hn with ⟨rfl,hlt⟩ | ⟨rfl,hlt⟩
    ·obtain ⟨g1,g2,g3⟩:=stA (ps:=ps) (ss:=ss) (j:=j) hlt lcs okc
     have hlt':i < (dA cs).length:=by lia
     have ed:(dA cs).drop i=(0,cs[i])::(dA cs).drop (i+1):=by
      rw [List.drop_eq_getElem_cons hlt']
      rw [zA0 hlt'] at g1
      rw [zAl g1]
     rw [ed] at da4
     cases xa with
     | nil=>have:=da4.1;cases this
     | cons x xs' =>
      obtain ⟨td,tc,a1,a2,a3⟩:=da4.2 0 (0,cs[i]) rfl
      cases a1
      exact ⟨la,xs',0,cs[i],td,tc,i+1,j,rfl,ela4,a2,a3,by decide,g2,g3,nla_l,nsa,dlr_a.symm,hlt,hj,by lia,nla,fun Hz f ft e=>⟨xs',xb,e,f _ _ nlb_l dla_b.symm elb4,da4.tail.keep ft,db4.keep ft⟩⟩
    ·obtain ⟨k,rr,g1,g0,g2,g3⟩:=stB (cs:=cs) (i:=i) hlt lps B.okp lss B.h5 B.un
     have hlt':j < (dB ps ss).length:=by rw [nZ];exact hlt
     have ed:(dB ps ss).drop j=(k,rr)::(dB ps ss).drop (j+1):=by
      rw [List.drop_eq_getElem_cons hlt']
      rw [zA0 hlt'] at g1
      rw [zAl g1]
     rw [ed] at db4
     cases xb with
     | nil=>have:=db4.1;cases this
     | cons x xs' =>
      obtain ⟨td,tc,a1,a2,a3⟩:=db4.2 0 (k,rr) rfl
      cases a1
      exact ⟨lb,xs',k,rr,td,tc,i,j+1,rfl,elb4,a2,a3,g0,g2,g3,nlb_l,nsb,dlr_b.symm,hi,hlt,by lia,nlb,fun Hz f ft e=>⟨xa,xs',f _ _ nla_l dla_b ela4,e,da4.keep ft,db4.tail.keep ft⟩⟩
   clear hn da4 db4 ela4 elb4
   refine aG ?_
   refine aX ?_
   refine ⟨_,rfl,_,rfl,lr,_,n,.ref qq,rfl,rfl,SqL.of elr4,hat,.inl ⟨rfl,_,SqL.of eq⟩,qq,_,0,0,.ref td,rfl,rfl,eq,by decide,by decide,?_,rfl,aM ?_⟩
   ·have e0:¬ (0:Int) < 0:=by decide
    have h1:decide ((0:Int) < (((V.ref td::xs').length:Nat):Int))=true:=decide_eq_true (by rw [zAe];lia)
    simp only [seqIndex?,if_neg e0,h1]
    rfl
   have kq:∀ {o:HO} b o',b≠qq->H9 b=some o'->upd H9 qq o b=some o':=fun b o' n1 e=>by
    rw [aD n1]
    exact e
   have ktq:∀ {o:HO} b x,H9 b=some (.tup x)->upd H9 qq o b=some (.tup x):=fun {o} b x e=>kq _ _ (fun z=>by rw [z,eq] at e;cases e) e
   have eq5:upd H9 qq (.lst ((V.ref td::xs').eraseIdx 0)) qq=some (.lst xs'):=ao
   have kp5:KpAt C (upd H9 qq (.lst ((V.ref td::xs').eraseIdx 0))) p l (ts++[t]) (Ss++[stg cs ps ss i j]):=kp4.keep ktq (fun dx f e=>kq _ _ (fun z=>by rw [z,eq] at e;cases e) e) fun x e=>kq _ _ nql.symm e
   have etd5:=ktq (o:=.lst ((V.ref td::xs').eraseIdx 0)) _ _ etd
   have etc5:=ktq (o:=.lst ((V.ref td::xs').eraseIdx 0)) _ _ etc
   have elr5:=kq (o:=.lst ((V.ref td::xs').eraseIdx 0)) _ _ nqr.symm elr4
   have fr5:∀ b o,b≠l->b≠qq->H9 b=some o->upd H9 qq (.lst ((V.ref td::xs').eraseIdx 0)) b=some o:=fun b o _ n2 e=>kq _ _ n2 e
   have ktq5:∀ b x,H9 b=some (.tup x)->upd H9 qq (.lst ((V.ref td::xs').eraseIdx 0)) b=some (.tup x):=fun b x e=>ktq _ _ e
   generalize upd H9 qq (.lst ((V.ref td::xs').eraseIdx 0))=HA at eq5 kp5 etd5 etc5 elr5 fr5 ktq5 ⊢
   clear kq ktq
   dsimp only
   refine ⟨_,rfl,_,rfl,p,l,ts,t,Ss,_,td,tc,rr,k,rfl,hk,kp5,by lia,etd5,etc5,okd,fun v t' HB fB kB=>?_⟩
   rw [enx] at kB
   have ktB:∀ b x,HA b=some (.tup x)->HB b=some (.tup x):=fun b x e=>fB _ _ (fun z=>by rw [z,kp5.el] at e;cases e) e
   obtain ⟨ya,yb,y1,y2,y3,y4⟩:=hz HB (fun b o n1 n2 e=>fB _ _ n1 (fr5 b o n1 n2 e)) (fun b x e=>ktB _ _ (ktq5 b x e)) (fB _ _ nql eq5)
   refine hn_ _ _ ⟨i',j',ya,yb,_,_,ts++[t],t',Ss++[_],rfl,fun b o n1 n2 e=>fB _ _ n1 (fr5 b o n1 (aF e nqH) (fr4 b o n1 n2 e)),?_,fB _ _ nlr_l elr5,y1,y2,y3,y4,hi',hj',kB,by rw [zA2,lts];show i+j+1=i'+j';lia,hij⟩
   obtain ⟨u,v,e,kk⟩:=sa4
   exact ⟨u,v,fB _ _ lst0.symm (fr5 _ _ lst0.symm nqs.symm e),kk⟩
  have eE:∀ (n:Nat),n < 2->∃ qq xq ds,atI [V.ref la,V.ref lb] n=some (.ref qq)/\H8 qq=some (.lst xq)/\Dls H8 xq ds/\ds.length=(if n=0 then cs.length - i else ps.length+ss.length - j):=fun n hn=>by
   have:n=0\/n=1:=by lia
   rcases this with rfl | rfl
   ·exact ⟨la,xa,_,rfl,ela3,da3,by rw [List.length_drop,lda];rfl⟩
   ·exact ⟨lb,xb,_,rfl,elb3,db3,by rw [List.length_drop,nZ];rfl⟩
  obtain ⟨n,rfl⟩:∃ n:Nat,r=n:=⟨r.toNat,by lia⟩
  obtain ⟨qq,xq,ds,hat,eq,dl,ldl⟩:=eE n (by lia)
  refine aX ?_
  refine ⟨_,rfl,_,rfl,lr,_,n,.ref qq,rfl,rfl,SqL.of elr3,hat,(by show 0<=sizeLine;decide),fun e0 he0=>?_⟩
  have u9:=Same.upd (o:=.lst []) he0
  refine ⟨.list (ds.map fun d=>fG d.1 d.2),.list [],tA (u9 _ _ eq) (dl.same u9),.lst trivial ao .nil,ug _,rfl,wM _,_,rfl,?_⟩
  rw [uh]
  cases hds:ds with
  | cons d ds' =>
   have hlt:0 < ds.length:=by rw [hds];exact Nat.succ_pos _
   refine cj ⟨_,rfl,aM (rest n _ _ ?_ u9)⟩
   by_cases h0:n=0
   ·rw [if_pos h0] at ldl
    exact .inl ⟨h0,by lia⟩
   ·rw [if_neg h0] at ldl
    exact .inr ⟨by lia,by lia⟩
  | nil =>
   have hz:ds.length=0:=by rw [hds];rfl
   refine bD ⟨_,rfl,_,_,rfl,rfl,aM ?_⟩
   have e1:(1:Int) - (n:Int)=((1 - n:Nat):Int):=by lia
   have:=rest (1 - n) _ x5 (by
    by_cases h0:n=0
    ·rw [if_pos h0] at ldl
     exact .inr ⟨by lia,by lia⟩
    ·rw [if_neg h0] at ldl
     exact .inl ⟨by lia,by lia⟩) u9
   rw [<- e1] at this
   exact this
end
end K74

namespace K74
open PySem L2
structure Bok (cs ss:List (List Int)):Prop where
 lc1:1<=cs.length
 okc:∀ r∈cs,okC r
 oks:∀ s∈ss,smR s
theorem Ax {R:List (List Int)->List (List Int)->List (List Int)->Int->VK->Hp->Prop}{H:Hp}{Q:VK}{bk:Addr}{y:Int}{cs ps ss:List (List Int)}(b:Bk H bk cs ps ss)(o:Bok cs ss)(y0:0<=y)(y1:y < cs.length)(q:R cs ps ss y Q H):nR R [.ref bk,.int y] H Q E0:=by
 obtain ⟨ac,xc,ap,xp,as_,xs,b⟩:=b
 have th:IsTh (fun _=>False) H (.ref bk) (.tuple [bx cs,bx ps,bx ss]):=.tup b.e (.cons b.rc.th (.cons b.rp.th (.cons b.rs.th .nil)))
 have zd:sz (.tuple [bx cs,bx ps,bx ss])<=4000:=by
  show 1+((1+szs (cs.map bw))+((1+szs (ps.map bw))+((1+szs (ss.map bw))+0)))<=4000
  rw [jz (k:=3) fun r hr=>(b.okc r hr).1,jz (k:=6) fun r hr=>(b.okp r hr).1,jz (k:=5) b.h5]
  have:=b.lc
  have:=b.lp
  have:=b.ls
  lia
 exact ⟨fun _=>False,bk,y,_,ac,xc,cs,ap,xp,ps,as_,xs,ss,rfl,th,zd,Cz o.lc1 b.lc o.okc b.lp b.okp b.ls b.h5 b.un,b,y0,y1,q⟩
theorem Bk.th {H:Hp}{bk:Addr}{cs ps ss:List (List Int)}(b:Bk H bk cs ps ss):IsTh (fun _=>True) H (.ref bk) (.tuple [bx cs,bx ps,bx ss]):=by
 obtain ⟨ac,xc,ap,xp,as_,xs,b⟩:=b
 have th:IsTh (fun _=>False) H (.ref bk) (.tuple [bx cs,bx ps,bx ss]):=.tup b.e (.cons b.rc.th (.cons b.rp.th (.cons b.rs.th .nil)))
 exact th.keep (fun _ _ e=>e) (fun _ _ z _=>z.elim) fun _ _ z _=>z.elim
inductive SpRightI (C:Addr)(vs:List V)(H:Hp)(Q:VK):Prop
 | mk:∀ p l ts t Ss bk cs ps ss,(vs=[.ref p,.ref bk])->(KpAt C H p l (ts++[t]) (Ss++[⟨cs,ps,ss⟩]))->(Bk H bk cs ps ss)->(Bok cs ss)->(∀ H',Same H H'->Q (.bl true) H')->SpRightI C vs H Q
def wN (C:Addr):Sp:=fun vs H Q _=>SpRightI C vs H Q
section
variable {P:Program}{w:World}{K:PySem.W.Frag}{mg:Str->Option Value}{base:Heap}{C:Addr}
theorem ndU:(["_law_year","_law_keeper","_law_book_here"]:List Str).Nodup:=by decide +kernel
theorem scU2:FnScope ["_law_keeper","_law_book_here","_law_last"] ["_law_keeper","_law_book_here"] (aJ (top 83)):=⟨rfl,rfl,rfl,by decide +kernel,rfl,by decide +kernel,by decide +kernel⟩
theorem Ay {f:Addr}{fd:FuncData}(F:Fun K "_law_right" "_law_right" (top 83) f fd)(X:Txt K C)(T:Mg mg)(Tr:mg "range" = none)(c1:gw P w K mg base C 1 "book_now" ["self"] (nW C))(c2:gw P w K mg base C 12 "owed_now" ["self"] (Fp C))(c3:gw P w K mg base C 13 "lack_now" ["self"] (Ht C))(c4:gw P w K mg base C 12 "gifts_of" ["self","year"] (Hs C))(c5:Cal P w K mg base 12 "owed_by" ["book","year"] (nR qd))(c6:Cal P w K mg base 12 "lack_by" ["book","year"] (nR Dv))(c7:Cal P w K mg base 11 "gifts_in" ["book","year"] (nR Ah)):FnOk P w K mg base CX0 14 f fd ["_law_keeper","_law_book_here"] (wN C):=by
 refine F.ok scU2 (fun vs H Q E h=>?_) (fun cdv A outer s H vs Q E hr h=>?_)
 ·obtain ⟨p,l,ts,t,Ss,bk,cs,ps,ss,rfl,_⟩:=h
  rfl
 ·obtain ⟨p,l,ts,t,Ss,bk,cs,ps,ss,rfl,k,b,o,q⟩:=h
  refine K74P.ok_b (aP (d7 (i:=2) scU2.nd rfl (Or.inl rfl) ⟨aV dW (aO bj rfl T.len PySem.boot_len (az (aZ bG (pv 1) aA (fun _ _=>rfl)) aj)) aA⟩)
   (aP ⟨cu (PW.pt (oV (bJ (Ar (S:=fun _=>True) (uf hr)) (cR c1 X.cl hr (by decide) (pv 0)) (pv 1) (bI _)) (ql (bJ (Ar (S:=fun _=>True) (uf hr)) (cR c2 X.cl hr (by decide) (pv 0)) (aK c5 hr (by decide) rfl (az (pv 1) (az (pv 2) aj))) (bI _))))) (aH (aU gD)) bh⟩
   (aP ⟨cu (bJ Dg (cR c3 X.cl hr (by decide) (pv 0)) (aK c6 hr (by decide) rfl (az (pv 1) (az (pv 2) aj))) (bI _)) (aH (aU gD)) bh⟩
   (cZ (mW ⟨aO (dM rfl) rfl T.all boot_all (aQ (bZ ["_law_year","_law_keeper","_law_book_here"] [none,some 0,some 1] rfl (cT rfl Tr (az (aV bM (pv 2) aA) aj)) (fun C' fp pins s₂ H₂=>⟨au (i:=0) ndU rfl (Or.inl rfl),bT,ik (Fq (S:=fun _=>True) (uf hr)) (iz c4 X.cl hr (by decide) (pv 1) (az (pv 0) aj)) (aK c7 hr (by decide) rfl (az (pv 2) (az (pv 0) aj))) (bI _)⟩) (fun C'=>⟨⟨rfl,.inl rfl,rfl,.inl rfl⟩,⟨rfl,.inl rfl,rfl,.inl rfl⟩,trivial⟩) ⟨rfl,rfl,rfl,rfl⟩) aj)⟩))))) ?_
  obtain ⟨dx,hp⟩:=k.ob
  obtain ⟨ac,xc,ap,xp,as_,xs,B⟩:=id b
  have lcx:=B.rc.l
  have l1:=o.lc1
  refine aG ?_
  refine aX ?_
  refine ⟨_,rfl,bk,_,0,.ref ac,rfl,rfl,SqT.of B.e,rfl,ac,xc,rfl,.inr (SqT.of B.rc.e),_,_,rfl,rfl,aM ?_⟩
  obtain ⟨y,ey,y0,y1,yn⟩:∃ y:Int,(xc.length:Int) - 1=y/\0<=y/\y < cs.length/\y.toNat+1=cs.length:=⟨_,rfl,by lia,by lia,by lia⟩
  dsimp only
  rw [ey]
  refine aG ?_
  refine ⟨_,rfl,p,dx,_,rfl,hp,dO rfl,p,l,ts,t,Ss,_,rfl,k,_,rfl,.tuple [bx cs,bx ps,bx ss],k.last.th,b.th,CZ _ _ _,Aw _ _ _,_,rfl,?_⟩
  refine bD ?_
  refine ⟨_,rfl,p,dx,_,rfl,hp,dO rfl,p,l,ts,t,Ss,_,rfl,k,l1,fun k1 xk1 H1 s1 ek1 elk1=>⟨_,rfl,_,rfl,Ax (b.same s1) o y0 y1 fun k2 xk2 H2 s2 nk nks ek2 elk2=>?_⟩⟩
  rw [yn] at elk2
  refine ⟨.list ((iC cs ps ss cs.length).map bw),.lst trivial (s2 _ _ ek1) (jA (elk1.same s2)),.lst trivial ek2 (jA elk2),wL _,jD _,_,rfl,?_⟩
  refine bD (cz ?_)
  dsimp only
  have s12:=s1.trans s2
  have k2':=k.same s12
  have b2:=b.same s12
  have hp2:=s12 _ _ hp
  refine aG ?_
  refine ⟨_,rfl,p,dx,_,rfl,hp2,dO rfl,p,l,ts,t,Ss,_,rfl,k2',l1,fun H3 s3=>⟨_,rfl,_,rfl,Ax (b2.same s3) o y0 y1 fun H4 s4=>⟨rfl,_,rfl,?_⟩⟩⟩
  rw [yn,decide_eq_true rfl]
  refine bD (cz ?_)
  dsimp only
  have s34:=s3.trans s4
  have k4:=k2'.same s34
  have b4:=b2.same s34
  have hp4:=s34 _ _ hp2
  have s04:=s12.trans s34
  have lcB:=B.lc
  refine ⟨_,rfl,_,_,rfl,rfl,y+1,rfl,by lia,by lia,dF cs.length (fun i ys σ Hc=>Same H4 Hc/\(∃ o1,σ=[o1,some (.ref p),some (.ref bk)])/\ys=(List.replicate i true).map V.bl) ⟨Same.refl _,⟨_,rfl⟩,rfl⟩ (by rw [sizeLine_eq];have:=B.lc;lia) ?_ ?_⟩
  ·rintro i ys σ Hc hi hy ⟨sc,⟨o1,rfl⟩,rfl⟩
   refine ⟨(show i < (y+1).toNat by lia),fun v H' y' R hR=>?_⟩
   obtain ⟨rfl,rfl⟩:=y'
   refine aM ?_
   have z0:(0:Int)+(i:Int)=i:=by lia
   rw [z0]
   refine ⟨_,rfl,p,dx,_,rfl,sc _ _ hp4,dO rfl,_,rfl,p,l,ts,t,Ss,_,i,rfl,k4.same sc,by lia,(show (i:Int) < cs.length by lia),fun g xg H5 s5 eg elg=>⟨_,rfl,_,rfl,Ax ((b4.same sc).same s5) o (by lia) (by lia) fun g2 xg2 H6 s6 ng ngs eg2 elg2=>?_⟩⟩
   rw [zAi] at elg elg2
   refine ⟨.list ((srt (uX cs ps ss i).g).map bw),.lst trivial (s6 _ _ eg) (jA (elg.same s6)),.lst trivial eg2 (jA elg2),wL _,jD _,hR _ _ _ ⟨sc.trans (s5.trans s6),⟨_,rfl⟩,?_⟩⟩
   rw [List.replicate_succ',zA4]
   rfl
  rintro ys σ Hc hy ⟨sc,_,rfl⟩
  refine ⟨(show (y+1).toNat<=cs.length by lia),fun D hD=>⟨D,List.replicate cs.length true,rfl,SqL.of ao,?_⟩⟩
  have e:(List.replicate cs.length true).all id=true:=List.all_eq_true.mpr fun x hx=>(List.mem_replicate.mp hx).2
  rw [e]
  exact q _ (s04.trans (sc.updR hD))
end
end K74

namespace K74
open PySem L2
inductive SpLawI (K:PySem.W.Frag)(vs:List V)(H:Hp)(Q:VK):Prop
 | mk:∀ (a:Addr) (ns:List Int),(vs=[.ref a])->(SqL K H a (ns.map V.int))->(ns.length<=63)->(∀ H',Q (.bl true) H')->SpLawI K vs H Q
def wO (K:PySem.W.Frag):Sp:=fun vs H Q _=>SpLawI K vs H Q
def MkM (P:Program)(w:World)(K:PySem.W.Frag)(mg:Str->Option Value)(base:Heap)(C:Addr):Prop:=∃ f fd,FnOk P w K mg base CX0 1 f fd ["self"] (v6 C)/\Mk K C f/\Binds K fd ["self"] []
theorem Fv {X:Cx}{C:Addr}{k:Nat}{x:Str}{p pos:Pos}(c:MkM X.prog X.w X.K X.mg X.base C)(hr:Room k X.A)(hk:2<=k)(hg:Gl X x)(hm:X.mg x=some (.ref C))(hdb:(x == ("__debug__" : Str))=false:=by decide):PE X (.Call (.Name x p) [] [] pos) (Dj C (v6 C) [] E0 qw):=by
 obtain ⟨f,fd,F,M,b⟩:=c
 exact yL M F (hr.mono hk) hg hm b .nil rR hdb
theorem Ja:okC [1,2,3]:=⟨rfl,fun x hx=>by
 simp only [List.mem_cons,List.not_mem_nil,or_false] at hx
 rcases hx with rfl | rfl | rfl <;> decide⟩
theorem Jb:okP [0,0,0,0,5,1]:=⟨rfl,by decide,by decide,by decide,by decide,by decide⟩
section
variable {P:Program}{w:World}{K:PySem.W.Frag}{mg:Str->Option Value}{base:Heap}{C:Addr}
theorem ym:bootBuiltins "max" = some (.builtin "max"):=by decide +kernel
theorem yo:bootBuiltins "min" = some (.builtin "min"):=by decide +kernel
theorem scLI:FnScope ["_law_script","_law_k","_law_state_here","_law_book_here","_law_turn","_law_keeper"] ["_law_script"] (aJ (top 84)):=⟨rfl,rfl,rfl,by decide +kernel,rfl,by decide +kernel,by decide +kernel⟩
theorem Fw {f:Addr}{fd:FuncData}(F:Fun K "law" "law" (top 84) f fd)(X:Txt K C)(mC:mg "Keeper" = some (.ref C))(T:Mg mg)(Tr:mg "range" = none)(Tm:mg "max" = none)(Tn:mg "min" = none)
  (c1:Cal P w K mg base 2 "_law_state" ["_law_script","_law_k"] (vP K)) (c2:Cal P w K mg base 4 "_law_book" ["_law_state_here","_law_years","_law_most","_law_sales_here"] wJ) (cI:MkM P w K mg base C) (c3:Cal P w K mg base 6 "_law_fed" ["_law_state_here","_law_keeper","_law_book_here"] (Dy C)) (c4:Cal P w K mg base 14 "_law_right" ["_law_keeper","_law_book_here"] (wN C)) (cS:gw P w K mg base C 4 "shear" ["self","clip"] (gA C lO lQ)) (cP:gw P w K mg base C 4 "pledge" ["self","promise"] (gA C jB jC)) (cU:gw P w K mg base C 1 "undo" ["self"] (Am C)):FnOk P w K mg base CX0 63 f fd ["_law_script"] (wO K):=by
 refine F.ok scLI (fun vs H Q E h=>?_) (fun cdv A outer s H vs Q E hr h=>?_)
 ·obtain ⟨a,ns,rfl,_⟩:=h
  rfl
 ·obtain ⟨a,ns,rfl,hS,hl,q⟩:=h
  refine K74P.ok_b (aP ⟨cW PassesOwn.never rfl (cT rfl Tr (az (aO (oX rfl) rfl Tm ym (az aA (az (aO (il rfl) rfl Tn yo (az (aO bj rfl T.len PySem.boot_len (az (pv 0) aj)) (az aA aj))) aj))) aj)) (au (i:=1) scLI.nd rfl (Or.inl rfl))
   (vO (aP (d7 (i:=2) scLI.nd rfl (Or.inl rfl) ⟨aK c1 hr (by decide) rfl (az (pv 0) (az (pv 1) aj))⟩)
   (aP (d7 (i:=3) scLI.nd rfl (Or.inl rfl) ⟨aK c2 hr (by decide) rfl (az (pv 2) (az aA (az aA (az aA aj))))⟩)
   (cZ ⟨cW PassesOwn.never rfl (cT rfl Tr (az aA aj)) (au (i:=4) scLI.nd rfl (Or.inl rfl))
    (vO (aP (d7 (i:=5) scLI.nd rfl (Or.inl rfl) ⟨Fv cI hr (by decide) rfl mC⟩)
    (aP ⟨bA (aK c3 hr (by decide) rfl (az (pv 2) (az (pv 5) (az (pv 3) aj))))⟩
    (aP ⟨cu (bY (cN (aK c4 hr (by decide) rfl (az (pv 5) (az (pv 3) aj))))) (aH (aU gD)) bh⟩
    (aP ⟨bA (iz cS X.cl hr (by decide) (pv 5) (az (bH (gj (by repeat constructor))) aj))⟩
    (aP ⟨bA (iz cP X.cl hr (by decide) (pv 5) (az (bH (gj (by repeat constructor))) aj))⟩
    (aP ⟨bA (cR cU X.cl hr (by decide) (pv 5))⟩
    (aP ⟨bA (cR cU X.cl hr (by decide) (pv 5))⟩
    (cZ ⟨cu (bY (cN (aK c4 hr (by decide) rfl (az (pv 5) (az (pv 3) aj))))) (aH (aU gD)) bh⟩)))))))))⟩))))⟩
   (cZ (mW Gp))) ?_
  refine aG ?_
  have hl':(ns.map V.int).length<=63:=by rw [zA1];exact hl
  refine ⟨_,rfl,a,_,rfl,.inl hS,_,_,rfl,_,_,rfl,_,rfl,?_,?_,?_⟩
  ·split <;> split <;> lia
  ·split <;> split <;> lia
  refine cV (lo:=0) (fun i σ Hc=>∃ x1 x2 x3 x4 x5,σ=[some (.ref a),x1,x2,x3,x4,x5]/\Same H Hc) ?_ ?_ ?_
  ·exact ⟨none,none,none,none,none,rfl,Same.refl H⟩
  ·rintro i σ H1 hi ⟨x1,x2,x3,x4,x5,rfl,s1⟩
   refine aM ?_
   refine BZ fun De hn_=>?_
   refine aG ?_
   refine aX ?_
   refine ⟨_,rfl,_,rfl,a,ns,_,rfl,s1.seq hS,by lia,fun st x y hn hx0 hy0 hy1=>?_⟩
   have nst:H st=none:=s1.free hn
   have g1:dD (upd H1 st (.lst [.int x,.int y])) st:=⟨x,y,ao,hx0,hy0,hy1⟩
   have s2:Same H (upd H1 st (.lst [.int x,.int y])):=s1.updR hn
   generalize upd H1 st (.lst [.int x,.int y])=H2 at g1 s2 ⊢
   refine aM ?_
   dsimp only
   refine aG ?_
   refine aX ?_
   refine ⟨_,rfl,st,8,5,4,rfl,g1,by decide,by decide,by decide,by decide,by decide,by decide,fun bk ac xc cs ap xp ps as_ xs ss H3 d3 eb rc lc1 lc2 okc rp lp okp rs ls oks hun=>?_⟩
   have o:Bok cs ss:=⟨lc1,okc,oks⟩
   have b3:Bk H3 bk cs ps ss:=⟨ac,xc,ap,xp,as_,xs,eb,rc,fun r hr=>⟨(okc r hr).1,fun x hx=>((okc r hr).2 x hx).1⟩,by lia,rp,by lia,okp,rs,by lia,fun s hs=>(oks s hs).1,hun⟩
   have s3:Same H H3:=fun b o e=>d3.bt b o (s2 _ _ e) (aF e nst)
   have sa3:=d3.sa
   clear d3 eb rc rp rs g1 s2
   refine aM ?_
   dsimp only
   refine ⟨_,rfl,by decide,by decide,?_⟩
   refine cV (lo:=0) (fun j σ Hc=>∃ x4 x5,σ=[some (.ref a),some (.int (0+i)),some (.ref st),some (.ref bk),x4,x5]/\Same H Hc/\dD Hc st/\Bk Hc bk cs ps ss) ?_ ?_ ?_
   ·exact ⟨_,_,rfl,s3,sa3,b3⟩
   ·rintro j σ Hc hj ⟨x4,x5,rfl,sc,sac,bc⟩
    refine aM ?_
    refine BZ fun De2 hn2=>?_
    refine aG ?_
    refine aX ?_
    intro x dx nx ndx nex
    refine ⟨x,dx,rfl,ao,fun l t H4 f4 nl k4=>⟨rfl,aM ?_⟩⟩
    have u0:Same Hc (upd (upd Hc dx (.own x)) x (.ins C dx [])):=fun b o e=>by
     rw [aD (aF e nx),aD (aF e ndx)]
     exact e
    have s4:Same Hc H4:=fun b o e=>f4 b o (aF e nx) (u0 _ _ e)
    have nlc:Hc l=none:=u0.free nl
    have b4:=bc.same s4
    have sa4:dD H4 st:=by
     obtain ⟨u,v,e,k⟩:=sac
     exact ⟨u,v,s4 _ _ e,k⟩
    have lst:l≠st:=fun z=>by
     obtain ⟨_,_,e,_⟩:=sac
     rw [z,e] at nlc
     cases nlc
    have nlH:H l=none:=sc.free nlc
    have s04:=sc.trans s4
    clear u0 f4 s4 nl nlc
    dsimp only
    refine aG ?_
    refine ⟨_,rfl,_,rfl,_,rfl,st,x,l,t,bk,cs,ps,ss,rfl,sa4,k4,b4,okc,fun ts t5 Ss H5 f5 sa5 k5 lts=>?_⟩
    have s5:Same H H5:=fun b o e=>f5 b o (aF e nlH) (aF e nst) (s04 _ _ e)
    have b5:Bk H5 bk cs ps ss:=b4.keep fun b z e=>f5 b _ (fun w=>by rw [w,k4.el] at e;cases e) (fun w=>by
     obtain ⟨_,_,e',_⟩:=sa4
     rw [w,e'] at e
     cases e) e
    clear f5 k4 b4 sa4 s04
    dsimp only
    refine aG ?_
    refine ⟨_,rfl,_,rfl,x,l,ts,t5,Ss,bk,cs,ps,ss,rfl,k5,b5,o,fun H6 s6=>⟨_,rfl,?_⟩⟩
    refine bD (cz ?_)
    dsimp only
    have k6:=k5.same s6
    have b6:=b5.same s6
    have S6:=s5.trans s6
    have sa6:dD H6 st:=by
     obtain ⟨u,v,e,k⟩:=sa5
     exact ⟨u,v,s6 _ _ e,k⟩
    clear k5 b5 s5 s6 sa5
    have gen:∀ {Ha Hb:Hp},(∀ b o,b≠l->Ha b=some o->Hb b=some o)->(∃ z,Ha l=some (.lst z))->Same H Ha/\Bk Ha bk cs ps ss/\dD Ha st->Same H Hb/\Bk Hb bk cs ps ss/\dD Hb st:=fun {Ha Hb} f ⟨z,ez⟩ ⟨g1,g2,g3⟩=>by
     refine ⟨fun b o e=>f b o (aF e nlH) (g1 _ _ e),g2.keep fun b z' e=>f b _ (fun w=>by rw [w,ez] at e;cases e) e,?_⟩
     obtain ⟨u,v,e,k⟩:=g3
     exact ⟨u,v,f _ _ lst.symm e,k⟩
    have new:∀ {Ha:Hp} {q:Addr} {oo:HO},Ha q=none->Same H Ha/\Bk Ha bk cs ps ss/\dD Ha st->Same H (upd Ha q oo)/\Bk (upd Ha q oo) bk cs ps ss/\dD (upd Ha q oo) st:=fun {Ha q oo} hq ⟨g1,g2,g3⟩=>by
     refine ⟨g1.updR hq,g2.same (Same.upd hq),?_⟩
     obtain ⟨u,v,e,k⟩:=g3
     exact ⟨u,v,Same.upd hq _ _ e,k⟩
    obtain ⟨d6,hp6⟩:=k6.ob
    refine aG ?_
    refine ⟨_,rfl,x,d6,_,rfl,hp6,dO rfl,(by show 3<=sizeLine;decide),fun tc htc=>?_⟩
    have k7:=k6.same (Same.upd (o:=.tup (([1,2,3]:List Int).map V.int)) htc)
    have g7:=new (oo:=.tup (([1,2,3]:List Int).map V.int)) htc ⟨S6,b6,sa6⟩
    refine ⟨x,l,ts,t5,Ss,_,tc,[1,2,3],rfl,k7,by lia,ao,⟨Ja,(show cs.length < 20 by lia)⟩,fun v7 t8 H8 f8 k8=>?_⟩
    have g8:=gen f8 ⟨_,k7.el⟩ g7
    clear k7 g7 k6 f8 b6 S6 sa6 hp6 htc
    dsimp only
    obtain ⟨d8,hp8⟩:=k8.ob
    refine aG ?_
    refine ⟨_,rfl,x,d8,_,rfl,hp8,dO rfl,(by show 6<=sizeLine;decide),fun td htd=>?_⟩
    have k9:=k8.same (Same.upd (o:=.tup (([0,0,0,0,5,1]:List Int).map V.int)) htd)
    have g9:=new (oo:=.tup (([0,0,0,0,5,1]:List Int).map V.int)) htd g8
    refine ⟨x,l,ts++[t5],t8,Ss++[_],_,td,[0,0,0,0,5,1],rfl,k9,by rw [zA2];show ts.length+1<=100;lia,ao,⟨Jb,(show ps.length < 10 by lia)⟩,fun v9 t10 H10 f10 k10=>?_⟩
    have g10:=gen f10 ⟨_,k9.el⟩ g9
    clear k9 g9 k8 f10 g8 hp8 htd
    dsimp only
    obtain ⟨d10,hp10⟩:=k10.ob
    refine aG ?_
    refine ⟨_,rfl,x,d10,_,rfl,hp10,dO rfl,x,l,ts++[t5]++[t8],t10,_,_,rfl,k10,by simp,fun H11 f11 k11=>?_⟩
    have g11:=gen f11 ⟨_,k10.el⟩ g10
    clear g10 f11 hp10 k10
    dsimp only
    obtain ⟨d11,hp11⟩:=k11.ob
    refine aG ?_
    refine ⟨_,rfl,x,d11,_,rfl,hp11,dO rfl,x,l,ts++[t5],t8,_,_,rfl,k11,by simp,fun H12 f12 k12=>?_⟩
    have g12:=gen f12 ⟨_,k11.el⟩ g11
    clear g11 f12 hp11 k11
    dsimp only
    obtain ⟨S12,b12,sa12⟩:=g12
    refine ⟨_,rfl,_,rfl,x,l,ts,t5,Ss,bk,cs,ps,ss,rfl,k12,b12,o,fun H13 s13=>⟨_,rfl,?_⟩⟩
    refine bD ?_
    refine hn2 _ _ ⟨_,_,rfl,S12.trans s13,?_,b12.same s13⟩
    obtain ⟨u,v,e,k⟩:=sa12
    exact ⟨u,v,s13 _ _ e,k⟩
   ·rintro σ Hc ⟨x4,x5,rfl,sc,_,_⟩
    exact hn_ _ _ ⟨_,_,_,_,_,rfl,sc⟩
  ·rintro σ Hc ⟨x1,x2,x3,x4,x5,rfl,sc⟩
   exact q Hc
end
end K74

namespace PySem.W.Fast
theorem tw2826080803915407360:True:=⟨⟩
theorem tw6397481498621759584:True:=⟨⟩
theorem tw6074670467226286240:True:=⟨⟩
theorem tw570820372479535392:True:=⟨⟩
theorem tw8667636630191731040:True:=⟨⟩
theorem tw2668029692714996160:True:=⟨⟩
theorem tw16010569067822176704:True:=⟨⟩
theorem tw6715805151479370240:True:=⟨⟩
theorem tw6224345579901414912:True:=⟨⟩
theorem tw9555119703434383008:True:=⟨⟩
theorem tw2896091453644064480:True:=⟨⟩
theorem tw17620812719893351232:True:=⟨⟩
theorem tw6132875245700927424:True:=⟨⟩
theorem tw16813879592737597376:True:=⟨⟩
theorem tw13843345429736785985:True:=⟨⟩
theorem tw15011841241216898113:True:=⟨⟩
theorem tw9036981898325912673:True:=⟨⟩
theorem tw7669578948840021217:True:=⟨⟩
theorem tw9756623881146147073:True:=⟨⟩
theorem tw8818855602134200609:True:=⟨⟩
theorem tw16805316384774861281:True:=⟨⟩
theorem tw12496121663509458497:True:=⟨⟩
theorem tw3398463724154851905:True:=⟨⟩
theorem tw3917784852282453825:True:=⟨⟩
theorem tw2951298611799641953:True:=⟨⟩
theorem tw16550242781834824706:True:=⟨⟩
theorem tw16955217484177389602:True:=⟨⟩
theorem tw6673108867542898722:True:=⟨⟩
theorem tw5320774034958664866:True:=⟨⟩
theorem tw11049102848816498850:True:=⟨⟩
theorem tw10244478394666244258:True:=⟨⟩
theorem tw4609195286334566626:True:=⟨⟩
theorem tw5760607891992780098:True:=⟨⟩
theorem tw11935872757776138594:True:=⟨⟩
theorem tw5588581082837772738:True:=⟨⟩
theorem tw12736200926467646978:True:=⟨⟩
theorem tw4093981668522197506:True:=⟨⟩
theorem tw15121947684940416738:True:=⟨⟩
theorem tw10274886274750114530:True:=⟨⟩
theorem tw5343654303140262690:True:=⟨⟩
theorem tw17383296728450268994:True:=⟨⟩
theorem tw10216120438967538594:True:=⟨⟩
theorem tw17807498002205708226:True:=⟨⟩
theorem tw1126750946345701379:True:=⟨⟩
theorem tw14958576823797003331:True:=⟨⟩
theorem tw15052847673116611651:True:=⟨⟩
theorem tw862389754492981379:True:=⟨⟩
theorem tw3810891744324326595:True:=⟨⟩
theorem tw17195756923502222659:True:=⟨⟩
theorem tw12825070211069916611:True:=⟨⟩
theorem tw14719966265243388355:True:=⟨⟩
theorem tw8858772300017286627:True:=⟨⟩
theorem tw18144918711726107107:True:=⟨⟩
theorem tw12969515435659751939:True:=⟨⟩
theorem tw3093329333670408771:True:=⟨⟩
theorem tw10864748288311071427:True:=⟨⟩
theorem tw7724855285261719267:True:=⟨⟩
theorem tw15069113640053650275:True:=⟨⟩
theorem tw1871007271760854979:True:=⟨⟩
theorem tw18310222063954921604:True:=⟨⟩
theorem tw1104494317883461828:True:=⟨⟩
theorem tw16758518933005788356:True:=⟨⟩
theorem tw2183626658482828612:True:=⟨⟩
theorem tw233966068910518628:True:=⟨⟩
theorem tw10773535646756240996:True:=⟨⟩
theorem tw13241002964215346916:True:=⟨⟩
theorem tw5090880270291973892:True:=⟨⟩
theorem tw12206315694375330660:True:=⟨⟩
theorem tw16704819529989830564:True:=⟨⟩
theorem tw7301996395988047812:True:=⟨⟩
theorem tw16226290315198807012:True:=⟨⟩
theorem tw1227763024888324068:True:=⟨⟩
theorem tw5760831605725851620:True:=⟨⟩
theorem tw1054356141139548645:True:=⟨⟩
theorem tw669533054010695205:True:=⟨⟩
theorem tw5084742146175168133:True:=⟨⟩
theorem tw15681980037245867781:True:=⟨⟩
theorem tw17316686231421000517:True:=⟨⟩
theorem tw16551219567468031813:True:=⟨⟩
theorem tw10753737109728037829:True:=⟨⟩
theorem tw3663145801301554278:True:=⟨⟩
theorem tw1957731152537366694:True:=⟨⟩
theorem tw18002694501065586950:True:=⟨⟩
theorem tw9186908733589781862:True:=⟨⟩
theorem tw2877016422291142054:True:=⟨⟩
theorem tw11206798117634984454:True:=⟨⟩
theorem tw2107784209538439686:True:=⟨⟩
theorem tw9143301799860801190:True:=⟨⟩
theorem tw4752554202409844390:True:=⟨⟩
theorem tw18336243545001334534:True:=⟨⟩
theorem tw1476022383878304518:True:=⟨⟩
theorem tw4678863316280567718:True:=⟨⟩
theorem tw16065432476749934566:True:=⟨⟩
theorem tw15662529444079084647:True:=⟨⟩
theorem tw795958591541270663:True:=⟨⟩
theorem tw6807166721387506951:True:=⟨⟩
theorem tw5393458366909077799:True:=⟨⟩
theorem tw8020564838671584551:True:=⟨⟩
theorem tw10416450270169529671:True:=⟨⟩
theorem tw4085920182141605319:True:=⟨⟩
theorem tw5192518310402991591:True:=⟨⟩
theorem tw2382200311620472295:True:=⟨⟩
theorem tw1686268600141385223:True:=⟨⟩
theorem tw2001585816625399335:True:=⟨⟩
theorem tw8247139539883995751:True:=⟨⟩
theorem tw12491448668477300359:True:=⟨⟩
theorem tw8909706310310450823:True:=⟨⟩
theorem tw782781524619134631:True:=⟨⟩
theorem tw10313683548755988135:True:=⟨⟩
theorem tw934349047533551463:True:=⟨⟩
theorem tw4428793197755545511:True:=⟨⟩
theorem tw7136614563895835591:True:=⟨⟩
theorem tw17493958419272598568:True:=⟨⟩
theorem tw11019052504033864744:True:=⟨⟩
theorem tw7055931804298506280:True:=⟨⟩
theorem tw15804572426398367816:True:=⟨⟩
theorem tw10540118001673997416:True:=⟨⟩
theorem tw7289450816025994408:True:=⟨⟩
theorem tw7837162941401920680:True:=⟨⟩
theorem tw15962748333458898152:True:=⟨⟩
theorem tw3643049848201890024:True:=⟨⟩
theorem tw13381671918587553064:True:=⟨⟩
theorem tw3587888341067230568:True:=⟨⟩
theorem tw6807351022705817032:True:=⟨⟩
theorem tw12441200829396810184:True:=⟨⟩
theorem tw18262996714057555496:True:=⟨⟩
theorem tw831779002222025320:True:=⟨⟩
theorem tw16945248342727348904:True:=⟨⟩
theorem tw7224276750911641288:True:=⟨⟩
theorem tw5211507671696770792:True:=⟨⟩
theorem tw13736196859355134760:True:=⟨⟩
theorem tw11400865185704910664:True:=⟨⟩
theorem tw9243706055906852776:True:=⟨⟩
theorem tw11341062754823191528:True:=⟨⟩
theorem tw10632227271699890152:True:=⟨⟩
theorem tw3807250383853966345:True:=⟨⟩
theorem tw10444192952784489545:True:=⟨⟩
theorem tw12701031545477934249:True:=⟨⟩
theorem tw15566400946050220233:True:=⟨⟩
theorem tw13486908913514628297:True:=⟨⟩
theorem tw18381875967453882633:True:=⟨⟩
theorem tw8885505621387920649:True:=⟨⟩
theorem tw16533992697052683593:True:=⟨⟩
theorem tw16865548640642640233:True:=⟨⟩
theorem tw88835328875278953:True:=⟨⟩
theorem tw17934917259987862217:True:=⟨⟩
theorem tw14995748158602043113:True:=⟨⟩
theorem tw8431509551636361961:True:=⟨⟩
theorem tw14757153580335529737:True:=⟨⟩
theorem tw3610334140143121161:True:=⟨⟩
theorem tw6845561101794750281:True:=⟨⟩
theorem tw1371744170457854921:True:=⟨⟩
theorem tw8967198357941683145:True:=⟨⟩
theorem tw15551351473765159913:True:=⟨⟩
theorem tw8163380567290779690:True:=⟨⟩
theorem tw1626097982344766602:True:=⟨⟩
theorem tw936589182140225770:True:=⟨⟩
theorem tw6099926983282227434:True:=⟨⟩
theorem tw9796266442722293098:True:=⟨⟩
theorem tw11178459138118633994:True:=⟨⟩
theorem tw7103042773447712362:True:=⟨⟩
theorem tw14597714752519663210:True:=⟨⟩
theorem tw12235274147587869322:True:=⟨⟩
theorem tw14890220257984884426:True:=⟨⟩
theorem tw9818543175115999018:True:=⟨⟩
theorem tw8285742544171716394:True:=⟨⟩
theorem tw8284535630698855338:True:=⟨⟩
theorem tw7577020583269524394:True:=⟨⟩
theorem tw13623598009264443338:True:=⟨⟩
theorem tw9188640781949930539:True:=⟨⟩
theorem tw1331023401995749451:True:=⟨⟩
theorem tw4940794988021885003:True:=⟨⟩
theorem tw7290316348809844939:True:=⟨⟩
theorem tw4650511608874359019:True:=⟨⟩
theorem tw12452316261768735979:True:=⟨⟩
theorem tw13658646784039840011:True:=⟨⟩
theorem tw134729270144330027:True:=⟨⟩
theorem tw10394235244806525227:True:=⟨⟩
theorem tw1951278261362904427:True:=⟨⟩
theorem tw2693254894155079019:True:=⟨⟩
theorem tw4164072961817668971:True:=⟨⟩
theorem tw11471186722078600587:True:=⟨⟩
theorem tw9866780711748524459:True:=⟨⟩
theorem tw117659504960880043:True:=⟨⟩
theorem tw3642788450867678667:True:=⟨⟩
theorem tw15260484281371659755:True:=⟨⟩
theorem tw2168334263066048011:True:=⟨⟩
theorem tw14052074372598987339:True:=⟨⟩
theorem tw6246562060288386635:True:=⟨⟩
theorem tw4583451663006697099:True:=⟨⟩
theorem tw13056345668198016715:True:=⟨⟩
theorem tw14821699634516847307:True:=⟨⟩
theorem tw9029849460042435275:True:=⟨⟩
theorem tw5746275036414754603:True:=⟨⟩
theorem tw13869453276887138219:True:=⟨⟩
theorem tw13879084086494949291:True:=⟨⟩
theorem tw8957241198961937355:True:=⟨⟩
theorem tw11353597218360688684:True:=⟨⟩
theorem tw7693581207926917164:True:=⟨⟩
theorem tw6155663189372804236:True:=⟨⟩
theorem tw15191484758261016812:True:=⟨⟩
theorem tw15704709698886202668:True:=⟨⟩
theorem tw11107691419806341452:True:=⟨⟩
theorem tw9156261611788979692:True:=⟨⟩
theorem tw17088525853613908556:True:=⟨⟩
theorem tw3150431041208348332:True:=⟨⟩
theorem tw5920883779572154060:True:=⟨⟩
theorem tw2651615862386025228:True:=⟨⟩
theorem tw701388645482087308:True:=⟨⟩
theorem tw17235224397505286060:True:=⟨⟩
theorem tw18068923780275358733:True:=⟨⟩
theorem tw2638557979647605869:True:=⟨⟩
theorem tw8166339414152801485:True:=⟨⟩
theorem tw7521955163737956589:True:=⟨⟩
theorem tw3921218990230114605:True:=⟨⟩
theorem tw5636272111922148685:True:=⟨⟩
theorem tw11554095572146533773:True:=⟨⟩
theorem tw2776725076034154925:True:=⟨⟩
theorem tw9258753924661795309:True:=⟨⟩
theorem tw15071681541665617421:True:=⟨⟩
theorem tw13637414792110714381:True:=⟨⟩
theorem tw13900973633437164077:True:=⟨⟩
theorem tw868817285524809293:True:=⟨⟩
theorem tw2182632967072107085:True:=⟨⟩
theorem tw11653228645975933613:True:=⟨⟩
theorem tw15332123193632324269:True:=⟨⟩
theorem tw16653416448438723277:True:=⟨⟩
theorem tw18317325102659595053:True:=⟨⟩
theorem tw18090385150355623821:True:=⟨⟩
theorem tw16397894566799344557:True:=⟨⟩
theorem tw14990417314334093358:True:=⟨⟩
theorem tw15101166276948727886:True:=⟨⟩
theorem tw11381556504845250670:True:=⟨⟩
theorem tw3757824550617613422:True:=⟨⟩
theorem tw5259528981447693454:True:=⟨⟩
theorem tw8933108268031013038:True:=⟨⟩
theorem tw18104938181800017070:True:=⟨⟩
theorem tw10117433691118671086:True:=⟨⟩
theorem tw919183954325826958:True:=⟨⟩
theorem tw4753064246032654734:True:=⟨⟩
theorem tw372529862844167598:True:=⟨⟩
theorem tw11594920425694371310:True:=⟨⟩
theorem tw14316304406488837678:True:=⟨⟩
theorem tw14857548470771203662:True:=⟨⟩
theorem tw5646183853773672014:True:=⟨⟩
theorem tw2548730255898893934:True:=⟨⟩
theorem tw5314491213447931630:True:=⟨⟩
theorem tw9629879079166734094:True:=⟨⟩
theorem tw10480762969539902318:True:=⟨⟩
theorem tw4748724328040828878:True:=⟨⟩
theorem tw2035451883507754990:True:=⟨⟩
theorem tw10853087449278277647:True:=⟨⟩
theorem tw13845914420679204943:True:=⟨⟩
theorem tw15796323809594839311:True:=⟨⟩
theorem tw12493382823513722159:True:=⟨⟩
theorem tw2478957937648964975:True:=⟨⟩
theorem tw12347267315456927119:True:=⟨⟩
theorem tw3550323588585990607:True:=⟨⟩
theorem tw10257879928839342543:True:=⟨⟩
theorem tw8936619736443760175:True:=⟨⟩
theorem tw11581037098637824623:True:=⟨⟩
theorem tw17144688527330766479:True:=⟨⟩
theorem tw4137389970649603791:True:=⟨⟩
theorem tw18112148858638569199:True:=⟨⟩
theorem tw17589736131055254351:True:=⟨⟩
theorem tw6165058426731562831:True:=⟨⟩
theorem tw15458554724769094511:True:=⟨⟩
theorem tw4727224698468033455:True:=⟨⟩
theorem tw2629249062263203952:True:=⟨⟩
theorem tw7526729828639651984:True:=⟨⟩
theorem tw9104145064807610512:True:=⟨⟩
theorem tw6057628547720974512:True:=⟨⟩
theorem tw16435140958215612752:True:=⟨⟩
theorem tw13196349363736998352:True:=⟨⟩
theorem tw10674079770035838544:True:=⟨⟩
theorem tw18018641479770212976:True:=⟨⟩
theorem tw4678319143486929584:True:=⟨⟩
theorem tw13009066032400258800:True:=⟨⟩
theorem tw15696448930378879760:True:=⟨⟩
theorem tw9328095676067361712:True:=⟨⟩
theorem tw1902754581894327345:True:=⟨⟩
theorem tw13706759721016065105:True:=⟨⟩
theorem tw2892096917589971057:True:=⟨⟩
theorem tw3131572617090531473:True:=⟨⟩
theorem tw3754800632804758673:True:=⟨⟩
theorem tw5770497412721302705:True:=⟨⟩
theorem tw7914747105762843025:True:=⟨⟩
theorem tw16655769967569592785:True:=⟨⟩
theorem tw3298592897202486801:True:=⟨⟩
theorem tw3045378508887181041:True:=⟨⟩
theorem tw1219470387285056273:True:=⟨⟩
theorem tw2335631346825660241:True:=⟨⟩
theorem tw3068113164790377297:True:=⟨⟩
theorem tw4787456599314846545:True:=⟨⟩
theorem tw11122550372506100657:True:=⟨⟩
theorem tw8879694836199590833:True:=⟨⟩
theorem tw11406378226317526993:True:=⟨⟩
theorem tw8389413755071253489:True:=⟨⟩
theorem tw14143463984208439281:True:=⟨⟩
theorem tw5230413174410243154:True:=⟨⟩
theorem tw2358377153451710738:True:=⟨⟩
theorem tw10627793723113926930:True:=⟨⟩
theorem tw695547174176503186:True:=⟨⟩
theorem tw14315451938932062898:True:=⟨⟩
theorem tw1832053827735747314:True:=⟨⟩
theorem tw4939754516924799762:True:=⟨⟩
theorem tw8247294761317027602:True:=⟨⟩
theorem tw9155381177245864754:True:=⟨⟩
theorem tw9076570219614109586:True:=⟨⟩
theorem tw511851535037744050:True:=⟨⟩
theorem tw17079864835078517875:True:=⟨⟩
theorem tw5051206453912370291:True:=⟨⟩
theorem tw15002228694582938771:True:=⟨⟩
theorem tw6138980397901222067:True:=⟨⟩
theorem tw7932954096462724307:True:=⟨⟩
theorem tw5933253524971554163:True:=⟨⟩
theorem tw7893543513257592211:True:=⟨⟩
theorem tw9365585598621564339:True:=⟨⟩
theorem tw17570265691596706259:True:=⟨⟩
theorem tw11174097291792152051:True:=⟨⟩
theorem tw906340233064269459:True:=⟨⟩
theorem tw6382823409217431251:True:=⟨⟩
theorem tw14677406155328543635:True:=⟨⟩
theorem tw8240008071225785267:True:=⟨⟩
theorem tw7785251352567344083:True:=⟨⟩
theorem tw10137081104174777492:True:=⟨⟩
theorem tw3039284916864065780:True:=⟨⟩
theorem tw12270619503297800532:True:=⟨⟩
theorem tw273277342199789908:True:=⟨⟩
theorem tw4742354811445833076:True:=⟨⟩
theorem tw5761243459675084180:True:=⟨⟩
theorem tw17078002773554404788:True:=⟨⟩
theorem tw8550055946018931156:True:=⟨⟩
theorem tw13869168847218757108:True:=⟨⟩
theorem tw7428325619881327124:True:=⟨⟩
theorem tw15714417010976054868:True:=⟨⟩
theorem tw15256481309267322484:True:=⟨⟩
theorem tw8390939295691942516:True:=⟨⟩
theorem tw16975155751915402900:True:=⟨⟩
theorem tw7866176032727457460:True:=⟨⟩
theorem tw6641278650959192756:True:=⟨⟩
theorem tw10699893930519727828:True:=⟨⟩
theorem tw16566486548342641396:True:=⟨⟩
theorem tw110100044444022580:True:=⟨⟩
theorem tw13132130194242451477:True:=⟨⟩
theorem tw15973090180354133:True:=⟨⟩
theorem tw12688996728567806069:True:=⟨⟩
theorem tw11167099108994583701:True:=⟨⟩
theorem tw15701560520156763285:True:=⟨⟩
theorem tw9064873019376041109:True:=⟨⟩
theorem tw13569661979741790421:True:=⟨⟩
theorem tw12688737898670210261:True:=⟨⟩
theorem tw11483481687164325173:True:=⟨⟩
theorem tw618740771285978453:True:=⟨⟩
theorem tw17830903629727674741:True:=⟨⟩
theorem tw620048974989380981:True:=⟨⟩
theorem tw15579709839762616917:True:=⟨⟩
theorem tw4151508848188350101:True:=⟨⟩
theorem tw12121513119847497397:True:=⟨⟩
theorem tw12893955551602646773:True:=⟨⟩
theorem tw7064662618324320181:True:=⟨⟩
theorem tw1451200757747436469:True:=⟨⟩
theorem tw10184356388355917813:True:=⟨⟩
theorem tw13073694996287691830:True:=⟨⟩
theorem tw18368354200487994454:True:=⟨⟩
theorem tw9357429221154278486:True:=⟨⟩
theorem tw15258133129159020726:True:=⟨⟩
theorem tw1462464061394754742:True:=⟨⟩
theorem tw126680538263996598:True:=⟨⟩
theorem tw3138919080489027830:True:=⟨⟩
theorem tw13226736295487170806:True:=⟨⟩
theorem tw10982201768519662838:True:=⟨⟩
theorem tw8944549917617344790:True:=⟨⟩
theorem tw15088414128149504310:True:=⟨⟩
theorem tw1305073421785407798:True:=⟨⟩
theorem tw15896707002483488054:True:=⟨⟩
theorem tw2556399958312345014:True:=⟨⟩
theorem tw17072564842033140182:True:=⟨⟩
theorem tw9334852699992088022:True:=⟨⟩
theorem tw1530979011187157526:True:=⟨⟩
theorem tw10947210652081012246:True:=⟨⟩
theorem tw7522424270977000982:True:=⟨⟩
theorem tw6122420218833036822:True:=⟨⟩
theorem tw7635769170772103830:True:=⟨⟩
theorem tw13653448770059786038:True:=⟨⟩
theorem tw17812532979298781014:True:=⟨⟩
theorem tw2623485570776616822:True:=⟨⟩
theorem tw7049691703181770678:True:=⟨⟩
theorem tw14762727070494434262:True:=⟨⟩
theorem tw11167643732744701047:True:=⟨⟩
theorem tw17662935798949810295:True:=⟨⟩
theorem tw12758861781080078551:True:=⟨⟩
theorem tw10635184326349258007:True:=⟨⟩
theorem tw16175403824856477015:True:=⟨⟩
theorem tw3362919966056651223:True:=⟨⟩
theorem tw11340932631522933207:True:=⟨⟩
theorem tw233227135166282199:True:=⟨⟩
theorem tw4907292664691549687:True:=⟨⟩
theorem tw4349330932414430743:True:=⟨⟩
theorem tw13003535821965348567:True:=⟨⟩
theorem tw15823102050109794071:True:=⟨⟩
theorem tw13557627949312989975:True:=⟨⟩
theorem tw6708597563971426103:True:=⟨⟩
theorem tw14712133591160759159:True:=⟨⟩
theorem tw5787900652147431351:True:=⟨⟩
theorem tw15775951977700566999:True:=⟨⟩
theorem tw10782824989495381975:True:=⟨⟩
theorem tw2830881301211114616:True:=⟨⟩
theorem tw4155601993733812344:True:=⟨⟩
theorem tw4506825172704890008:True:=⟨⟩
theorem tw12741876517648903352:True:=⟨⟩
theorem tw12577736506446229688:True:=⟨⟩
theorem tw6964494095800557816:True:=⟨⟩
theorem tw10904532815275308312:True:=⟨⟩
theorem tw12500854894988683576:True:=⟨⟩
theorem tw12915416722384603544:True:=⟨⟩
theorem tw15892632587484353080:True:=⟨⟩
theorem tw17991101384791469656:True:=⟨⟩
theorem tw1467199819696543384:True:=⟨⟩
theorem tw13136325976216462008:True:=⟨⟩
theorem tw5892823020031665848:True:=⟨⟩
theorem tw1384610444986482392:True:=⟨⟩
theorem tw18298740603262289752:True:=⟨⟩
theorem tw15062182509777251256:True:=⟨⟩
theorem tw8467777244788517816:True:=⟨⟩
theorem tw9426813842434858041:True:=⟨⟩
theorem tw5739245674698825785:True:=⟨⟩
theorem tw3477607104754874489:True:=⟨⟩
theorem tw11715695471072835897:True:=⟨⟩
theorem tw12758123210246502745:True:=⟨⟩
theorem tw5487867460054107481:True:=⟨⟩
theorem tw11662196973336180185:True:=⟨⟩
theorem tw13583134501197968857:True:=⟨⟩
theorem tw7251083469302735321:True:=⟨⟩
theorem tw1511350992835334713:True:=⟨⟩
theorem tw5114772955285947065:True:=⟨⟩
theorem tw13460834826574060249:True:=⟨⟩
theorem tw14592776139441535833:True:=⟨⟩
theorem tw11793334556075057049:True:=⟨⟩
theorem tw13876649975531663321:True:=⟨⟩
theorem tw15022581351067289626:True:=⟨⟩
theorem tw13952940713906640986:True:=⟨⟩
theorem tw18429919520174741722:True:=⟨⟩
theorem tw9262112507861397882:True:=⟨⟩
theorem tw11554031398963952058:True:=⟨⟩
theorem tw744937987451681210:True:=⟨⟩
theorem tw2988451235879572026:True:=⟨⟩
theorem tw6393126745330685594:True:=⟨⟩
theorem tw10960638509844139706:True:=⟨⟩
theorem tw15476413062935747290:True:=⟨⟩
theorem tw12865359667763011290:True:=⟨⟩
theorem tw13956350260977468154:True:=⟨⟩
theorem tw5673379344917231418:True:=⟨⟩
theorem tw12659732018185367418:True:=⟨⟩
theorem tw10516855789060694043:True:=⟨⟩
theorem tw2657399798321751067:True:=⟨⟩
theorem tw12788160349369847835:True:=⟨⟩
theorem tw6755684833697164315:True:=⟨⟩
theorem tw15894779531218425051:True:=⟨⟩
theorem tw9645574891725447419:True:=⟨⟩
theorem tw4212384084240058651:True:=⟨⟩
theorem tw10382101583707665691:True:=⟨⟩
theorem tw3542064572185106779:True:=⟨⟩
theorem tw7633910493915339099:True:=⟨⟩
theorem tw11290123156713418107:True:=⟨⟩
theorem tw5915241591009145339:True:=⟨⟩
theorem tw501582976851552795:True:=⟨⟩
theorem tw17709131394899558011:True:=⟨⟩
theorem tw2043882021550584443:True:=⟨⟩
theorem tw11646531509543270011:True:=⟨⟩
theorem tw14742301285545379483:True:=⟨⟩
theorem tw2309398363957100219:True:=⟨⟩
theorem tw1413897916141014939:True:=⟨⟩
theorem tw11037435215116778427:True:=⟨⟩
theorem tw12666742456637798331:True:=⟨⟩
theorem tw6759978590825684955:True:=⟨⟩
theorem tw14766444092012946524:True:=⟨⟩
theorem tw2979718973541804156:True:=⟨⟩
theorem tw13211406902794410108:True:=⟨⟩
theorem tw14427347427149920476:True:=⟨⟩
theorem tw9410420356016936220:True:=⟨⟩
theorem tw4056467488559800636:True:=⟨⟩
theorem tw2786787719671593596:True:=⟨⟩
theorem tw3177918429968380636:True:=⟨⟩
theorem tw6063520574877775708:True:=⟨⟩
theorem tw18179670155649309596:True:=⟨⟩
theorem tw15364814189849463740:True:=⟨⟩
theorem tw3113827283065938940:True:=⟨⟩
theorem tw123421184828291133:True:=⟨⟩
theorem tw5426822881159263325:True:=⟨⟩
theorem tw2421091869187168349:True:=⟨⟩
theorem tw9014604362405641405:True:=⟨⟩
theorem tw7650480349319420157:True:=⟨⟩
theorem tw17510196113039166781:True:=⟨⟩
theorem tw10072424773649250717:True:=⟨⟩
theorem tw5928097017267927453:True:=⟨⟩
theorem tw585062727733640701:True:=⟨⟩
theorem tw12078681726302509597:True:=⟨⟩
theorem tw3468588297539310141:True:=⟨⟩
theorem tw5092284338200893021:True:=⟨⟩
theorem tw908496116861783677:True:=⟨⟩
theorem tw2532023365161997117:True:=⟨⟩
theorem tw15745336302119445309:True:=⟨⟩
theorem tw4380239212526457693:True:=⟨⟩
theorem tw1098617348425640861:True:=⟨⟩
theorem tw14480808173045127101:True:=⟨⟩
theorem tw6175231580748006526:True:=⟨⟩
theorem tw13608356716220359870:True:=⟨⟩
theorem tw6074343488558115038:True:=⟨⟩
theorem tw3953322978220028190:True:=⟨⟩
theorem tw15601167841037739326:True:=⟨⟩
theorem tw12456735997606249822:True:=⟨⟩
theorem tw10521314952179048830:True:=⟨⟩
theorem tw18165204949328605598:True:=⟨⟩
theorem tw10255990914838393246:True:=⟨⟩
theorem tw12097665374493247902:True:=⟨⟩
theorem tw3509736702334006782:True:=⟨⟩
theorem tw9425275926779528766:True:=⟨⟩
theorem tw14586789285634840254:True:=⟨⟩
theorem tw16151496983577086686:True:=⟨⟩
theorem tw16169422209197433630:True:=⟨⟩
theorem tw16212184652629513022:True:=⟨⟩
theorem tw7268303579768181566:True:=⟨⟩
theorem tw5768093349478134622:True:=⟨⟩
theorem tw16552623357875398558:True:=⟨⟩
theorem tw11290225565808365502:True:=⟨⟩
theorem tw621894950823511998:True:=⟨⟩
theorem tw9129789194526756895:True:=⟨⟩
theorem tw17965028525230125183:True:=⟨⟩
theorem tw8742051794951834783:True:=⟨⟩
theorem tw8033535124862091551:True:=⟨⟩
theorem tw10529429914162488607:True:=⟨⟩
theorem tw9390041051555621151:True:=⟨⟩
theorem tw13921605995559054751:True:=⟨⟩
theorem tw1369472025241531807:True:=⟨⟩
theorem tw985726447540266431:True:=⟨⟩
theorem tw6751202063216695743:True:=⟨⟩
theorem tw16947364648623847135:True:=⟨⟩
theorem tw15749155253965965087:True:=⟨⟩
theorem tw15119346643873824543:True:=⟨⟩
theorem tw6492936562782260031:True:=⟨⟩
theorem tw3683277035984436095:True:=⟨⟩
theorem tw17563988826929843071:True:=⟨⟩
theorem tw16444991629821472671:True:=⟨⟩
theorem tw14579846809167631737:True:=⟨⟩
end PySem.W.Fast

namespace K74
open PySem L2
theorem el1 {C:List Value->Prop}(h:∀ a0:Value,C [a0]):∀ us:List Value,us.length=1->C us:=fun us e=>match us,e with | [a0],_=>h a0
theorem el2 {C:List Value->Prop}(h:∀ a0 a1:Value,C [a0,a1]):∀ us:List Value,us.length=2->C us:=fun us e=>match us,e with | [a0,a1],_=>h a0 a1
theorem el3 {C:List Value->Prop}(h:∀ a0 a1 a2:Value,C [a0,a1,a2]):∀ us:List Value,us.length=3->C us:=fun us e=>match us,e with | [a0,a1,a2],_=>h a0 a1 a2
theorem el4 {C:List Value->Prop}(h:∀ a0 a1 a2 a3:Value,C [a0,a1,a2,a3]):∀ us:List Value,us.length=4->C us:=fun us e=>match us,e with | [a0,a1,a2,a3],_=>h a0 a1 a2 a3
theorem el5 {C:List Value->Prop}(h:∀ a0 a1 a2 a3 a4:Value,C [a0,a1,a2,a3,a4]):∀ us:List Value,us.length=5->C us:=fun us e=>match us,e with | [a0,a1,a2,a3,a4],_=>h a0 a1 a2 a3 a4
def Has (K:PySem.W.Frag)(x:Str)(st:Stmt):Prop:=∃ (f:Addr) (od an:Option Addr) (sl:Array (Option Value)) (oc kV dc pm cd ct:Value),PySem.W.nsIn K mainGlobals x=some (some (.ref f)) /\
 K.lookup f=some ⟨oc,od,.func (PySem.W.fnOf x x (dI st) (dC st) (aJ st) .none kV dc pm an cd ct),sl⟩/\PySem.W.codeIn K cd x=true/\PySem.W.keepIn K (.ref f)=true
theorem has_mk {K:PySem.W.Frag}{x:Str}{st:Stmt}{f:Addr}{od an:Option Addr}{sl:Array (Option Value)}{oc kV dc pm cd ct:Value}(a:PySem.W.nsIn K mainGlobals x=some (some (.ref f)))
  (l:K.lookup f=some ⟨oc,od,.func (PySem.W.fnOf x x (dI st) (dC st) (aJ st) .none kV dc pm an cd ct),sl⟩) (c:PySem.W.codeIn K cd x=true) (k:PySem.W.keepIn K (.ref f)=true):Has K x st:=⟨f,od,an,sl,oc,kV,dc,pm,cd,ct,a,l,c,k⟩
theorem Has.get {K:PySem.W.Frag}{x:Str}{st:Stmt}{h:Heap}{mg:Str->Option Value}(H:Has K x st)(X:K.In h)(G:h.Ns mainGlobals mg):∃ f fd,Fun K x x st f fd/\mg x=some (.ref f):=by
 obtain ⟨f,od,an,sl,oc,kV,dc,pm,cd,ct,a,l,c,k⟩:=H
 exact ⟨f,_,uG (st:=st) l c k,PySem.W.mg_of X G a⟩
theorem aW {P:Program}{w:World}{K:PySem.W.Frag}{mg:Str->Option Value}{base:Heap}{k:Nat}{x:Str}{ps:List Str}{sp:Sp}{f:Addr}{fd:FuncData}(F:FnOk P w K mg base CX0 k f fd ps sp)(m:mg x=some (.ref f))(kp:PySem.W.keepIn K (.ref f)=true)(b:Binds K fd ps []):Cal P w K mg base k x ps sp:=⟨f,fd,F,m,kp,b⟩
def HasM (K:PySem.W.Frag)(C:Addr)(m q:Str)(st:Stmt):Prop:=∃ (f:Addr) (od an:Option Addr) (sl:Array (Option Value)) (oc kV dc pm cd ct:Value),PySem.W.findIn K (.ref C) m=some (some (.ref f))/\PySem.W.isFn K (.ref f)=true /\
 K.lookup f=some ⟨oc,od,.func (PySem.W.fnOf m q (dI st) (dC st) (aJ st) .none kV dc pm an cd ct),sl⟩/\PySem.W.codeIn K cd q=true/\PySem.W.keepIn K (.ref f)=true
theorem hasm_mk {K:PySem.W.Frag}{C:Addr}{m q:Str}{st:Stmt}{f:Addr}{od an:Option Addr}{sl:Array (Option Value)}{oc kV dc pm cd ct:Value}(a:PySem.W.findIn K (.ref C) m=some (some (.ref f)))(i:PySem.W.isFn K (.ref f)=true)
  (l:K.lookup f=some ⟨oc,od,.func (PySem.W.fnOf m q (dI st) (dC st) (aJ st) .none kV dc pm an cd ct),sl⟩) (c:PySem.W.codeIn K cd q=true) (k:PySem.W.keepIn K (.ref f)=true):HasM K C m q st:=⟨f,od,an,sl,oc,kV,dc,pm,cd,ct,a,i,l,c,k⟩
theorem HasM.get {K:PySem.W.Frag}{C:Addr}{m q:Str}{st:Stmt}(H:HasM K C m q st):∃ f fd,Fun K m q st f fd/\Meth K C m f:=by
 obtain ⟨f,od,an,sl,oc,kV,dc,pm,cd,ct,a,i,l,c,k⟩:=H
 exact ⟨f,_,uG (st:=st) l c k,⟨a,i,k⟩⟩
theorem fH {P:Program}{w:World}{K:PySem.W.Frag}{mg:Str->Option Value}{base:Heap}{C:Addr}{k:Nat}{x:Str}{ps:List Str}{sp:Sp}{f:Addr}{fd:FuncData}(F:FnOk P w K mg base CX0 k f fd ps sp)(m:Meth K C x f)(b:Binds K fd ps []):gw P w K mg base C k x ps sp:=⟨f,fd,F,m,b⟩
theorem all_mk {l:PySem.W.OpenLaw}{w:World}{K:PySem.W.Frag}{h:Heap}{mg:Str->Option Value}{fa fL C:Addr}{odL anL:Option Addr}{slL:Array (Option Value)}{ocL kVL dcL pmL cdL ctL:Value}{t0 t1 t2 t3 t4 t5 t6 t7 t8 t9 t10:Tok}(X:K.In h)(G:h.Ns mainGlobals mg)(hfa:mg "law" = some (.ref fa))
  (h15:Has K "is_whole" (top 15))
  (h16:Has K "is_whole_from" (top 16))
  (h17:Has K "is_tuple_of" (top 17))
  (h18:Has K "are_wholes" (top 18))
  (h29:Has K "is_clip" (top 29))
  (h30:Has K "are_clips" (top 30))
  (h31:Has K "is_promise" (top 31))
  (h32:Has K "are_promises" (top 32))
  (h33:Has K "are_sales" (top 33))
  (h35:Has K "held_in" (top 35))
  (h36:Has K "is_sale_between" (top 36))
  (h37:Has K "sale_holds" (top 37))
  (h38:Has K "first_unheld" (top 38))
  (h39:Has K "is_book" (top 39))
  (h40:Has K "refuse_no_book" (top 40))
  (h44:Has K "are_weights" (top 44))
  (h45:Has K "refuse_unpartable" (top 45))
  (h46:Has K "places_by_rest" (top 46))
  (h47:Has K "parts_of" (top 47))
  (h48:Has K "parted" (top 48))
  (h50:Has K "sacks_of" (top 50))
  (h51:Has K "claims_in" (top 51))
  (h52:Has K "shares_of" (top 52))
  (h53:Has K "made_good" (top 53))
  (h54:Has K "sort_given" (top 54))
  (h55:Has K "year_given" (top 55))
  (h56:Has K "years_given" (top 56))
  (h58:Has K "refuse_no_year_of" (top 58))
  (h59:Has K "refuse_no_year" (top 59))
  (h60:Has K "gifts_in" (top 60))
  (h62:Has K "owed_behind" (top 62))
  (h63:Has K "owed_by" (top 63))
  (h67:Has K "lack_by" (top 67))
  (h34:Has K "refuse_one_more" (top 34))
  (h57:Has K "gifts_by_year" (top 57))
  (h69:Has K "_law_cell_at" (top 69))
  (h70:Has K "_law_state" (top 70))
  (h71:Has K "_law_take" (top 71))
  (h72:Has K "_law_clips" (top 72))
  (h73:Has K "_law_promises" (top 73))
  (h74:Has K "_law_begun" (top 74))
  (h75:Has K "_law_holds" (top 75))
  (h76:Has K "_law_sell" (top 76))
  (h77:Has K "_law_sold" (top 77))
  (h78:Has K "_law_any_sale" (top 78))
  (h79:Has K "_law_sales" (top 79))
  (h80:Has K "_law_book" (top 80))
  (h81:Has K "_law_do" (top 81))
  (h82:Has K "_law_fed" (top 82))
  (h83:Has K "_law_right" (top 83))
  (aL:PySem.W.nsIn K mainGlobals "law" = some (some (.ref fL))) (lL:K.lookup fL=some ⟨ocL,odL,.func (PySem.W.fnOf "law" "law" (dI (top 84)) (dC (top 84)) (aJ (top 84)) .none kVL dcL pmL anL cdL ctL),slL⟩) (cL:PySem.W.codeIn K cdL "law" = true) (kL:PySem.W.keepIn K (.ref fL)=true)
  (aC:PySem.W.nsIn K mainGlobals "Keeper" = some (some (.ref C))) (cpg:PySem.W.plainGet K C Str.empty=true) (chd:PySem.W.hasDictIn K C=true) (cpo:PySem.W.plainOver K C=true) (csa:PySem.W.findIn K (.ref C) "__setattr__" = some (some (.builtin "object.__setattr__"))) (cmk:PySem.W.makesIn K C=true) (ckc:PySem.W.keepIn K (.ref C)=true)
  (cn0:PySem.W.findIn K (.ref C) "stages" = some none)
  (hm0:HasM K C "__init__" "Keeper.__init__" (inClass (top 65) 0))
  (hm1:HasM K C "book_now" "Keeper.book_now" (inClass (top 65) 1))
  (hm2:HasM K C "shear" "Keeper.shear" (inClass (top 65) 2))
  (hm3:HasM K C "pledge" "Keeper.pledge" (inClass (top 65) 3))
  (hm4:HasM K C "sell" "Keeper.sell" (inClass (top 65) 4))
  (hm5:HasM K C "undo" "Keeper.undo" (inClass (top 65) 5))
  (hm6:HasM K C "gifts_of" "Keeper.gifts_of" (inClass (top 65) 6))
  (hm7:HasM K C "owed_now" "Keeper.owed_now" (inClass (top 65) 7))
  (hm8:HasM K C "lack_now" "Keeper.lack_now" (inClass (top 65) 8))
  (n0:PySem.W.nsIn K mainGlobals "SORTS" = some (some (.int 3 t0)))
  (n1:PySem.W.nsIn K mainGlobals "HOLDERS" = some (some (.int 8 t1)))
  (n2:PySem.W.nsIn K mainGlobals "LAST_YEAR" = some (some (.int 19 t2)))
  (n3:PySem.W.nsIn K mainGlobals "MOST_CLIPS" = some (some (.int 20 t3)))
  (n4:PySem.W.nsIn K mainGlobals "MOST_PROMISES" = some (some (.int 10 t4)))
  (n5:PySem.W.nsIn K mainGlobals "MOST_WOOL" = some (some (.int 999 t5)))
  (n6:PySem.W.nsIn K mainGlobals "MOST_SACKS" = some (some (.int 99 t6)))
  (n7:PySem.W.nsIn K mainGlobals "MOST_PRICE" = some (some (.int 1000000 t7)))
  (n8:PySem.W.nsIn K mainGlobals "MOST_SALES" = some (some (.int 12 t8)))
  (n9:PySem.W.nsIn K mainGlobals "MOST_WEIGHTS" = some (some (.int 80 t9)))
  (n10:PySem.W.nsIn K mainGlobals "MOST_WEIGHT" = some (some (.int 99 t10)))
  (z_isinstance:PySem.W.nsIn K mainGlobals "isinstance" = some none)
  (z_int:PySem.W.nsIn K mainGlobals "int" = some none)
  (z_bool:PySem.W.nsIn K mainGlobals "bool" = some none)
  (z_tuple:PySem.W.nsIn K mainGlobals "tuple" = some none)
  (z_len:PySem.W.nsIn K mainGlobals "len" = some none)
  (z_all:PySem.W.nsIn K mainGlobals "all" = some none)
  (z_range:PySem.W.nsIn K mainGlobals "range" = some none)
  (z_list:PySem.W.nsIn K mainGlobals "list" = some none)
  (z_max:PySem.W.nsIn K mainGlobals "max" = some none)
  (z_min:PySem.W.nsIn K mainGlobals "min" = some none)
  (z_zip:PySem.W.nsIn K mainGlobals "zip" = some none)
  (z_enumerate:PySem.W.nsIn K mainGlobals "enumerate" = some none)
  (z_sorted:PySem.W.nsIn K mainGlobals "sorted" = some none)
  (z_sum:PySem.W.nsIn K mainGlobals "sum" = some none)
  : ∃ fd:FuncData,(∀ (s:Shared) (v:Value),BindsTo s fd ⟨[v],[]⟩ [("_law_script",v)])/\∀ base:Heap,K.In base->base.Ns mainGlobals mg->FnOk l.prog w K mg base CX0 63 fa fd ["_law_script"] (wO K):=by
 have e:=hfa.symm.trans (PySem.W.mg_of X G aL)
 cases e
 have FL:=uG (st:=top 84) lL cL kL
 obtain ⟨f15,fd15,F15,m15⟩:=h15.get X G
 have b15:=F15.binds (ps:=["thing"]) fun _ _ _ _ _ _=>el1 fun _=>rfl
 obtain ⟨f16,fd16,F16,m16⟩:=h16.get X G
 have b16:=F16.binds (ps:=["thing","least","most"]) fun _ _ _ _ _ _=>el3 fun _ _ _=>rfl
 obtain ⟨f17,fd17,F17,m17⟩:=h17.get X G
 have b17:=F17.binds (ps:=["thing","fewest","most"]) fun _ _ _ _ _ _=>el3 fun _ _ _=>rfl
 obtain ⟨f18,fd18,F18,m18⟩:=h18.get X G
 have b18:=F18.binds (ps:=["thing","many"]) fun _ _ _ _ _ _=>el2 fun _ _=>rfl
 obtain ⟨f29,fd29,F29,m29⟩:=h29.get X G
 have b29:=F29.binds (ps:=["thing"]) fun _ _ _ _ _ _=>el1 fun _=>rfl
 obtain ⟨f30,fd30,F30,m30⟩:=h30.get X G
 have b30:=F30.binds (ps:=["thing"]) fun _ _ _ _ _ _=>el1 fun _=>rfl
 obtain ⟨f31,fd31,F31,m31⟩:=h31.get X G
 have b31:=F31.binds (ps:=["thing"]) fun _ _ _ _ _ _=>el1 fun _=>rfl
 obtain ⟨f32,fd32,F32,m32⟩:=h32.get X G
 have b32:=F32.binds (ps:=["thing"]) fun _ _ _ _ _ _=>el1 fun _=>rfl
 obtain ⟨f33,fd33,F33,m33⟩:=h33.get X G
 have b33:=F33.binds (ps:=["thing"]) fun _ _ _ _ _ _=>el1 fun _=>rfl
 obtain ⟨f35,fd35,F35,m35⟩:=h35.get X G
 have b35:=F35.binds (ps:=["promises","sales","number","year"]) fun _ _ _ _ _ _=>el4 fun _ _ _ _=>rfl
 obtain ⟨f36,fd36,F36,m36⟩:=h36.get X G
 have b36:=F36.binds (ps:=["promises","sale"]) fun _ _ _ _ _ _=>el2 fun _ _=>rfl
 obtain ⟨f37,fd37,F37,m37⟩:=h37.get X G
 have b37:=F37.binds (ps:=["promises","ahead","sale"]) fun _ _ _ _ _ _=>el3 fun _ _ _=>rfl
 obtain ⟨f38,fd38,F38,m38⟩:=h38.get X G
 have b38:=F38.binds (ps:=["promises","sales"]) fun _ _ _ _ _ _=>el2 fun _ _=>rfl
 obtain ⟨f39,fd39,F39,m39⟩:=h39.get X G
 have b39:=F39.binds (ps:=["thing"]) fun _ _ _ _ _ _=>el1 fun _=>rfl
 obtain ⟨f40,fd40,F40,m40⟩:=h40.get X G
 have b40:=F40.binds (ps:=["thing"]) fun _ _ _ _ _ _=>el1 fun _=>rfl
 obtain ⟨f44,fd44,F44,m44⟩:=h44.get X G
 have b44:=F44.binds (ps:=["thing"]) fun _ _ _ _ _ _=>el1 fun _=>rfl
 obtain ⟨f45,fd45,F45,m45⟩:=h45.get X G
 have b45:=F45.binds (ps:=["sacks","weights"]) fun _ _ _ _ _ _=>el2 fun _ _=>rfl
 obtain ⟨f46,fd46,F46,m46⟩:=h46.get X G
 have b46:=F46.binds (ps:=["rests"]) fun _ _ _ _ _ _=>el1 fun _=>rfl
 obtain ⟨f47,fd47,F47,m47⟩:=h47.get X G
 have b47:=F47.binds (ps:=["sacks","weights"]) fun _ _ _ _ _ _=>el2 fun _ _=>rfl
 obtain ⟨f48,fd48,F48,m48⟩:=h48.get X G
 have b48:=F48.binds (ps:=["sacks","weights"]) fun _ _ _ _ _ _=>el2 fun _ _=>rfl
 obtain ⟨f50,fd50,F50,m50⟩:=h50.get X G
 have b50:=F50.binds (ps:=["rows"]) fun _ _ _ _ _ _=>el1 fun _=>rfl
 obtain ⟨f51,fd51,F51,m51⟩:=h51.get X G
 have b51:=F51.binds (ps:=["promises","sales","sort","year"]) fun _ _ _ _ _ _=>el4 fun _ _ _ _=>rfl
 obtain ⟨f52,fd52,F52,m52⟩:=h52.get X G
 have b52:=F52.binds (ps:=["wool","claims"]) fun _ _ _ _ _ _=>el2 fun _ _=>rfl
 obtain ⟨f53,fd53,F53,m53⟩:=h53.get X G
 have b53:=F53.binds (ps:=["wool","owed"]) fun _ _ _ _ _ _=>el2 fun _ _=>rfl
 obtain ⟨f54,fd54,F54,m54⟩:=h54.get X G
 have b54:=F54.binds (ps:=["wool","claims","owed"]) fun _ _ _ _ _ _=>el3 fun _ _ _=>rfl
 obtain ⟨f55,fd55,F55,m55⟩:=h55.get X G
 have b55:=F55.binds (ps:=["book","year","owed"]) fun _ _ _ _ _ _=>el3 fun _ _ _=>rfl
 obtain ⟨f56,fd56,F56,m56⟩:=h56.get X G
 have b56:=F56.binds (ps:=["book","year"]) fun _ _ _ _ _ _=>el2 fun _ _=>rfl
 obtain ⟨f58,fd58,F58,m58⟩:=h58.get X G
 have b58:=F58.binds (ps:=["clips","year"]) fun _ _ _ _ _ _=>el2 fun _ _=>rfl
 obtain ⟨f59,fd59,F59,m59⟩:=h59.get X G
 have b59:=F59.binds (ps:=["book","year"]) fun _ _ _ _ _ _=>el2 fun _ _=>rfl
 obtain ⟨f60,fd60,F60,m60⟩:=h60.get X G
 have b60:=F60.binds (ps:=["book","year"]) fun _ _ _ _ _ _=>el2 fun _ _=>rfl
 obtain ⟨f62,fd62,F62,m62⟩:=h62.get X G
 have b62:=F62.binds (ps:=["book","year"]) fun _ _ _ _ _ _=>el2 fun _ _=>rfl
 obtain ⟨f63,fd63,F63,m63⟩:=h63.get X G
 have b63:=F63.binds (ps:=["book","year"]) fun _ _ _ _ _ _=>el2 fun _ _=>rfl
 obtain ⟨f67,fd67,F67,m67⟩:=h67.get X G
 have b67:=F67.binds (ps:=["book","year"]) fun _ _ _ _ _ _=>el2 fun _ _=>rfl
 obtain ⟨f34,fd34,F34,m34⟩:=h34.get X G
 have b34:=F34.binds (ps:=["rows","most"]) fun _ _ _ _ _ _=>el2 fun _ _=>rfl
 obtain ⟨f57,fd57,F57,m57⟩:=h57.get X G
 have b57:=F57.binds (ps:=["book"]) fun _ _ _ _ _ _=>el1 fun _=>rfl
 obtain ⟨f69,fd69,F69,m69⟩:=h69.get X G
 have b69:=F69.binds (ps:=["_law_script","_law_k"]) fun _ _ _ _ _ _=>el2 fun _ _=>rfl
 obtain ⟨f70,fd70,F70,m70⟩:=h70.get X G
 have b70:=F70.binds (ps:=["_law_script","_law_k"]) fun _ _ _ _ _ _=>el2 fun _ _=>rfl
 obtain ⟨f71,fd71,F71,m71⟩:=h71.get X G
 have b71:=F71.binds (ps:=["_law_state_here","_law_many"]) fun _ _ _ _ _ _=>el2 fun _ _=>rfl
 obtain ⟨f72,fd72,F72,m72⟩:=h72.get X G
 have b72:=F72.binds (ps:=["_law_state_here","_law_most"]) fun _ _ _ _ _ _=>el2 fun _ _=>rfl
 obtain ⟨f73,fd73,F73,m73⟩:=h73.get X G
 have b73:=F73.binds (ps:=["_law_state_here","_law_most","_law_years"]) fun _ _ _ _ _ _=>el3 fun _ _ _=>rfl
 obtain ⟨f74,fd74,F74,m74⟩:=h74.get X G
 have b74:=F74.binds (ps:=["_law_promises_here"]) fun _ _ _ _ _ _=>el1 fun _=>rfl
 obtain ⟨f75,fd75,F75,m75⟩:=h75.get X G
 have b75:=F75.binds (ps:=["_law_promises_here","_law_rows","_law_sale"]) fun _ _ _ _ _ _=>el3 fun _ _ _=>rfl
 obtain ⟨f76,fd76,F76,m76⟩:=h76.get X G
 have b76:=F76.binds (ps:=["_law_promises_here","_law_rows","_law_sale"]) fun _ _ _ _ _ _=>el3 fun _ _ _=>rfl
 obtain ⟨f77,fd77,F77,m77⟩:=h77.get X G
 have b77:=F77.binds (ps:=["_law_promises_here","_law_sales_here"]) fun _ _ _ _ _ _=>el2 fun _ _=>rfl
 obtain ⟨f78,fd78,F78,m78⟩:=h78.get X G
 have b78:=F78.binds (ps:=["_law_state_here","_law_promises_here"]) fun _ _ _ _ _ _=>el2 fun _ _=>rfl
 obtain ⟨f79,fd79,F79,m79⟩:=h79.get X G
 have b79:=F79.binds (ps:=["_law_state_here","_law_promises_here","_law_most"]) fun _ _ _ _ _ _=>el3 fun _ _ _=>rfl
 obtain ⟨f80,fd80,F80,m80⟩:=h80.get X G
 have b80:=F80.binds (ps:=["_law_state_here","_law_years","_law_most","_law_sales_here"]) fun _ _ _ _ _ _=>el4 fun _ _ _ _=>rfl
 obtain ⟨f81,fd81,F81,m81⟩:=h81.get X G
 have b81:=F81.binds (ps:=["_law_keeper","_law_deed"]) fun _ _ _ _ _ _=>el2 fun _ _=>rfl
 obtain ⟨f82,fd82,F82,m82⟩:=h82.get X G
 have b82:=F82.binds (ps:=["_law_state_here","_law_keeper","_law_book_here"]) fun _ _ _ _ _ _=>el3 fun _ _ _=>rfl
 obtain ⟨f83,fd83,F83,m83⟩:=h83.get X G
 have b83:=F83.binds (ps:=["_law_keeper","_law_book_here"]) fun _ _ _ _ _ _=>el2 fun _ _=>rfl
 obtain ⟨gm0,gd0,G0,mm0⟩:=hm0.get
 have bm0:=G0.binds (ps:=["self"]) fun _ _ _ _ _ _=>el1 fun _=>rfl
 obtain ⟨gm1,gd1,G1,mm1⟩:=hm1.get
 have bm1:=G1.binds (ps:=["self"]) fun _ _ _ _ _ _=>el1 fun _=>rfl
 obtain ⟨gm2,gd2,G2,mm2⟩:=hm2.get
 have bm2:=G2.binds (ps:=["self","clip"]) fun _ _ _ _ _ _=>el2 fun _ _=>rfl
 obtain ⟨gm3,gd3,G3,mm3⟩:=hm3.get
 have bm3:=G3.binds (ps:=["self","promise"]) fun _ _ _ _ _ _=>el2 fun _ _=>rfl
 obtain ⟨gm4,gd4,G4,mm4⟩:=hm4.get
 have bm4:=G4.binds (ps:=["self","sale"]) fun _ _ _ _ _ _=>el2 fun _ _=>rfl
 obtain ⟨gm5,gd5,G5,mm5⟩:=hm5.get
 have bm5:=G5.binds (ps:=["self"]) fun _ _ _ _ _ _=>el1 fun _=>rfl
 obtain ⟨gm6,gd6,G6,mm6⟩:=hm6.get
 have bm6:=G6.binds (ps:=["self","year"]) fun _ _ _ _ _ _=>el2 fun _ _=>rfl
 obtain ⟨gm7,gd7,G7,mm7⟩:=hm7.get
 have bm7:=G7.binds (ps:=["self"]) fun _ _ _ _ _ _=>el1 fun _=>rfl
 obtain ⟨gm8,gd8,G8,mm8⟩:=hm8.get
 have bm8:=G8.binds (ps:=["self"]) fun _ _ _ _ _ _=>el1 fun _=>rfl
 have XT:Txt K C:=⟨⟨cpg,chd,cpo,csa⟩,cn0⟩
 have T:Mg mg:=⟨(PySem.W.mg_none_of X G z_isinstance),(PySem.W.mg_none_of X G z_int),(PySem.W.mg_none_of X G z_bool),(PySem.W.mg_none_of X G z_tuple),(PySem.W.mg_none_of X G z_len),(PySem.W.mg_none_of X G z_all)⟩
 have TP:K74P.Mg mg:=⟨(PySem.W.mg_none_of X G z_isinstance),(PySem.W.mg_none_of X G z_int),(PySem.W.mg_none_of X G z_bool),(PySem.W.mg_none_of X G z_tuple),(PySem.W.mg_none_of X G z_len),(PySem.W.mg_none_of X G z_all)⟩
 have N:Nums mg:=⟨⟨t0,PySem.W.mg_of X G n0⟩,⟨t1,PySem.W.mg_of X G n1⟩,⟨t2,PySem.W.mg_of X G n2⟩,⟨t3,PySem.W.mg_of X G n3⟩,⟨t4,PySem.W.mg_of X G n4⟩,⟨t5,PySem.W.mg_of X G n5⟩,⟨t6,PySem.W.mg_of X G n6⟩,⟨t7,PySem.W.mg_of X G n7⟩⟩
 have NP:K74P.Nums mg:=⟨⟨t9,PySem.W.mg_of X G n9⟩,⟨t10,PySem.W.mg_of X G n10⟩⟩
 have N2:MS mg:=⟨⟨t8,PySem.W.mg_of X G n8⟩⟩
 refine ⟨PySem.W.fnOf "law" "law" (dI (top 84)) (dC (top 84)) (aJ (top 84)) .none kVL dcL pmL anL cdL ctL,fun s v=>.of_eq rfl,fun base _ _=>?_⟩
 have C15:=aW (P:=l.prog) (w:=w) (base:=base) (sU F15 T) m15 F15.kp b15
 have C16:=aW (P:=l.prog) (w:=w) (base:=base) (oR F16 C15) m16 F16.kp b16
 have C17:=aW (P:=l.prog) (w:=w) (base:=base) (mY F17 T) m17 F17.kp b17
 have C18:=aW (P:=l.prog) (w:=w) (base:=base) (oG F18 T C15 C17) m18 F18.kp b18
 have C29:=aW (P:=l.prog) (w:=w) (base:=base) (uM F29 T N C18) m29 F29.kp b29
 have C30:=aW (P:=l.prog) (w:=w) (base:=base) (qO F30 T N C29 C17) m30 F30.kp b30
 have C31:=aW (P:=l.prog) (w:=w) (base:=base) (oH F31 T N C18) m31 F31.kp b31
 have C32:=aW (P:=l.prog) (w:=w) (base:=base) (lB F32 T N C31 C17) m32 F32.kp b32
 have C33:=aW (P:=l.prog) (w:=w) (base:=base) (qP F33 T N2 C18 C17) m33 F33.kp b33
 have C35:=aW (P:=l.prog) (w:=w) (base:=base) (BK F35 N) m35 F35.kp b35
 have C36:=aW (P:=l.prog) (w:=w) (base:=base) (BL F36 T N) m36 F36.kp b36
 have C37:=aW (P:=l.prog) (w:=w) (base:=base) (zu F37 T (PySem.W.mg_none_of X G z_range) C36 C35) m37 F37.kp b37
 have C38:=aW (P:=l.prog) (w:=w) (base:=base) (zx F38 (PySem.W.mg_none_of X G z_enumerate) C32 C33 C37) m38 F38.kp b38
 have C39:=aW (P:=l.prog) (w:=w) (base:=base) (BP F39 C17 C30 C32 C33 C38) m39 F39.kp b39
 have C40:=aW (P:=l.prog) (w:=w) (base:=base) (Cv F40 C39) m40 F40.kp b40
 have C44:=aW (P:=l.prog) (w:=w) (base:=base) (K74P.ok_are_weights F44 TP NP C16 C17) m44 F44.kp b44
 have C45:=aW (P:=l.prog) (w:=w) (base:=base) (K74P.ok_refuse F45 (PySem.W.mg_none_of X G z_sum) C44 C16) m45 F45.kp b45
 have C46:=aW (P:=l.prog) (w:=w) (base:=base) (K74P.ok_places F46 (PySem.W.mg_none_of X G z_enumerate) (PySem.W.mg_none_of X G z_sorted)) m46 F46.kp b46
 have C47:=aW (P:=l.prog) (w:=w) (base:=base) (K74P.ok_parts F47 TP (PySem.W.mg_none_of X G z_sum) C46) m47 F47.kp b47
 have C48:=aW (P:=l.prog) (w:=w) (base:=base) (K74P.ok_parted F48 C45 C47) m48 F48.kp b48
 have C50:=aW (P:=l.prog) (w:=w) (base:=base) (zJ F50 (PySem.W.mg_none_of X G z_sum)) m50 F50.kp b50
 have C51:=aW (P:=l.prog) (w:=w) (base:=base) (xZ F51 (PySem.W.mg_none_of X G z_enumerate) C35) m51 F51.kp b51
 have C52:=aW (P:=l.prog) (w:=w) (base:=base) (xX F52 T (PySem.W.mg_none_of X G z_sum) C48) m52 F52.kp b52
 have C53:=aW (P:=l.prog) (w:=w) (base:=base) (Ce F53 (PySem.W.mg_none_of X G z_min)) m53 F53.kp b53
 have C54:=aW (P:=l.prog) (w:=w) (base:=base) (zQ F54 (PySem.W.mg_none_of X G z_sum) (PySem.W.mg_none_of X G z_list) (PySem.W.mg_none_of X G z_zip) C52 C53) m54 F54.kp b54
 have C55:=aW (P:=l.prog) (w:=w) (base:=base) (Cm F55 T N (PySem.W.mg_none_of X G z_range) (PySem.W.mg_none_of X G z_sorted) C51 C54 C50) m55 F55.kp b55
 have C56:=aW (P:=l.prog) (w:=w) (base:=base) (Aa F56 (PySem.W.mg_none_of X G z_range) C55) m56 F56.kp b56
 have C58:=aW (P:=l.prog) (w:=w) (base:=base) (Cw F58 T C16) m58 F58.kp b58
 have C59:=aW (P:=l.prog) (w:=w) (base:=base) (Ai F59 C40 C58) m59 F59.kp b59
 have C60:=aW (P:=l.prog) (w:=w) (base:=base) (Aj F60 C59 C56) m60 F60.kp b60
 have C62:=aW (P:=l.prog) (w:=w) (base:=base) (Ak F62 C56) m62 F62.kp b62
 have C63:=aW (P:=l.prog) (w:=w) (base:=base) (CJ F63 C59 C62) m63 F63.kp b63
 have C67:=aW (P:=l.prog) (w:=w) (base:=base) (CK F67 C59 C62 C50) m67 F67.kp b67
 have C34:=aW (P:=l.prog) (w:=w) (base:=base) (CN F34 T) m34 F34.kp b34
 have C57:=aW (P:=l.prog) (w:=w) (base:=base) (Fl F57 T C56) m57 F57.kp b57
 have CM0:MkM l.prog w K mg base C:=⟨gm0,gd0,CV G0 XT,⟨cmk,mm0.at_,mm0.fn,ckc⟩,bm0⟩
 have CM1:=fH (P:=l.prog) (w:=w) (mg:=mg) (base:=base) (Fo G1 XT) mm1 bm1
 have CM2:=fH (P:=l.prog) (w:=w) (mg:=mg) (base:=base) (Ao G2 XT N C29 CM1 C34) mm2 bm2
 have CM3:=fH (P:=l.prog) (w:=w) (mg:=mg) (base:=base) (yl G3 XT T N C31 CM1 C34) mm3 bm3
 have CM4:=fH (P:=l.prog) (w:=w) (mg:=mg) (base:=base) (Aq G4 XT N2 C18 C37 CM1 C34) mm4 bm4
 have CM5:=fH (P:=l.prog) (w:=w) (mg:=mg) (base:=base) (CW G5 XT T) mm5 bm5
 have CM6:=fH (P:=l.prog) (w:=w) (mg:=mg) (base:=base) (vg G6 XT CM1 C58 C57) mm6 bm6
 have CM7:=fH (P:=l.prog) (w:=w) (mg:=mg) (base:=base) (vh G7 XT T CM1 C62) mm7 bm7
 have CM8:=fH (P:=l.prog) (w:=w) (mg:=mg) (base:=base) (vm G8 XT CM7 C50) mm8 bm8
 have C69:=aW (P:=l.prog) (w:=w) (base:=base) (Bx F69 T) m69 F69.kp b69
 have C70:=aW (P:=l.prog) (w:=w) (base:=base) (zc F70 C69) m70 F70.kp b70
 have C71:=aW (P:=l.prog) (w:=w) (base:=base) (By F71) m71 F71.kp b71
 have C72:=aW (P:=l.prog) (w:=w) (base:=base) (yg F72 T (PySem.W.mg_none_of X G z_range) C71) m72 F72.kp b72
 have C73:=aW (P:=l.prog) (w:=w) (base:=base) (rE F73 T (PySem.W.mg_none_of X G z_range) (PySem.W.mg_none_of X G z_min) C71) m73 F73.kp b73
 have C74:=aW (P:=l.prog) (w:=w) (base:=base) (Ab F74 (PySem.W.mg_none_of X G z_enumerate) (PySem.W.mg_none_of X G z_range)) m74 F74.kp b74
 have C75:=aW (P:=l.prog) (w:=w) (base:=base) (yc F75 T (PySem.W.mg_none_of X G z_range) (PySem.W.mg_none_of X G z_min)) m75 F75.kp b75
 have C76:=aW (P:=l.prog) (w:=w) (base:=base) (Cr F76 (PySem.W.mg_none_of X G z_range)) m76 F76.kp b76
 have C77:=aW (P:=l.prog) (w:=w) (base:=base) (tY F77 (PySem.W.mg_none_of X G z_enumerate) C74 C75 C76) m77 F77.kp b77
 have CS:=aW (P:=l.prog) (w:=w) (base:=base) (Cu (tY F77 (PySem.W.mg_none_of X G z_enumerate) C74 C75 C76)) m77 F77.kp b77
 have C78:=aW (P:=l.prog) (w:=w) (base:=base) (Fi F78 T (PySem.W.mg_none_of X G z_max) C71) m78 F78.kp b78
 have C79:=aW (P:=l.prog) (w:=w) (base:=base) (yh F79 T (PySem.W.mg_none_of X G z_range) C71 C78 CS) m79 F79.kp b79
 have C80:=aW (P:=l.prog) (w:=w) (base:=base) (yj F80 T C72 C73 C79) m80 F80.kp b80
 have C81:=aW (P:=l.prog) (w:=w) (base:=base) (Hw F81 XT CM2 CM3 CM4) m81 F81.kp b81
 have C82:=aW (P:=l.prog) (w:=w) (base:=base) (Ft F82 C71 C81) m82 F82.kp b82
 have C83:=aW (P:=l.prog) (w:=w) (base:=base) (Ay F83 XT T (PySem.W.mg_none_of X G z_range) CM1 CM7 CM8 CM6 C63 C67 C60) m83 F83.kp b83
 exact Fw FL XT (PySem.W.mg_of X G aC) T (PySem.W.mg_none_of X G z_range) (PySem.W.mg_none_of X G z_max) (PySem.W.mg_none_of X G z_min) C70 C80 CM0 C82 C83 CM2 CM3 CM5
theorem walk {l:PySem.W.OpenLaw}{q:Program}{loose:List Str}{XP:(Str->Option Value)->Heap->Prop}{YP:World->Heap->Prop}{d:DefRec}{K:Params->PySem.W.Frag}(hn:l.most=some 63)(hdf:d.params.defaults=[])
  (hY:∀ (w:World) (h:Heap),YP w h->(K w.params).In h)
  (F:∀ (w:World) (mg:Str->Option Value) (fa:Addr) (h:Heap),(K w.params).In h->h.Ns mainGlobals mg->mg d.name=some (.ref fa) ->
   ∃ fd:FuncData,(∀ (s:Shared) (u:Value),BindsTo s fd ⟨[u],[]⟩ [("_law_script",u)])/\∀ base:Heap,(K w.params).In base->base.Ns mainGlobals mg->FnOk l.prog w (K w.params) mg base CX0 63 fa fd ["_law_script"] (wO (K w.params))) :
  PySem.W.WalkO q loose XP YP l.row.toRowW d [] (fun f vs=>PySem.call f vs) :=
 L2.walk_of (n:=63) (k:=63) (x:="_law_script") (CX:=fun _=>CX0) (sp:=fun w=>wO (K w.params)) hn (by decide) hdf ⟨rfl,by decide,by decide,rfl⟩ hY F (fun _ _ a ns hl _ hS=>⟨a,ns,rfl,hS,hl,fun _=>rfl⟩) fun _ _ _ _ _ z=>z
end K74
open PySem PySem.W PyProof.Rows
set_option maxRecDepth 100000 in
set_option maxHeartbeats 0 in
theorem PySem.Challenge.cw_woolyears_k74_whole_a_keeper_is_its_book_holds : PySem.Challenge.rw_woolyears_k74_whole_a_keeper_is_its_book.Holds := by
 w_on;o_law;k_head;(case hw=>w_witness2)
 k_fill
 refine K74.walk (l:=PySem.Challenge.rw_woolyears_k74_whole_a_keeper_is_its_book) rfl rfl (fun w h Y=>PySem.W.kIn_of Y) ?F
 case F =>
  intro w mg fa h KX G hmg
  refine' K74.all_mk KX G hmg ?h15 ?h16 ?h17 ?h18 ?h29 ?h30 ?h31 ?h32 ?h33 ?h35 ?h36 ?h37 ?h38 ?h39 ?h40 ?h44 ?h45 ?h46 ?h47 ?h48 ?h50 ?h51 ?h52 ?h53 ?h54 ?h55 ?h56 ?h58 ?h59 ?h60 ?h62 ?h63 ?h67 ?h34 ?h57 ?h69 ?h70 ?h71 ?h72 ?h73 ?h74 ?h75 ?h76 ?h77 ?h78 ?h79 ?h80 ?h81 ?h82 ?h83 ?aL ?lL ?cL ?kL ?aC ?cpg ?chd ?cpo ?csa ?cmk ?ckc ?cn0 ?hm0 ?hm1 ?hm2 ?hm3 ?hm4 ?hm5 ?hm6 ?hm7 ?hm8 ?n0 ?n1 ?n2 ?n3 ?n4 ?n5 ?n6 ?n7 ?n8 ?n9 ?n10 ?z0 ?z1 ?z2 ?z3 ?z4 ?z5 ?z6 ?z7 ?z8 ?z9 ?z10 ?z11 ?z12 ?z13
  case h15|h16|h17|h18|h29|h30|h31|h32|h33|h35|h36|h37|h38|h39|h40|h44|h45|h46|h47|h48|h50|h51|h52|h53|h54|h55|h56|h58|h59|h60|h62|h63|h67|h34|h57|h69|h70|h71|h72|h73|h74|h75|h76|h77|h78|h79|h80|h81|h82|h83=>
   refine' K74.has_mk ?a ?l ?c ?k
   case a|l|c|k=>k_is
  case aC|cpg|chd|cpo|csa|cmk|ckc|cn0=>k_is
  case hm0|hm1|hm2|hm3|hm4|hm5|hm6|hm7|hm8=>
   refine' K74.hasm_mk ?a ?i ?l ?c ?k
   case a|i|l|c|k=>k_is
  case aL|lL|cL|kL|n0|n1|n2|n3|n4|n5|n6|n7|n8|n9|n10|z0|z1|z2|z3|z4|z5|z6|z7|z8|z9|z10|z11|z12|z13=>k_is

