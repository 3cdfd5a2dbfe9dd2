import PyProof.Rows.All
import Wide.All
import OpenK.AllK
import Wide.FinOn
import Lean
import PyProof.EqAt
import PyProof.EqKinds
import PyProof.TupleCall
import PyProof.StrLawsRepr
import PyProof.ZipIter
import PySem.Challenge.RW_woolyears_k90_whole_due_given_and_owed
import PyProof.Rows.SortRunsK
import PyProof.AttrMissHeap
import PyProof.SeqRoads
import PyProof.ListOps
import PyProof.DictUpdate
import PyProof.DictWalks
import KE.KItemsList
import PyProof.ListNew
import PyProof.ListRange
import KE.KDictList
import PyProof.Rows.SortWalk
set_option compiler.extract_closed false
set_option Elab.async false
set_option linter.all false
set_option maxRecDepth 100000
set_option maxHeartbeats 4000000
noncomputable section
def zAt:=@decide_eq_true
def zAu:=@PySem.wpAny_bind
def zAv:=@if_neg
def zAw:=@if_pos
def zAx:=@PySem.Heap.get?_push_of_some
def zAy:=@PySem.W.mg_none_of
def zAz:=@PySem.wpAny_pure
def zB0:=@PySem.Heap.lt_size
def zB1:=@PySem.Heap.get?_push_size
def zB2:=@decide_eq_false
def zB3:=@of_decide_eq_true
def zB4:=@Nat.lt_of_lt_of_le
def zB5:=@PySem.PassesOwn.never
def zB6:=@List.mem_of_getElem?
def zB7:=@List.filter_cons_of_pos
def zB8:=@Nat.ne_of_lt
def zB9:=@List.filter_cons_of_neg
def zBa:=@List.take_append_drop
def zBb:=@List.getElem?_append_left
def zBc:=@List.getElem?_append_right
def zBd:=@List.mem_append_right
def zBe:=@PySem.F.type_list_append
def zBf:=@PySem.F.slot_list_append
def zBg:=@PySem.F.plainAttrs_list
def zA0:=@List.getElem?_eq_getElem
def zA1:=@List.length_map
def zA2:=@List.length_append
def zA3:=@Nat.le_refl
def zA4:=@List.map_append
def zA5:=@List.mem_map
def zA6:=@List.mem_append
def zA7:=@List.getD_eq_getElem?_getD
def zA8:=@List.size_toArray
def zA9:=@Array.length_toList
def zAa:=@List.getElem?_eq_some_iff
def zAb:=@List.getElem?_map
def zAc:=@Bool.and_eq_true
def zAd:=@List.length_take
def zAe:=@List.length_cons
def zAf:=@List.append_assoc
def zAg:=@Bool.false_ne_true
def zAh:=@List.getElem_mem
def zAi:=@Int.toNat_natCast
def zAj:=@List.take_add_one
def zAk:=@List.map_cons
def zAl:=@Option.some.inj
def zAm:=@List.take_length
def zAn:=@List.append_nil
def zAo:=@List.mem_cons
def zAp:=@Nat.zero_le
def zAq:=@List.mem_filter
def zAr:=@List.map_map
def zAs:=@List.length_zip
namespace L2
open PySem PySem.Spec PyProof.Rows
abbrev Key:=Sum Int Str
def jT:Key->Value->Bool
 | .inl k,v=>Value.isInt k v
 | .inr x,v=>Value.isStrOf x v
def GK (w:World):Key->Int
 | .inl k=>hashInt k
 | .inr x=>hashStr w x
theorem bM:∀ {k:Key} {v:Value},jT k v=true->(∃ i t,k=Sum.inl i/\v=Value.int i t)\/(∃ x t,k=Sum.inr x/\v=Value.str x t)
 | .inl i,v,h=>by
  obtain ⟨t,e⟩:=Value.isInt_shape (k:=i) (v:=v) h;exact .inl ⟨i,t,rfl,e⟩
 | .inr x,v,h=>by
  obtain ⟨t,e⟩:=Value.isStrOf_shape (x:=x) (v:=v) h;exact .inr ⟨x,t,rfl,e⟩
theorem vp (i:Int)(t:Tok):jT (.inl i) (.int i t)=true:=by simp [jT,Value.isInt]
theorem vq (x:Str)(t:Tok):jT (.inr x) (.str x t)=true:=by simp [jT,Value.isStrOf]
theorem CP (a b:Int):decide ((Sum.inl a:Key)=Sum.inl b)=(a == b):=by
 by_cases e:a=b
 ·subst e;simp
 ·have h:¬ (Sum.inl a:Key)=Sum.inl b:=fun q=>e (Sum.inl.inj q);rw [zB2 h];exact (beq_eq_false_iff_ne.mpr e).symm
theorem CQ (a b:Str):decide ((Sum.inr a:Key)=Sum.inr b)=decide (a=b):=by
 by_cases e:a=b
 ·subst e;simp
 ·have h:¬ (Sum.inr a:Key)=Sum.inr b:=fun q=>e (Sum.inr.inj q);rw [zB2 h,zB2 e]
theorem CT (a:Int)(b:Str):decide ((Sum.inl a:Key)=Sum.inr b)=false:=zB2 (fun q=>nomatch q)
theorem CV (a:Str)(b:Int):decide ((Sum.inr a:Key)=Sum.inl b)=false:=zB2 (fun q=>nomatch q)
def bJ (prog:Program)(w:World):PySem.KeyKind prog w Key where
 is:=jT
 hash:=GK w
 inj:=fun v a b ha hb=>by
  rcases bM ha with ⟨i,t,rfl,rfl⟩ | ⟨x,t,rfl,rfl⟩
  ·rcases bM hb with ⟨j,u,rfl,e⟩ | ⟨y,u,rfl,e⟩
   ·injection e with e1 _;rw [e1]
   ·exact nomatch e
  ·rcases bM hb with ⟨j,u,rfl,e⟩ | ⟨y,u,rfl,e⟩
   ·exact nomatch e
   ·injection e with e1 _;rw [e1]
 byValue:=fun k v h=>by
  rcases bM h with ⟨i,t,rfl,rfl⟩ | ⟨x,t,rfl,rfl⟩ <;> rfl
 pyHash:=fun hv h=>by
  rcases bM hv with ⟨i,t,rfl,rfl⟩ | ⟨x,t,rfl,rfl⟩
  ·exact wpAny_pyHash_int h
  ·exact wpAny_pyHash_str h
 eqBool:=fun hu hv h=>by
  rcases bM hu with ⟨i,t,rfl,rfl⟩ | ⟨x,t,rfl,rfl⟩
  ·rcases bM hv with ⟨j,u,rfl,rfl⟩ | ⟨y,u,rfl,rfl⟩
   ·rw [CP] at h;exact wpAny_eqBool_int h
   ·rw [CT] at h;exact SeqAt.EqAt.int_str i t y u _ _ _ _ h
  ·rcases bM hv with ⟨j,u,rfl,rfl⟩ | ⟨y,u,rfl,rfl⟩
   ·rw [CV] at h;exact SeqAt.EqAt.str_int x t j u _ _ _ _ h
   ·rw [CQ] at h;exact wpAny_eqBool_str h
 «strs»:=fun k x t v h=>by
  rcases bM h with ⟨i,u,rfl,e⟩ | ⟨y,u,rfl,e⟩
  ·exact nomatch e
  ·injection e with e1 _;subst e1;cases v <;> rfl
theorem qH (prog:Program)(w:World)(i:Int)(t:Tok):(bJ prog w).is (.inl i) (.int i t)=true:=vp i t
theorem qI (prog:Program)(w:World)(x:Str)(t:Tok):(bJ prog w).is (.inr x) (.str x t)=true:=vq x t
inductive V where
 | non | bl (b:Bool) | int (i:Int) | str (x:Str) | byt (b:Array UInt8) | flt (b:UInt64) | ref (a:Addr) | ty (n:String)
 deriving DecidableEq
def RelV:V->Value->Prop
 | .non,u=>u=Value.none
 | .bl b,u=>u=Value.bool b
 | .int i,u=>∃ t,u=Value.int i t
 | .str x,u=>∃ t,u=Value.str x t
 | .byt b,u=>∃ t,u=Value.bytes b t
 | .flt b,u=>∃ t,u=Value.float b t
 | .ref a,u=>u=Value.ref a
 | .ty n,u=>u=Value.type n
abbrev Vals:List V->List Value->Prop:=Paired RelV
theorem Vals.length {xs:List V}{us:List Value}(r:Vals xs us):xs.length=us.length:=Paired.length r
theorem Vals.get:∀ {xs:List V} {us:List Value} {i:Nat} {x:V},Vals xs us->xs[i]?=some x->∃ u,us[i]?=some u/\RelV x u
 | _,_,_,_,.nil,e=>by simp at e
 | _,_,0,_,.cons r _,e=>by simp at e;subst e;exact ⟨_,rfl,r⟩
 | _,_,i+1,x,.cons _ t,e=>by
  obtain ⟨u,h1,h2⟩:=Vals.get (i:=i) (x:=x) t (by simpa using e);exact ⟨u,by simpa using h1,h2⟩
theorem Vals.set {x:V}{u:Value}(r:RelV x u):∀ {xs:List V} {us:List Value} (i:Nat),Vals xs us->Vals (xs.set i x) (us.set i u)
 | _,_,_,.nil=>.nil
 | _,_,0,.cons _ t=>.cons r t
 | _,_,i+1,.cons q t=>.cons q (Vals.set r i t)
theorem Vals.append:∀ {xs ys:List V} {us ws:List Value},Vals xs us->Vals ys ws->Vals (xs++ys) (us++ws)
 | _,_,_,_,.nil,s=>s
 | _,_,_,_,.cons r t,s=>.cons r (Vals.append t s)
theorem Vals.take:∀ {xs:List V} {us:List Value} (n:Nat),Vals xs us->Vals (xs.take n) (us.take n)
 | _,_,0,_=>.nil
 | _,_,_+1,.nil=>.nil
 | _,_,n+1,.cons r t=>.cons r (Vals.take n t)
theorem Vals.drop:∀ {xs:List V} {us:List Value} (n:Nat),Vals xs us->Vals (xs.drop n) (us.drop n)
 | _,_,0,r=>r
 | _,_,_+1,.nil=>.nil
 | _,_,n+1,.cons _ t=>Vals.drop n t
def RelO:Option V->Option Value->Prop
 | some v,some u=>RelV v u
 | none,none=>True
 | _,_=>False
def KV {κ:Type}:List (κ×V)->List (κ×Value)->Prop:=Paired fun (p:κ×V) (q:κ×Value)=>p.1=q.1/\RelV p.2 q.2
def kV:Key->V
 | .inl i=>.int i
 | .inr x=>.str x
inductive HO where
  | lst (xs:List V)
  | tup (xs:List V)
  | dK (kvs:List (Key×V)) | dT (kvs:List (List Key×V))
  | set (S:Int->Bool) (n:Nat)
  | ins (C dx:Addr) (fs:List (Str×V))
  | own (x:Addr)
  | xd (fs:List (Str×V))
  | met (f x:Addr)
  | rng (lo hi:Int)
  | frz (o:Obj) (u:HO)
  | tbl (ps:Array Value)
  | ext (φ:Heap->Prop)
abbrev Hp:=Addr->Option HO
def upd (H:Hp)(a:Addr)(o:HO):Hp:=fun b=>if b=a then some o else H b
theorem aa {H:Hp}{a:Addr}{o:HO}:upd H a o a=some o:=by unfold upd;rw [zAw rfl]
theorem aC {H:Hp}{a b:Addr}{o:HO}(h:b≠a):upd H a o b=H b:=by unfold upd;rw [zAv h]
theorem Er {H:Hp}{a b:Addr}{o u:HO}(h:H a=some o)(h':H b=some u)(d:o≠u):a≠b:=by
 intro e;subst e;rw [h] at h';exact d (zAl h')
theorem aD {H:Hp}{a b:Addr}{o:HO}(h:H a=some o)(h':H b=none):a≠b:=by
 intro e;subst e;rw [h] at h';cases h'
section
variable (P:Program)(w:World)
def ObjOk (H:Hp)(h:Heap)(a:Addr):HO->Prop
 | .lst xs=>xs.length<=sizeLine/\∃ (its:List Value) (n:Nat),Vals xs its/\h.get? a=some { cls:=.type "list",data:=.seq its.toArray n }
 | .tup xs=>xs.length<=sizeLine/\∃ its:List Value,Vals xs its/\IsTup h a its.toArray
 | .dK kvs=>kvs.length<=sizeLine/\(a == sysModules)=false/\∃ vs,KV kvs vs/\h.DictOf (bJ P w) a vs
 | .dT kvs=>kvs.length<=sizeLine/\(a == sysModules)=false/\∃ xs:List (List Key×Addr×Value),
   Paired (fun (p:List Key×V) (q:List Key×Addr×Value)=>p.1=q.1/\H q.2.1=some (.tup (p.1.map kV))/\RelV p.2 q.2.2) kvs xs /\
   ∃ o es ep,h.get? a=some o/\o.ExactDict/\o.data=.dict es ep/\es.toList=xs.map (entryOfKey (tupleKind (bJ P w)))/\(xs.map (·.1)).Nodup
 | .set S n=>h.SetOf (intKind P w) a S n
 | .ins C dx fs=>H dx=some (.own a)/\fs.length<=1000/\dx≠a/\h.get? a=some (PySem.W.instObj C dx) /\
   ∃ mA,h.Ns1 dx mA/\(∀ f,RelO (fs.lookup f) (mA f))/\PySem.Within mA (fs.map (·.1))
 | .own _=>∃ o,h.get? a=some o
 | .xd fs=>∃ mA,h.Ns1 a mA/\∀ f,RelO (fs.lookup f) (mA f)
 | .rng lo hi=>∃ t u v,h.get? a=some { cls:=.type "range",data:=.fields #[.int lo t,.int hi u,.int 1 v] }
 | .frz o u=>h.get? a=some o/\ObjOk H h a u
 | .tbl ps=>h.get? a=some { cls:=.none,data:=.fields ps }
 | .met f x=>h.get? a=some (PySem.W.methodObj (.ref f) (.ref x))
 | .ext φ=>φ h/\(∃ o,h.get? a=some o)/\∀ h1 h2:Heap,φ h1->(∀ o,h1.get? a=some o->h2.get? a=some o)->φ h2
def HOk (H:Hp)(h:Heap):Prop:=∀ a o,H a=some o->ObjOk P w H h a o
end
section
variable {P:Program}{w:World}{H H':Hp}{h h':Heap}{a:Addr}{o:HO}
theorem ObjOk.lt (x:ObjOk P w H h a o):a < h.objs.size:=by
 cases o with
 | lst xs=>obtain ⟨_,_,_,_,e⟩:=x;exact zB0 e
 | tup xs=>obtain ⟨_,_,_,p⟩:=x;exact p.lt
 | dK kvs=>obtain ⟨_,_,_,_,o,_,_,e,_⟩:=x;exact zB0 e
 | dT kvs=>obtain ⟨_,_,_,_,o,_,_,e,_⟩:=x;exact zB0 e
 | set S n=>obtain ⟨o,_,_,_,e,_⟩:=x;exact zB0 e
 | ins C dx fs=>obtain ⟨_,_,_,e,_⟩:=x;exact zB0 e
 | own y=>obtain ⟨_,e⟩:=x;exact zB0 e
 | xd fs=>obtain ⟨_,⟨_,_,_,e,_⟩,_⟩:=x;exact zB0 e
 | rng lo hi=>obtain ⟨_,_,_,e⟩:=x;exact zB0 e
 | frz ob u=>obtain ⟨e,_⟩:=x;exact zB0 e
 | tbl ps=>exact zB0 (show h.get? a=some _ from x)
 | met f y=>exact zB0 (show h.get? a=some _ from x)
 | ext φ=>obtain ⟨_,⟨_,e⟩,_⟩:=x;exact zB0 e
theorem Paired.mapP {α β:Type}{F G:α->β->Prop}:∀ {ub:List α} {ui:List β},Paired F ub ui->(∀ a b,F a b->G a b)->Paired G ub ui
 | _,_,.nil,_=>.nil
 | _,_,.cons r t,f=>.cons (f _ _ r) (Paired.mapP t f)
theorem ObjOk.stay (x:ObjOk P w H h a o)(k:∀ b u,(b=a\/H b=some (.own a))->h.get? b=some u->h'.get? b=some u)
  (ho:∀ b,H b=some (.own a)->H' b=some (.own a)) (ht:∀ b xs,H b=some (.tup xs)->H' b=some (.tup xs)):ObjOk P w H' h' a o:=by
 induction o with
 | lst xs=>obtain ⟨z,its,n,r,e⟩:=x;exact ⟨z,its,n,r,k _ _ (.inl rfl) e⟩
 | tup xs=>obtain ⟨z,its,r,ob,e,c⟩:=x;exact ⟨z,its,r,ob,k _ _ (.inl rfl) e,c⟩
 | dK kvs=>obtain ⟨z,y,vs,r,ob,es,ep,e,c⟩:=x;exact ⟨z,y,vs,r,ob,es,ep,k _ _ (.inl rfl) e,c⟩
 | dT kvs =>
  obtain ⟨z,y,xs,r,ob,es,ep,e,c⟩:=x;exact ⟨z,y,xs,Paired.mapP r fun p q z=>⟨z.1,ht _ _ z.2.1,z.2.2⟩,ob,es,ep,k _ _ (.inl rfl) e,c⟩
 | set S n=>obtain ⟨ob,es,ep,t,e,c⟩:=x;exact ⟨ob,es,ep,t,k _ _ (.inl rfl) e,c⟩
 | ins C dx fs =>
  obtain ⟨d,z,ne,e,mA,⟨od,es,ep,e2,c⟩,r⟩:=x;exact ⟨ho _ d,z,ne,k _ _ (.inl rfl) e,mA,⟨od,es,ep,k _ _ (.inr d) e2,c⟩,r⟩
 | own y=>obtain ⟨ob,e⟩:=x;exact ⟨ob,k _ _ (.inl rfl) e⟩
 | xd fs=>obtain ⟨mA,⟨od,es,ep,e,c⟩,r⟩:=x;exact ⟨mA,⟨od,es,ep,k _ _ (.inl rfl) e,c⟩,r⟩
 | rng lo hi=>obtain ⟨t,u,v,e⟩:=x;exact ⟨t,u,v,k _ _ (.inl rfl) e⟩
 | frz ob u ih=>obtain ⟨e,q⟩:=x;exact ⟨k _ _ (.inl rfl) e,ih q⟩
 | tbl ps =>
  have e:h.get? a=some { cls:=.none,data:=.fields ps }:=x;show h'.get? a=some { cls:=.none,data:=.fields ps };exact k a _ (.inl rfl) e
 | met f y =>
  have e:h.get? a=some (PySem.W.methodObj (.ref f) (.ref y)):=x;show h'.get? a=some (PySem.W.methodObj (.ref f) (.ref y));exact k a _ (.inl rfl) e
 | ext φ=>obtain ⟨p,⟨o,e⟩,st⟩:=x;exact ⟨st _ _ p fun o q=>k _ _ (.inl rfl) q,⟨o,k _ _ (.inl rfl) e⟩,st⟩
theorem HOk.lt (x:HOk P w H h)(e:H a=some o):a < h.objs.size:=(x a o e).lt
theorem HOk.fresh (x:HOk P w H h)(e:h.objs.size<=a):H a=none:=by
 cases q:H a with
 | none=>rfl
 | some u=>exact absurd (zB4 (x.lt q) e) (Nat.lt_irrefl _)
theorem HOk.kept (x:HOk P w H h)(k:∀ b u,h.get? b=some u->h'.get? b=some u):HOk P w H h':=fun a o e =>
 (x a o e).stay (fun b u _ q=>k b u q) (fun _ q=>q) fun _ _ q=>q
theorem HOk.laid (x:HOk P w H h)(k:∀ b u,h.get? b=some u->h'.get? b=some u)(hp:h.objs.size<=a)(new:ObjOk P w (upd H a o) h' a o):HOk P w (upd H a o) h':=fun b u e=>by
 have hn:=x.fresh hp;by_cases hb:b=a
 ·subst hb;rw [aa] at e;cases e;exact new
 ·rw [aC hb] at e
  exact (x b u e).stay (fun c v _ q=>k c v q) (fun c q=>by rw [aC (aD q hn)];exact q) fun c xs q=>by rw [aC (aD q hn)];exact q
end
def Rd (H:Hp)(a:Addr)(u:HO):Prop:=H a=some u\/∃ o,H a=some (.frz o u)
theorem Rd.ok {P:Program}{w:World}{H:Hp}{h:Heap}{a:Addr}{u:HO}(r:Rd H a u)(x:HOk P w H h):ObjOk P w H h a u:=by
 rcases r with r | ⟨o,r⟩
 ·exact x a u r
 ·obtain ⟨_,q⟩:=x a _ r;exact q
def Mut:Option HO->Prop
 | some (.lst _)=>True
 | some (.dK _)=>True
 | some (.dT _)=>True
 | some (.set _ _)=>True
 | some (.ins _ _ _)=>True
 | some (.ext _)=>True
 | _=>False
section
variable {P:Program}{w:World}{H:Hp}{h h':Heap}{x e:Addr}{o':HO}
theorem HOk.write (ok:HOk P w H h)(mu:Mut (H x))(he:e=x\/H e=some (.own x))(k:∀ b u,b≠e->h.get? b=some u->h'.get? b=some u)(si:∃ u,h'.get? e=some u)
  (new:ObjOk P w (upd H x o') h' x o'):HOk P w (upd H x o') h':=fun b u q=>by
 have uj:∀ c y,H c=some (.own y)->c≠x:=fun c y r z=>by subst z;rw [r] at mu;exact mu
 have BI:∀ c xs,H c=some (.tup xs)->c≠x:=fun c xs r z=>by subst z;rw [r] at mu;exact mu
 by_cases hb:b=x
 ·subst hb;rw [aa] at q;cases q;exact new
 ·rw [aC hb] at q;by_cases om:b=e
  ·have q':H b=some (.own x):=by
    rcases he with z | z
    ·exact absurd (om.trans z) hb
    ·rw [om];exact z
   rw [q] at q';cases q';obtain ⟨v,hv⟩:=si;exact ⟨v,by rw [om];exact hv⟩
  ·refine (ok b u q).stay (fun c v hc r=>k c v ?_ r) (fun c r=>by rw [aC (uj c b r)];exact r) fun c xs r=>by rw [aC (BI c xs r)];exact r
   rcases hc with rfl | hc
   ·exact om
   ·rintro rfl;rcases he with z | z
    ·exact uj c b hc z
    ·rw [hc] at z;cases z;exact hb rfl
end
structure Un (fs ex:List Addr)(H H':Hp)(h h':Heap):Prop where
 keep:∀ b o,h.get? b=some o->H b=none->b ∉ fs->b ∉ ex->h'.get? b=some o
 slot:∀ b o,h.get? b=some o->H b=none->b∈fs->b ∉ ex->∃ sl,h'.get? b=some { o with slots:=sl }
 free:∀ b o,h.get? b=some o->H b=none->b ∉ ex->H' b=none
 there:∀ b o,h.get? b=some o->b ∉ ex->∃ o',h'.get? b=some o'
 tups:∀ b xs,H b=some (.tup xs)->H' b=some (.tup xs)
 frzs:∀ b o u,H b=some (.frz o u)->H' b=some (.frz o u)
 tbls:∀ b ps,H b=some (.tbl ps)->∃ more,H' b=some (.tbl (ps++more))
section
variable {fs JU ex Pr:List Addr}{H H1 H2:Hp}{h h1 h2 h':Heap}{a x e:Addr}{o:HO}
theorem Un.any (u:Un fs ex H H1 h h1){b:Addr}{ob:Obj}(q:h.get? b=some ob)(n:H b=none)(hx:b ∉ ex):∃ sl,h1.get? b=some { ob with slots:=sl }:=by
 by_cases hb:b∈fs
 ·exact u.slot b ob q n hb hx
 ·exact ⟨ob.slots,u.keep b ob q n hb hx⟩
theorem Un.kept (k:∀ b u,h.get? b=some u->h'.get? b=some u):Un fs ex H H h h' :=
 ⟨fun b ob q _ _ _=>k b ob q,fun b ob q _ _ _=>⟨ob.slots,k b ob q⟩,fun _ _ _ n _=>n,fun b ob q _=>⟨ob,k b ob q⟩,fun _ _ q=>q,fun _ _ _ q=>q,fun _ ps q=>⟨#[],by rw [q];simp⟩⟩
theorem Un.refl:Un fs ex H H h h:=Un.kept fun _ _ q=>q
theorem Un.laid (k:∀ b u,h.get? b=some u->h'.get? b=some u)(hp:h.objs.size<=a)(hn:H a=none):Un fs ex H (upd H a o) h h' where
 keep:=fun b u q _ _ _=>k b u q
 slot:=fun b u q _ _ _=>⟨u.slots,k b u q⟩
 free:=fun b u q n _=>by rw [aC (zB8 (zB4 (zB0 q) hp))];exact n
 there:=fun b u q _=>⟨u,k b u q⟩
 tups:=fun b xs q=>by rw [aC (aD q hn)];exact q
 frzs:=fun b u xs q=>by rw [aC (aD q hn)];exact q
 tbls:=fun b ps q=>⟨#[],by rw [aC (aD q hn),q];simp⟩
theorem Un.write (mu:Mut (H x))(he:e=x\/H e=some (.own x))(k:∀ b u,b≠e->h.get? b=some u->h'.get? b=some u)(si:∃ u,h'.get? e=some u):Un fs ex H (upd H x o) h h':=by
 have hx:∀ b,H b=none->b≠x:=fun b n z=>by subst z;rw [n] at mu;exact mu
 have hb:∀ b,H b=none->b≠e:=fun b n z=>by
  subst z;rcases he with r | r
  ·exact hx b n r
  ·rw [n] at r;cases r
 have hm:∀ b u,H b=some u->¬ Mut (some u)->b≠x:=fun b u q nm z=>by subst z;rw [q] at mu;exact nm mu
 refine ⟨fun b u q n _ _=>k b u (hb b n) q,fun b u q n _ _=>⟨u.slots,k b u (hb b n) q⟩,fun b u q n _=>by rw [aC (hx b n)];exact n,fun b u q _=>?_,
  fun b xs q=>by rw [aC (hm b _ q fun z=>z)];exact q,fun b u xs q=>by rw [aC (hm b _ q fun z=>z)];exact q,fun b ps q=>⟨#[],by rw [aC (hm b _ q fun z=>z),q];simp⟩⟩
 by_cases om:b=e
 ·subst om;exact si
 ·exact ⟨u,k b u om q⟩
end
def trk (h:Heap)(H:Hp):List Addr:=(List.range h.objs.size).filter fun a=>(H a).isSome
def oZ (h:Heap)(H:Hp):Heap:=PySem.W.hideAll h (trk h H)
theorem vy (h:Heap)(H:Hp):(oZ h H).objs.size=h.objs.size:=PySem.W.hideAll_size _ _
theorem wU {h:Heap}{H:Hp}{b:Addr}{o:Obj}(e:h.get? b=some o)(n:H b=none):(oZ h H).get? b=some o :=
 PySem.W.hideAll_get _ e fun hm=>by
  have q:(H b).isSome=true:=(zAq.mp hm).2;rw [n] at q;simp at q
theorem zN {h:Heap}{H:Hp}{b:Addr}{o:Obj}(e:(oZ h H).get? b=some o):h.get? b=some o/\H b=none:=by
 have e':h.get? b=some o:=PySem.W.of_hideAll (trk h H) e;refine ⟨e',?_⟩
 cases q:H b with
 | none=>rfl
 | some x =>
  have hm:b∈trk h H:=List.mem_filter.mpr ⟨List.mem_range.mpr (Heap.lt_size e'),by simp [q]⟩;have z:(oZ h H).get? b=none:=PySem.W.hideAll_none (trk h H) hm;rw [z] at e;cases e
structure Mod (K:PySem.W.Frag)(mg:Str->Option Value)(base:Heap):Prop where
 kin:K.In base
 glob:base.Ns mainGlobals mg
 blt:∃ mb,base.Ns builtinsNs mb/\∀ x:Str,x≠"__name__" -> mb x=bootBuiltins x
 nolimit:base.NoLimit
structure Cx where
 prog:Program
 w:World
 K:PySem.W.Frag
 mg:Str->Option Value
 base:Heap
 A:Around
 N:List Str
 s₀:Shared
 H₀:Hp
 env:Env
 outer:List Env
 stack:List Env
 ex:List Addr
 fn:Str->Bool
 calm:Bool
 pn:List (Addr×Obj)
 xe:Value->Shared->Prop
def frs (l:List Env):List Addr:=l.filterMap (·.frame)
abbrev Cx.fs (X:Cx):List Addr:=frs X.outer
def Vis (sc:Scope)(x:Str):Prop:=sc.names.lookup x=some .local\/sc.names.lookup x=some .cell\/sc.names.lookup x=some .free
def Loc (sc:Scope)(x:Str):Prop:=sc.names.lookup x=some .local\/sc.names.lookup x=some .cell
def Look (env:Env)(h:Heap)(m:Str->Option Value)(x:Str)(u:Value):Prop :=
 (env.kindOf x=some .local/\m x=some u)\/((env.kindOf x=some .cell\/env.kindOf x=some .free)/\∃ c,env.cells.lookup x=some c/\h.IsCell c (some u))
structure Cx.Ok (X:Cx):Prop where
 mod:Mod X.K X.mg X.base
 kind:X.env.scope.kind=.function
 glob:X.env.globals=mainGlobals
 blt:X.env.builtins=builtinsNs
 above:X.s₀.heap.objs.size<=X.env.locals
 inj:∀ x y c,X.env.cells.lookup x=some c->X.env.cells.lookup y=some c->x=y
 has:∀ x,(X.env.kindOf x=some .cell\/X.env.kindOf x=some .free)->∃ c,X.env.cells.lookup x=some c
 cab:∀ x c,X.fn x=true->X.env.cells.lookup x=some c->X.s₀.heap.objs.size<=c
 hd:X.calm=true->X.A.handled=none
 frames:X.A.frames=some X.stack
 stk:X.stack=X.outer\/(X.stack=X.env::X.outer/\X.env.frame=some X.env.locals)
 exf:∀ b∈X.ex,b≠X.env.locals/\∀ x c,X.env.cells.lookup x=some c->c≠b
 bs:∀ b o,X.base.get? b=some o->X.s₀.heap.get? b=some o/\X.H₀ b=none
 bsz:X.base.objs.size<=X.s₀.heap.objs.size
 noex:∀ b o,X.base.get? b=some o->b ∉ X.ex
 exfs:∀ b∈X.ex,b ∉ X.fs
 funs:X.s₀.heap.FunFrames X.base X.outer
 frf:∀ b∈X.fs,X.H₀ b=none
structure Inv (X:Cx)(pins:List (Addr×Obj))(σ:List (Option V))(H:Hp)(s:Shared):Prop where
 ok:X.Ok
 os:s.os=X.s₀.os
 bare:AllBare s.gens
 base:Un X.fs X.ex X.H₀ H X.s₀.heap s.heap
 loc:∃ m,s.heap.Ns X.env.locals m/\∀ (i:Nat) (x:Str) (v:V),X.N[i]?=some x->σ[i]?=some (some v)->Vis X.env.scope x->∃ u,RelV v u/\Look X.env s.heap m x u
 cell:∀ x c,X.env.cells.lookup x=some c->∃ v,s.heap.IsCell c v
 free:H X.env.locals=none
 freeC:∀ x c,X.env.cells.lookup x=some c->H c=none
 pin:∀ p∈X.pn++pins,s.heap.get? p.1=some p.2/\H p.1=none/\p.1≠X.env.locals/\p.1 ∉ X.fs/\∀ v,p.2.data≠.cell v
 hok:HOk X.prog X.w H s.heap
 len:σ.length=X.N.length
section
variable {X:Cx}{pins:List (Addr×Obj)}{σ:List (Option V)}{H H':Hp}{s:Shared}{h':Heap}
theorem Cx.Ok.nofr (ok:X.Ok){b:Addr}{o:Obj}(e:X.base.get? b=some o):b ∉ X.fs:=fun hb=>by
 have:=(ok.funs.mem hb).1;rw [e] at this;cases this
theorem Inv.bs (I:Inv X pins σ H s):∀ b o,X.base.get? b=some o->s.heap.get? b=some o/\H b=none:=fun b o e =>
 ⟨I.base.keep b o (I.ok.bs b o e).1 (I.ok.bs b o e).2 (I.ok.nofr e) (I.ok.noex b o e),I.base.free b o (I.ok.bs b o e).1 (I.ok.bs b o e).2 (I.ok.noex b o e)⟩
theorem Inv.bk (I:Inv X pins σ H s):∀ b o,X.base.get? b=some o->s.heap.get? b=some o:=fun b o e=>(I.bs b o e).1
theorem Inv.mod (I:Inv X pins σ H s):Mod X.K X.mg X.base:=I.ok.mod
theorem Inv.kIn (I:Inv X pins σ H s):X.K.In s.heap:=I.ok.mod.kin.keeps I.bk
theorem Inv.lt (I:Inv X pins σ H s):X.env.locals < s.heap.objs.size:=let ⟨_,hn,_⟩:=I.loc;hn.lt
theorem Inv.sz (I:Inv X pins σ H s):X.s₀.heap.objs.size<=s.heap.objs.size:=Nat.le_trans I.ok.above (Nat.le_of_lt I.lt)
theorem Inv.nofs (I:Inv X pins σ H s){a:Addr}(h:s.heap.objs.size<=a):a ∉ X.fs:=fun hb=>by
 obtain ⟨_,o,ho,_⟩:=I.ok.funs.mem hb;exact absurd (zB4 (zB0 ho) (Nat.le_trans I.sz h)) (Nat.lt_irrefl _)
theorem Inv.cne (I:Inv X pins σ H s):∀ x c,X.env.cells.lookup x=some c->c≠X.env.locals:=fun x c e z=>by
 obtain ⟨v,o,ho,hd⟩:=I.cell x c e;obtain ⟨m,⟨o',es,ep,iF,AD,_⟩,_⟩:=I.loc;rw [z,iF] at ho;cases ho;rw [AD] at hd;cases hd
theorem Inv.funs (I:Inv X pins σ H s):s.heap.FunFrames X.base X.outer:=by
 have all:∀ (l:List Env),(∀ b∈frs l,b∈X.fs)->X.s₀.heap.FunFrames X.base l->s.heap.FunFrames X.base l:=by
  intro l
  induction l with
  | nil=>intro _ _;trivial
  | cons env r ih =>
   intro hs hl;obtain ⟨hk,⟨L,o,hf,hn,ho,hd⟩,hr⟩:=hl;have hL:L∈X.fs:=hs L (by unfold frs;rw [List.filterMap_cons,hf];exact List.mem_cons_self);obtain ⟨sl,e⟩:=I.base.slot L o ho (I.ok.frf L hL) hL fun z=>I.ok.exfs L z hL;exact ⟨hk,⟨L,_,hf,hn,e,hd⟩,ih (fun b hb=>hs b (by unfold frs;rw [List.filterMap_cons,hf];exact List.mem_cons_of_mem _ hb)) hr⟩
 exact all X.outer (fun _ hb=>hb) I.ok.funs
theorem Inv.stack (I:Inv X pins σ H s):s.heap.FunFrames X.base X.stack:=by
 rcases I.ok.stk with e | ⟨e,hf⟩
 ·rw [e];exact I.funs
 ·rw [e];obtain ⟨m,hn,_⟩:=I.loc;refine .cons (by rw [I.ok.kind];decide) hf hn ?_ I.funs;exact Heap.get?_none_of_le (Nat.le_trans I.ok.bsz I.ok.above)
theorem Inv.stkSub (I:Inv X pins σ H s):∀ b∈frs X.stack,b∈X.env.locals::X.fs:=fun b hb=>by
 rcases I.ok.stk with e | ⟨e,hf⟩
 ·rw [e] at hb;exact List.mem_cons_of_mem _ hb
 ·rw [e] at hb;unfold frs at hb;rw [List.filterMap_cons,hf] at hb;exact hb
theorem Inv.stkFree (I:Inv X pins σ H s):∀ b∈frs X.stack,H b=none:=fun b hb=>by
 rcases zAo.mp (I.stkSub b hb) with e | hb
 ·rw [e];exact I.free
 ·obtain ⟨_,o,ho,_⟩:=I.ok.funs.mem hb;exact I.base.free b o ho (I.ok.frf b hb) fun z=>I.ok.exfs b z hb
theorem Inv.step {g':Array GenState}{t':Nat}{d':Drawn}{ch:List Addr}(I:Inv X pins σ H s)
  (kG:∀ b∈ch,(b∈X.ex\/X.s₀.heap.objs.size<=b)/\b≠X.env.locals/\(∀ x c,X.env.cells.lookup x=some c->c≠b)/\∀ p∈X.pn++pins,p.1≠b)
  (keep:∀ b o,b≠X.env.locals->b ∉ X.fs->b ∉ ch->s.heap.get? b=some o->H b=none->h'.get? b=some o)
  (slot:∀ b o,b≠X.env.locals->b∈X.fs->b ∉ ch->s.heap.get? b=some o->H b=none->∃ sl,h'.get? b=some { o with slots:=sl }) (free:∀ b o,b ∉ ch->s.heap.get? b=some o->H b=none->H' b=none)
  (there:∀ b o,b ∉ ch->s.heap.get? b=some o->∃ o',h'.get? b=some o')
  (tups:∀ b xs,H b=some (.tup xs)->H' b=some (.tup xs)) (frzs:∀ b o u,H b=some (.frz o u)->H' b=some (.frz o u)) (tbls:∀ b ps,H b=some (.tbl ps)->∃ more,H' b=some (.tbl (ps++more)))
  (ns:∀ m,s.heap.Ns X.env.locals m->h'.Ns X.env.locals m) (hok:HOk X.prog X.w H' h') (hg:AllBare g') :
  Inv X pins σ H' { s with heap:=h',gens:=g',drawn:=d',toks:=t' }:=by
 have GW:∀ b o,X.s₀.heap.get? b=some o->b≠X.env.locals:=fun b o e=>zB8 (zB4 (zB0 e) I.ok.above)
 have AE:∀ b o,X.s₀.heap.get? b=some o->b ∉ X.ex->b ∉ ch:=fun b o e hx hb=>by
  rcases (kG b hb).1 with z | z
  ·exact hx z
  ·exact absurd (zB4 (zB0 e) z) (Nat.lt_irrefl _)
 have cellK:∀ x c,X.env.cells.lookup x=some c->∀ v,s.heap.IsCell c v->h'.IsCell c v:=fun x c e v ⟨o,ho,hd⟩=>by
  have uk:c ∉ ch:=fun z=>(kG c z).2.2.1 x c e rfl;by_cases hc:c∈X.fs
  ·obtain ⟨sl,q⟩:=slot c o (I.cne x c e) hc uk ho (I.freeC x c e);exact ⟨_,q,hd⟩
  ·exact ⟨o,keep c o (I.cne x c e) hc uk ho (I.freeC x c e),hd⟩
 refine ⟨I.ok,I.os,hg,⟨fun b o e n hb hx=>?_,fun b o e n hb hx=>?_,fun b o e n hx=>?_,fun b o e hx=>?_,fun b xs e=>tups b xs (I.base.tups b xs e),fun b o xs e=>frzs b o xs (I.base.frzs b o xs e),fun b ps e=>?_⟩,?_,fun x c e=>?_,?_,fun x c e=>?_,fun p hp=>?_,hok,I.len⟩
 ·exact keep b o (GW b o e) hb (AE b o e hx) (I.base.keep b o e n hb hx) (I.base.free b o e n hx)
 ·obtain ⟨sl,e1⟩:=I.base.slot b o e n hb hx;obtain ⟨JV,e2⟩:=slot b _ (GW b o e) hb (AE b o e hx) e1 (I.base.free b o e n hx);exact ⟨JV,e2⟩
 ·obtain ⟨o',e1⟩:=I.base.there b o e hx;exact free b o' (AE b o e hx) e1 (I.base.free b o e n hx)
 ·obtain ⟨o',e1⟩:=I.base.there b o e hx;exact there b o' (AE b o e hx) e1
 ·obtain ⟨m1,e1⟩:=I.base.tbls b ps e;obtain ⟨m2,e2⟩:=tbls b _ e1;exact ⟨m1++m2,by rw [e2,Array.append_assoc]⟩
 ·obtain ⟨m,hn,hl⟩:=I.loc;refine ⟨m,ns m hn,fun i x v e1 e2 e3=>?_⟩;obtain ⟨u,r,l⟩:=hl i x v e1 e2 e3;refine ⟨u,r,?_⟩;rcases l with l | ⟨k,c,e,z⟩
  ·exact .inl l
  ·exact .inr ⟨k,c,e,cellK x c e _ z⟩
 ·obtain ⟨v,z⟩:=I.cell x c e;exact ⟨v,cellK x c e v z⟩
 ·obtain ⟨m,⟨o,_,_,ho,_⟩,_⟩:=I.loc;exact free _ o (fun z=>(kG _ z).2.1 rfl) ho I.free
 ·obtain ⟨v,o,ho,hd⟩:=I.cell x c e;exact free c o (fun z=>(kG c z).2.2.1 x c e rfl) ho (I.freeC x c e)
 ·obtain ⟨e,n,ne,nf,d⟩:=I.pin p hp;have uk:p.1 ∉ ch:=fun z=>(kG p.1 z).2.2.2 p hp rfl;exact ⟨keep p.1 p.2 ne nf uk e n,free p.1 p.2 uk e n,ne,nf,d⟩
theorem Inv.un {t':Nat}(I:Inv X pins σ H s)(u:Un X.fs [] H H' s.heap h')(hok:HOk X.prog X.w H' h'):Inv X pins σ H' { s with heap:=h',toks:=t' }:=by
 obtain ⟨m,⟨o,es,ep,ho,r⟩,_⟩:=id I.loc;obtain ⟨sl,hL⟩:=u.any ho I.free (by simp)
 exact I.step (g':=s.gens) (d':=s.drawn) (ch:=[]) (fun _ z=>nomatch z) (fun b o _ hb _ e n=>u.keep b o e n hb (by simp)) (fun b o _ hb _ e n=>u.slot b o e n hb (by simp)) (fun b o _ e n=>u.free b o e n (by simp)) (fun b o _ e=>u.there b o e (by simp)) u.tups u.frzs u.tbls (fun m' hm=>by
  obtain ⟨o',dE,uu,iF,r'⟩:=hm;rw [ho] at iF;cases iF
  exact ⟨_,dE,uu,hL,r'⟩) hok I.bare
theorem Inv.call {g':Array GenState}{t':Nat}{d':Drawn}{ch:List Addr}(I:Inv X pins σ H s)(u:Un (frs X.stack) ch H H' s.heap h')(hok:HOk X.prog X.w H' h')(hg:AllBare g')
  (kG:∀ b∈ch,(b∈X.ex\/X.s₀.heap.objs.size<=b)/\b≠X.env.locals/\(∀ x c,X.env.cells.lookup x=some c->c≠b)/\∀ p∈X.pn++pins,p.1≠b) :
  Inv X pins σ H' { s with heap:=h',gens:=g',drawn:=d',toks:=t' }:=by
 obtain ⟨m,⟨o,es,ep,ho,r⟩,_⟩:=id I.loc;obtain ⟨sl,hL⟩:=u.any ho I.free fun z=>(kG _ z).2.1 rfl
 exact I.step (ch:=ch) kG (fun b o hL hb hc e n=>u.keep b o e n (fun z=>(zAo.mp (I.stkSub b z)).elim hL hb) hc) (fun b o _ _ hc e n=>u.any e n hc) (fun b o hc e n=>u.free b o e n hc) (fun b o hc e=>u.there b o e hc) u.tups u.frzs u.tbls (fun m' hm=>by
  obtain ⟨o',dE,uu,iF,r'⟩:=hm;rw [ho] at iF;cases iF
  exact ⟨_,dE,uu,hL,r'⟩) hok hg
theorem Inv.turned {t':Nat}{it:Addr}(I:Inv X pins σ H s)(k:∀ b o,b≠it->s.heap.get? b=some o->h'.get? b=some o)(hn:H it=none)(hL:it≠X.env.locals)
  (h1:it∈X.ex\/X.s₀.heap.objs.size<=it) (h2:∀ x c,X.env.cells.lookup x=some c->c≠it) (h3:∀ p∈X.pn++pins,p.1≠it):Inv X pins σ H { s with heap:=h',toks:=t' }:=by
 have GY:∀ b u,H b=some u->b≠it:=fun b u e z=>by rw [z,hn] at e;cases e
 refine I.step (g':=s.gens) (d':=s.drawn) (ch:=[it]) (fun b hb=>?_) (fun b o _ _ hc e _=>k b o (fun z=>hc (by simp [z])) e) (fun b o _ _ hc e _=>⟨o.slots,k b o (fun z=>hc (by simp [z])) e⟩) (fun _ _ _ _ n=>n)
  (fun b o hc e=>⟨o,k b o (fun z=>hc (by simp [z])) e⟩) (fun _ _ e=>e) (fun _ _ _ e=>e) (fun b ps e=>⟨#[],by rw [e];simp⟩) (fun m hm=>?_) (fun b u e=>?_) I.bare
 ·have e:b=it:=by simpa using hb
  subst e;exact ⟨h1,hL,h2,h3⟩
 ·obtain ⟨o,es,ep,ho,r⟩:=hm;exact ⟨o,es,ep,k _ o (Ne.symm hL) ho,r⟩
 ·refine (I.hok b u e).stay (fun c v hc q=>k c v ?_ q) (fun _ q=>q) fun _ _ q=>q;rcases hc with z | z
  ·rw [z];exact GY b u e
  ·exact GY c _ z
theorem Inv.tok (I:Inv X pins σ H s)(t:Nat):Inv X pins σ H { s with toks:=t }:=I.un (h':=s.heap) (t':=t) Un.refl I.hok
theorem Inv.kept {t':Nat}(I:Inv X pins σ H s)(k:∀ b u,s.heap.get? b=some u->h'.get? b=some u):Inv X pins σ H { s with heap:=h',toks:=t' }:=I.un (Un.kept k) (I.hok.kept k)
theorem Inv.laid {a:Addr}{o:HO}{t':Nat}(I:Inv X pins σ H s)(k:∀ b u,s.heap.get? b=some u->h'.get? b=some u)(hp:s.heap.objs.size<=a)(new:ObjOk X.prog X.w (upd H a o) h' a o) :
  Inv X pins σ (upd H a o) { s with heap:=h',toks:=t' }:=I.un (Un.laid k hp (I.hok.fresh hp)) (I.hok.laid k hp new)
theorem Inv.write {x e:Addr}{o:HO}{t':Nat}(I:Inv X pins σ H s)(mu:Mut (H x))(he:e=x\/H e=some (.own x))(k:∀ b u,b≠e->s.heap.get? b=some u->h'.get? b=some u)(si:∃ u,h'.get? e=some u)
  (new:ObjOk X.prog X.w (upd H x o) h' x o):Inv X pins σ (upd H x o) { s with heap:=h',toks:=t' }:=I.un (Un.write mu he k si) (I.hok.write mu he k si new)
theorem Inv.pins_of {mf:List (Addr×Obj)}(I:Inv X pins σ H s)(h:∀ p∈mf,s.heap.get? p.1=some p.2/\H p.1=none/\p.1≠X.env.locals/\p.1 ∉ X.fs/\∀ v,p.2.data≠.cell v):Inv X mf σ H s :=
 ⟨I.ok,I.os,I.bare,I.base,I.loc,I.cell,I.free,I.freeC,fun p hp=>(zA6.mp hp).elim (fun z=>I.pin p (List.mem_append_left _ z)) (h p),I.hok,I.len⟩
theorem qJ {N:List Str}(hN:N.Nodup){i j:Nat}{x:Str}(a:N[i]?=some x)(b:N[j]?=some x):i=j:=by
 obtain ⟨h1,e1⟩:=zAa.mp a;obtain ⟨h2,e2⟩:=zAa.mp b;exact (List.getElem_inj hN).mp (e1.trans e2.symm)
theorem nu {M:Model}{A:Around}{E:Value->Shared->Prop}{i:Nat}{x:Str}{v:V}{u:Value}{Q:Unit->Shared->Prop}(I:Inv X pins σ H s)(hN:X.N.Nodup)(hi:X.N[i]?=some x)(hx:Loc X.env.scope x)(r:RelV v u)
  (h:∀ s',Inv X pins (σ.set i (some v)) H s'->(∃ a,Heap.SameBut a s.heap s'.heap/\(a=X.env.locals\/X.env.cells.lookup x=some a))->Q () s') (hf:X.fn x=true\/X.env.scope.names.lookup x=some .local:=by first | exact .inl rfl | exact .inr rfl | assumption):wpAny M A (storeName X.env x u) Q E s:=by
 obtain ⟨m,hn,hl⟩:=id I.loc;have BM:(X.env.scope.kind == .class || (X.env.scope.kind == .module && X.env.locals != X.env.globals))=false:=by rw [I.ok.kind];rfl
 have uS:i < σ.length:=by rw [I.len];exact (zAa.mp hi).1
 have cne:=I.cne
 have tracked:∀ {a:Addr} {h':Heap},(∃ o,s.heap.get? a=some o/\H a=none)->Heap.SameBut a s.heap h'->HOk X.prog X.w H h':=fun {a h'} ha hs b ob e=>by
  obtain ⟨_,_,hfree⟩:=ha;refine (I.hok b ob e).stay (fun c w' hc q=>(hs.2 c ?_).trans q) (fun _ q=>q) fun _ _ q=>q;rintro rfl;rcases hc with rfl | hc
  ·rw [hfree] at e;cases e
  ·rw [hfree] at hc;cases hc
 rcases hx with hk | hk
 ·refine wpAny_storeName_local hk hn (fun h' JW hs=>?_) BM;obtain ⟨oL,_,_,JX,_⟩:=id hn;refine h _ ⟨I.ok,I.os,I.bare,⟨fun b o e n hb hx=>?_,fun b o e n hb hx=>?_,I.base.free,fun b o e hx=>?_,I.base.tups,I.base.frzs,I.base.tbls⟩,⟨_,JW,fun j y v' e1 e2 e3=>?_⟩,fun y c e=>?_,I.free,I.freeC,fun p hp=>?_,tracked ⟨oL,JX,I.free⟩ hs,by simpa using I.len⟩ ⟨_,hs,.inl rfl⟩
  ·exact (hs.2 b (zB8 (zB4 (zB0 e) I.ok.above))).trans (I.base.keep b o e n hb hx)
  ·obtain ⟨sl,e1⟩:=I.base.slot b o e n hb hx;exact ⟨sl,(hs.2 b (zB8 (zB4 (zB0 e) I.ok.above))).trans e1⟩
  ·obtain ⟨o',e1⟩:=I.base.there b o e hx;exact ⟨o',(hs.2 b (zB8 (zB4 (zB0 e) I.ok.above))).trans e1⟩
  ·by_cases hj:j=i
   ·subst hj;rw [hi] at e1;cases e1;rw [List.getElem?_set_self uS] at e2;cases e2;exact ⟨u,r,.inl ⟨hk,by simp⟩⟩
   ·rw [List.getElem?_set_ne (Ne.symm hj)] at e2;obtain ⟨u',r',q⟩:=hl j y v' e1 e2 e3;refine ⟨u',r',?_⟩;rcases q with ⟨k,e⟩ | ⟨k,c,e,z⟩
    ·refine .inl ⟨k,?_⟩;have:y≠x:=fun e=>hj (qJ hN e1 (e ▸ hi));simp [this,e]
    ·exact .inr ⟨k,c,e,z.sameBut hs (cne y c e)⟩
  ·obtain ⟨w',z⟩:=I.cell y c e;exact ⟨w',z.sameBut hs (cne y c e)⟩
  ·obtain ⟨e,n,ne,nf,d⟩:=I.pin p hp;exact ⟨(hs.2 p.1 ne).trans e,n,ne,nf,d⟩
 ·have BN:X.fn x=true:=by
   rcases hf with z | z
   ·exact z
   ·rw [z] at hk;cases hk
  obtain ⟨c,hc⟩:=I.ok.has x (.inl hk);obtain ⟨w',z⟩:=I.cell x c hc;refine wpAny_storeName_cell I.ok.kind hk hc z (fun h' ar hs=>?_);obtain ⟨oc,G0,BO⟩:=id z;refine h { s with heap:=h' } ⟨I.ok,I.os,I.bare,⟨fun b o e n hb hx=>?_,fun b o e n hb hx=>?_,I.base.free,fun b o e hx=>?_,I.base.tups,I.base.frzs,I.base.tbls⟩,⟨m,hn.sameBut hs (Ne.symm (cne x c hc)),fun j y v' e1 e2 e3=>?_⟩,fun y c' e=>?_,I.free,I.freeC,fun p hp=>?_,tracked ⟨oc,G0,I.freeC x c hc⟩ hs,by simpa using I.len⟩ ⟨c,hs,.inr hc⟩
  ·exact (hs.2 b (zB8 (zB4 (zB0 e) (I.ok.cab x c BN hc)))).trans (I.base.keep b o e n hb hx)
  ·obtain ⟨sl,e1⟩:=I.base.slot b o e n hb hx;exact ⟨sl,(hs.2 b (zB8 (zB4 (zB0 e) (I.ok.cab x c BN hc)))).trans e1⟩
  ·obtain ⟨o',e1⟩:=I.base.there b o e hx;exact ⟨o',(hs.2 b (zB8 (zB4 (zB0 e) (I.ok.cab x c BN hc)))).trans e1⟩
  ·by_cases hj:j=i
   ·subst hj;rw [hi] at e1;cases e1;rw [List.getElem?_set_self uS] at e2;cases e2;exact ⟨u,r,.inr ⟨.inl hk,c,hc,ar⟩⟩
   ·rw [List.getElem?_set_ne (Ne.symm hj)] at e2;obtain ⟨u',r',q⟩:=hl j y v' e1 e2 e3;refine ⟨u',r',?_⟩;rcases q with q | ⟨k,c',e,z'⟩
    ·exact .inl q
    ·refine .inr ⟨k,c',e,z'.sameBut hs ?_⟩;rintro rfl;exact hj (qJ hN e1 (I.ok.inj _ _ _ e hc ▸ hi))
  ·by_cases G1:c'=c
   ·subst G1;exact ⟨_,ar⟩
   ·obtain ⟨w2,z2⟩:=I.cell y c' e;exact ⟨w2,z2.sameBut hs G1⟩
  ·obtain ⟨e,n,ne,nf,d⟩:=I.pin p hp;refine ⟨(hs.2 p.1 ?_).trans e,n,ne,nf,d⟩;intro q;rw [q,G0] at e;have q':oc=p.2:=zAl e;exact d w' (by rw [<- q'];exact BO)
theorem gF {M:Model}{A:Around}{E:Value->Shared->Prop}{i:Nat}{x:Str}{v:V}{u:Value}{Q:Unit->Shared->Prop}(I:Inv X pins σ H s)(hN:X.N.Nodup)(hi:X.N[i]?=some x)(hx:Loc X.env.scope x)(r:RelV v u)
  (h:∀ s',Inv X pins (σ.set i (some v)) H s'->Q () s') (hf:X.fn x=true\/X.env.scope.names.lookup x=some .local:=by first | exact .inl rfl | exact .inr rfl | assumption):wpAny M A (storeName X.env x u) Q E s :=
 nu I hN hi hx r (fun s' I' _=>h s' I') hf
theorem Inv.call' {s':Shared}{ch:List Addr}(I:Inv X pins σ H s)(ho:s'.os=s.os)(u:Un (frs X.stack) ch H H' s.heap s'.heap)(hok:HOk X.prog X.w H' s'.heap)(hg:AllBare s'.gens)
  (kG:∀ b∈ch,(b∈X.ex\/X.s₀.heap.objs.size<=b)/\b≠X.env.locals/\(∀ x c,X.env.cells.lookup x=some c->c≠b)/\∀ p∈X.pn++pins,p.1≠b):Inv X pins σ H' s':=by
 obtain ⟨h',g',d',t',o'⟩:=s';have e:o'=s.os:=ho;subst e;exact I.call (g':=g') (t':=t') (d':=d') u hok hg kG
end
abbrev XK:=Value->Option Addr->Hp->Prop
abbrev St:=List (Option V)
abbrev VK:=V->Hp->Prop
abbrev TE:=St->Hp->VK->Prop
abbrev TT:=St->Hp->(Bool->Hp->Prop)->Prop
abbrev TA:=St->Hp->(List V->Hp->Prop)->Prop
structure Ends where
 nx:St->Hp->Prop
 rt:VK
 bk:St->Hp->Prop:=fun _ _=>False
 ct:St->Hp->Prop:=fun _ _=>False
abbrev TS:=Ends->St->Hp->Prop
def EP (X:Cx)(pins:List (Addr×Obj))(σ:St)(Q:VK)(u:Value)(s':Shared):Prop:=∃ v H',Inv X pins σ H' s'/\RelV v u/\Q v H'
def TP (X:Cx)(pins:List (Addr×Obj))(σ:St)(Q:Bool->Hp->Prop)(b:Bool)(s':Shared):Prop:=∃ H',Inv X pins σ H' s'/\Q b H'
def AP (X:Cx)(pins:List (Addr×Obj))(σ:St)(Q:List V->Hp->Prop)(us:List Value)(s':Shared):Prop:=∃ vs H',Inv X pins σ H' s'/\Vals vs us/\Q vs H'
def SP (X:Cx)(pins:List (Addr×Obj))(D:Ends)(f:Flow)(s':Shared):Prop :=
 match f with
 | .next=>∃ af H',Inv X pins af H' s'/\D.nx af H'
 | .brk=>∃ af H',Inv X pins af H' s'/\D.bk af H'
 | .cont=>∃ af H',Inv X pins af H' s'/\D.ct af H'
 | .ret u=>∃ v af H',Inv X pins af H' s'/\RelV v u/\D.rt v H'
def PE (X:Cx)(e:Expr)(t:TE):Prop :=
 ∀ (pins:List (Addr×Obj)) (s:Shared) (σ:St) (H:Hp) (Q:VK),Inv X pins σ H s->t σ H Q->wpAny (model X.prog X.w) X.A (eval e X.env) (EP X pins σ Q) X.xe s
def PT (X:Cx)(e:Expr)(t:TT):Prop :=
 ∀ (pins:List (Addr×Obj)) (s:Shared) (σ:St) (H:Hp) (Q:Bool->Hp->Prop),Inv X pins σ H s->t σ H Q->wpAny (model X.prog X.w) X.A (isTrue e X.env (eval e X.env)) (TP X pins σ Q) X.xe s
def PW (X:Cx)(e:Expr)(t:TT):Prop :=
 ∀ (whole:Sem Value) (pins:List (Addr×Obj)) (s:Shared) (σ:St) (H:Hp) (Q:Bool->Hp->Prop),Inv X pins σ H s->t σ H Q->wpAny (model X.prog X.w) X.A (isTrue e X.env whole) (TP X pins σ Q) X.xe s
theorem PW.pt {X:Cx}{e:Expr}{t:TT}(h:PW X e t):PT X e t:=h _
def PA (X:Cx)(es:List Expr)(t:TA):Prop :=
 ∀ (pos:Pos) (pins:List (Addr×Obj)) (s:Shared) (σ:St) (H:Hp) (Q:List V->Hp->Prop),Inv X pins σ H s->t σ H Q->wpAny (model X.prog X.w) X.A (spliced (backTo pos (starEach es X.env))) (AP X pins σ Q) X.xe s
def PS (X:Cx)(st:Stmt)(t:TS):Prop :=
 ∀ (pins:List (Addr×Obj)) (s:Shared) (σ:St) (H:Hp) (D:Ends),Inv X pins σ H s->t D σ H->wpAny (model X.prog X.w) X.A (exec st X.env) (SP X pins D) X.xe s
def PSs (X:Cx)(st:List Stmt)(t:TS):Prop :=
 ∀ (pins:List (Addr×Obj)) (s:Shared) (σ:St) (H:Hp) (D:Ends),Inv X pins σ H s->t D σ H->wpAny (model X.prog X.w) X.A (execs st X.env) (SP X pins D) X.xe s
theorem thn {α:Type}{t:Sem α}{Q Q':α->Shared->Prop}{M:Model}{A:Around}{E:Value->Shared->Prop}{s:Shared}(h:wpAny M A t Q E s)(hQ:∀ a s,Q a s->Q' a s):wpAny M A t Q' E s:=wpAny_mono h hQ fun _ _ x=>x
section
variable {X:Cx}
theorem bin {a b:Expr}{ta tb:TE}(ha:PE X a ta)(hb:PE X b tb){pins:List (Addr×Obj)}{s:Shared}{σ:St}{H:Hp}{R:V->V->Hp->Prop}(I:Inv X pins σ H s)(h:ta σ H fun x H1=>tb σ H1 fun y H2=>R x y H2)
  {α:Type} {Q:α->Shared->Prop} {f:Value->Value->Sem α}
  (hf:∀ v u s2 x y H2,Inv X pins σ H2 s2->RelV x v->RelV y u->R x y H2->wpAny (model X.prog X.w) X.A (f v u) Q X.xe s2) :
  wpAny (model X.prog X.w) X.A (eval a X.env) (fun v s₁=>wpAny (model X.prog X.w) X.A (eval b X.env) (fun u s₂=>wpAny (model X.prog X.w) X.A (f v u) Q X.xe s₂) X.xe s₁) X.xe s:=by
 refine thn (ha pins s σ H _ I h) fun v s1 ⟨x,H1,I1,r1,q1⟩=>?_;refine thn (hb pins s1 σ H1 _ I1 q1) fun u s2 ⟨y,H2,I2,r2,q2⟩=>?_;exact hf v u s2 x y H2 I2 r1 r2 q2
inductive TVarI (i:Nat)(σ:St)(H:Hp)(Q:VK):Prop
 | mk:∀ v,(σ[i]?=some (some v))->(Q v H)->TVarI i σ H Q
def zP (i:Nat):TE:=fun σ H Q=>TVarI i σ H Q
def tC (v:V):TE:=fun _ H Q=>Q v H
theorem CW {i:Nat}{x:Str}{pos:Pos}(hN:X.N[i]?=some x)(hv:Vis X.env.scope x)(hd:(x == ("__debug__" : Str))=false:=by decide)(iL:(x == ("__classdict__" : Str))=false:=by decide):PE X (.Name x pos) (zP i):=by
 intro pins s σ H Q I h;obtain ⟨v,e,h⟩:=h;obtain ⟨m,hn,hl⟩:=I.loc;obtain ⟨u,r,l⟩:=hl i x v hN e hv
 have fin:EP X pins σ Q u s:=⟨v,H,I,r,h⟩
 rcases l with ⟨hk,hm⟩ | ⟨hk,c,hc,hcell⟩
 ·exact wpAny_Name (wpAny_loadName_local I.ok.kind hk hn hm fin) hd
 ·rcases hk with hk | hk
  ·exact wpAny_Name (wpAny_loadName_cell I.ok.kind hk hc hcell fin) hd
  ·exact wpAny_Name (wpAny_loadName_free I.ok.kind hk hc hcell fin iL) hd
theorem aB {i j pos}:PE X (.Constant (.int i) j pos) (tC (.int i)):=fun _ _ _ H _ I h=>wpAny_Constant_int ⟨.int i,H,I.tok _,⟨_,rfl⟩,h⟩
theorem gG {b j pos}:PE X (.Constant (.bool b) j pos) (tC (.bl b)):=fun _ _ _ H _ I h=>Constant_bool ⟨.bl b,H,I,rfl,h⟩
theorem p8 {j pos}:PE X (.Constant .none j pos) (tC .non):=fun _ _ _ H _ I h=>Constant_none ⟨.non,H,I,rfl,h⟩
def Gl (X:Cx)(x:Str):Prop:=X.env.kindOf x=some .globalImplicit
theorem ue {E:Value->Shared->Prop}{pins:List (Addr×Obj)}{s:Shared}{σ:St}{H:Hp}{x:Str}{u:Value}{pos:Pos}{Q:Value->Shared->Prop}(I:Inv X pins σ H s)(hg:Gl X x)(hm:X.mg x=some u)(h:Q u s)
  (hd:(x == ("__debug__" : Str))=false:=by decide):wpAny (model X.prog X.w) X.A (eval (.Name x pos) X.env) Q E s :=
 Calls.Name_function_global I.ok.kind hg (Calls.loadGlobal_global (by rw [I.ok.glob];exact I.mod.glob.keeps I.bk) hm h) hd
theorem fG {E:Value->Shared->Prop}{pins:List (Addr×Obj)}{s:Shared}{σ:St}{H:Hp}{x:Str}{u:Value}{pos:Pos}{Q:Value->Shared->Prop}(I:Inv X pins σ H s)(hg:Gl X x)(hm:X.mg x=none)(hv:bootBuiltins x=some u)(h:Q u s)
  (hn:x≠"__name__" := by decide) (hd:(x == ("__debug__" : Str))=false:=by decide):wpAny (model X.prog X.w) X.A (eval (.Name x pos) X.env) Q E s:=by
 obtain ⟨mb,h1,h2⟩:=I.mod.blt;exact Calls.Name_function_global I.ok.kind hg (Calls.loadGlobal_builtin (by rw [I.ok.glob];exact I.mod.glob.keeps I.bk) hm (by rw [I.ok.blt];exact h1.keeps I.bk) ((h2 x hn).trans hv) h) hd
theorem bK {x:Str}{v:V}{u:Value}{pos:Pos}(hg:Gl X x)(hm:X.mg x=some u)(r:RelV v u)(hd:(x == ("__debug__" : Str))=false:=by decide):PE X (.Name x pos) (tC v) :=
 fun _ _ _ H _ I h=>ue I hg hm ⟨v,H,I,r,h⟩ hd
theorem ph {x:Str}{v:V}{u:Value}{pos:Pos}(hg:Gl X x)(hm:X.mg x=none)(hv:bootBuiltins x=some u)(r:RelV v u)(hn:x≠"__name__" := by decide)(hd:(x == ("__debug__" : Str))=false:=by decide):PE X (.Name x pos) (tC v) :=
 fun _ _ _ H _ I h=>fG I hg hm hv ⟨v,H,I,r,h⟩ hn hd
variable {a b:Expr}{ta tb:TE}{pos:Pos}
def PC (X:Cx)(op:CmpOp)(a b:Expr)(t:TE):Prop :=
 ∀ (pins:List (Addr×Obj)) (s:Shared) (σ:St) (H:Hp) (Q:VK),Inv X pins σ H s->t σ H Q ->
  wpAny (model X.prog X.w) X.A (eval a X.env) (fun v s₁=>wpAny (model X.prog X.w) X.A (eval b X.env) (fun u s₂=>wpAny (model X.prog X.w) X.A (compareOp op v u) (EP X pins σ Q) X.xe s₂) X.xe s₁) X.xe s
def tB (t:TE):TT:=fun σ H Q=>t σ H fun x H1=>∃ c,x=.bl c/\Q c H1
theorem CZ {op:CmpOp}{t:TE}(h:PC X op a b t)(h1:behindInMarks op b=false:=by first | exact nobehind _ (by decide) (by decide) | rfl):PT X (.Compare a [op] [b] pos) (tB t):=by
 intro pins s σ H Q I hw;refine wpAny_isTrue_Compare1 (thn (h pins s σ H _ I hw) fun v s1 h1=>thn h1 fun u s2 h2=>thn h2 fun c s3 ⟨x,H1,I1,r1,q1⟩=>?_) h1;obtain ⟨d,rfl,q⟩:=q1;cases r1;exact wpAny_truthy_bool ⟨H1,I1,q⟩
theorem eQ {e:Expr}{t:TE}(h:PE X e t)(he:∀ whole,isTrue e X.env whole=(do let v <- whole;standAt e.pos;holding [v] (truthy v)):=by intro _;rfl):PT X e (tB t):=by
 intro pins s σ H Q I hw;refine isTrue_plain (thn (h pins s σ H _ I hw) fun v s1 ⟨x,H1,I1,r1,q1⟩=>?_) (he _);obtain ⟨d,rfl,q⟩:=q1;cases r1;exact wpAny_truthy_bool ⟨H1,I1,q⟩
variable {tA AF:TT}{rest:List Expr}
def GP (t u:TT):TT:=fun σ H Q=>t σ H fun c H1=>if c=true then u σ H1 Q else Q false H1
def tOr (t u:TT):TT:=fun σ H Q=>t σ H fun c H1=>if c=true then Q true H1 else u σ H1 Q
def GQ (t:TT):TT:=fun σ H Q=>t σ H fun c H1=>Q (!c) H1
theorem pq (ha:PT X a tA):PW X (.BoolOp .And [a] pos) tA:=by
 intro wh pins s σ H Q I h;refine isTrue_and (thn (ha pins s σ H Q I h) fun c s1 e=>?_)
 cases c with
 | true=>exact isTrue_and_nil e
 | false=>exact e
theorem sJ (ha:PT X a tA):PW X (.BoolOp .Or [a] pos) tA:=by
 intro wh pins s σ H Q I h;refine isTrue_or (thn (ha pins s σ H Q I h) fun c s1 e=>?_)
 cases c with
 | false=>exact isTrue_or_nil e
 | true=>exact e
theorem sO (ha:PT X a tA)(hb:PW X (.BoolOp .And (b::rest) pos) AF):PW X (.BoolOp .And (a::b::rest) pos) (GP tA AF):=by
 intro wh pins s σ H Q I h;refine isTrue_and (thn (ha pins s σ H _ I h) fun c s1 ⟨H1,I1,q1⟩=>?_)
 cases c with
 | true=>exact hb wh pins s1 σ H1 Q I1 q1
 | false=>exact ⟨H1,I1,q1⟩
theorem qK (ha:PT X a tA)(hb:PW X (.BoolOp .Or (b::rest) pos) AF):PW X (.BoolOp .Or (a::b::rest) pos) (tOr tA AF):=by
 intro wh pins s σ H Q I h;refine isTrue_or (thn (ha pins s σ H _ I h) fun c s1 ⟨H1,I1,q1⟩=>?_)
 cases c with
 | true=>exact ⟨H1,I1,q1⟩
 | false=>exact hb wh pins s1 σ H1 Q I1 q1
theorem dq (ha:PT X a tA):PT X (.UnaryOp .Not a pos) (GQ tA):=by
 intro pins s σ H Q I h;exact isTrue_not (ha pins s σ H (fun c H1=>Q (!c) H1) I h)
def BP (ta tb:TE):TE:=fun σ H Q=>ta σ H fun x H1=>∃ c,x=.bl c/\if c=true then tb σ H1 Q else Q (.bl false) H1
def Es (ta:TE):TE:=fun σ H Q=>ta σ H fun x H1=>∃ c,x=.bl c/\Q (.bl (!c)) H1
theorem dO {op}{t:TE}(h:PE X a t):PE X (.BoolOp op [a] pos) t:=fun pins s σ H Q I hw=>BoolOp_one (h pins s σ H Q I hw)
theorem cz (ha:PE X a ta)(hb:PE X (.BoolOp .And (b::rest) pos) tb):PE X (.BoolOp .And (a::b::rest) pos) (BP ta tb):=by
 intro pins s σ H Q I h;refine BoolOp_and (thn (ha pins s σ H _ I h) fun v s1 ⟨x,H1,I1,r1,q1⟩=>?_);obtain ⟨c,rfl,q1⟩:=q1;cases r1;refine wpAny_truthy_bool ?_
 cases c with
 | true=>exact hb pins s1 σ H1 Q I1 q1
 | false=>exact ⟨.bl false,H1,I1,rfl,q1⟩
theorem Dc (ha:PE X a ta):PE X (.UnaryOp .Not a pos) (Es ta):=by
 intro pins s σ H Q I h;refine UnaryOp_ (thn (ha pins s σ H _ I h) fun v s1 ⟨x,H1,I1,r1,q1⟩=>?_);obtain ⟨c,rfl,q1⟩:=q1;cases r1;exact not_of (wpAny_truthy_bool ⟨.bl (!c),H1,I1,rfl,q1⟩)
def tIf (t:TT)(ta tb:TE):TE:=fun σ H Q=>t σ H fun c H1=>if c=true then ta σ H1 Q else tb σ H1 Q
theorem wV {c:Expr}(hc:PT X c tA)(ha:PE X a ta)(hb:PE X b tb):PE X (.IfExp c a b pos) (tIf tA ta tb):=by
 intro pins s σ H Q I h;refine wpAny_IfExp (thn (hc pins s σ H _ I h) fun d s1 ⟨H1,I1,q1⟩=>?_)
 cases d with
 | true=>exact ha pins s1 σ H1 Q I1 q1
 | false=>exact hb pins s1 σ H1 Q I1 q1
end
def SqL (K:PySem.W.Frag)(H:Hp)(a:Addr)(xs:List V):Prop :=
 Rd H a (.lst xs) \/
  ∃ (o:Obj) (its:Array Value) (n:Nat),K.lookup a=some o/\o.cls=.type "list" /\ o.dict=none/\o.data=.seq its n/\its.size<=sizeLine/\Vals xs its.toList
def SqT (K:PySem.W.Frag)(H:Hp)(a:Addr)(xs:List V):Prop :=
 Rd H a (.tup xs) \/
  ∃ (o:Obj) (its:Array Value) (n:Nat),K.lookup a=some o/\o.cls=.type "tuple" /\ o.data=.seq its n/\its.size<=sizeLine/\Vals xs its.toList
def GR:Value->Option V
 | .none=>some .non
 | .bool b=>some (.bl b)
 | .int i _=>some (.int i)
 | .str x _=>some (.str x)
 | .bytes b _=>some (.byt b)
 | .float b _=>some (.flt b)
 | .ref a=>some (.ref a)
 | .type n=>some (.ty n)
 | _=>none
theorem RelV.abs {x:V}{u:Value}(r:RelV x u):GR u=some x:=by
 cases x with
 | non=>cases r;rfl
 | bl _=>cases r;rfl
 | int _=>obtain ⟨t,rfl⟩:=r;rfl
 | str _=>obtain ⟨t,rfl⟩:=r;rfl
 | byt _=>obtain ⟨t,rfl⟩:=r;rfl
 | flt _=>obtain ⟨t,rfl⟩:=r;rfl
 | ref _=>cases r;rfl
 | ty _=>cases r;rfl
theorem RelV.inj {x y:V}{u:Value}(r:RelV x u)(q:RelV y u):x=y:=zAl (r.abs.symm.trans q.abs)
theorem Vals.inj:∀ {xs ys:List V} {us:List Value},Vals xs us->Vals ys us->xs=ys
 | _,_,_,.nil,.nil=>rfl
 | _,_,_,.cons r t,.cons r' t'=>by rw [r.inj r',Vals.inj t t']
section
variable {X:Cx}{pins:List (Addr×Obj)}{σ:St}{H:Hp}{s:Shared}{a:Addr}{xs ys:List V}
theorem SqL.of {K:PySem.W.Frag}(h:H a=some (.lst xs)):SqL K H a xs:=.inl (.inl h)
theorem SqT.of {K:PySem.W.Frag}(h:H a=some (.tup xs)):SqT K H a xs:=.inl (.inl h)
theorem Inv.list (I:Inv X pins σ H s)(h:SqL X.K H a xs):∃ its:List Value,Vals xs its/\PlainL s.heap a its.toArray/\xs.length<=sizeLine:=by
 rcases h with h | ⟨o,its,n,hk,hc,hd,hs,hz,r⟩
 ·obtain ⟨z,its,n,r,e⟩:=h.ok I.hok;exact ⟨its,r,⟨_,n,e,rfl,rfl,rfl⟩,z⟩
 ·refine ⟨its.toList,r,⟨o,n,I.kIn a o hk,hc,hd,by simpa using hs⟩,?_⟩;have e:=r.length;simp only [Array.length_toList] at e;lia
theorem Inv.tuple (I:Inv X pins σ H s)(h:SqT X.K H a xs):∃ its:List Value,Vals xs its/\IsTup s.heap a its.toArray/\xs.length<=sizeLine:=by
 rcases h with h | ⟨o,its,n,hk,hc,hs,hz,r⟩
 ·obtain ⟨z,its,r,p⟩:=h.ok I.hok;exact ⟨its,r,p,z⟩
 ·refine ⟨its.toList,r,⟨o,I.kIn a o hk,hc,n,by simpa using hs⟩,?_⟩;have e:=r.length;simp only [Array.length_toList] at e;lia
theorem Inv.list_inj (I:Inv X pins σ H s)(h:SqL X.K H a xs)(h':SqL X.K H a ys):xs=ys:=by
 obtain ⟨its,r,⟨o,n,e,_,_,d⟩,_⟩:=I.list h;obtain ⟨its',r',⟨o',n',e',_,_,d'⟩,_⟩:=I.list h';rw [e] at e';cases e';rw [d] at d';injection d' with d1 _;have:its=its':=by simpa using congrArg Array.toList d1
 subst this;exact r.inj r'
theorem Inv.tuple_inj (I:Inv X pins σ H s)(h:SqT X.K H a xs)(h':SqT X.K H a ys):xs=ys:=by
 obtain ⟨its,r,⟨o,e,_,n,d⟩,_⟩:=I.tuple h;obtain ⟨its',r',⟨o',e',_,n',d'⟩,_⟩:=I.tuple h';rw [e] at e';cases e';rw [d] at d';injection d' with d1 _;have:its=its':=by simpa using congrArg Array.toList d1
 subst this;exact r.inj r'
end
abbrev Cx.wish (X:Cx)(E:Value->Shared->Prop):Cx:={ X with xe:=E }
abbrev Cx.nox (X:Cx):Cx:=X.wish fun _ _=>False
theorem Cx.Ok.wish {X:Cx}(ok:X.Ok)(E:Value->Shared->Prop):(X.wish E).Ok :=
 ⟨ok.mod,ok.kind,ok.glob,ok.blt,ok.above,ok.inj,ok.has,ok.cab,ok.hd,ok.frames,ok.stk,ok.exf,ok.bs,ok.bsz,ok.noex,ok.exfs,ok.funs,ok.frf⟩
theorem Cx.Ok.unwish {X:Cx}{E:Value->Shared->Prop}(ok:(X.wish E).Ok):X.Ok :=
 ⟨ok.mod,ok.kind,ok.glob,ok.blt,ok.above,ok.inj,ok.has,ok.cab,ok.hd,ok.frames,ok.stk,ok.exf,ok.bs,ok.bsz,ok.noex,ok.exfs,ok.funs,ok.frf⟩
section
variable {X:Cx}{pins:List (Addr×Obj)}{σ:St}{H:Hp}{s:Shared}{E:Value->Shared->Prop}
theorem Inv.wish (I:Inv X pins σ H s)(E:Value->Shared->Prop):Inv (X.wish E) pins σ H s:=⟨I.ok.wish E,I.os,I.bare,I.base,I.loc,I.cell,I.free,I.freeC,I.pin,I.hok,I.len⟩
theorem Inv.unwish (I:Inv (X.wish E) pins σ H s):Inv X pins σ H s:=⟨I.ok.unwish,I.os,I.bare,I.base,I.loc,I.cell,I.free,I.freeC,I.pin,I.hok,I.len⟩
theorem SP.unwish {D:Ends}{f:Flow}{s':Shared}(h:SP (X.wish E) pins D f s'):SP X pins D f s':=by
 cases f with
 | next=>obtain ⟨af,H',I,q⟩:=h;exact ⟨af,H',I.unwish,q⟩
 | brk=>obtain ⟨af,H',I,q⟩:=h;exact ⟨af,H',I.unwish,q⟩
 | cont=>obtain ⟨af,H',I,q⟩:=h;exact ⟨af,H',I.unwish,q⟩
 | ret u=>obtain ⟨v,af,H',I,r,q⟩:=h;exact ⟨v,af,H',I.unwish,r,q⟩
theorem PSs.nox {st:List Stmt}{t:TS}(h:PSs X.nox st t):PSs X st t:=fun pins s σ H D I hw =>
 wpAny_mono (h pins s σ H D (I.wish _) hw) (fun _ _ q=>q.unwish) fun _ _ z=>False.elim z
end
section
variable {X:Cx}{st:Stmt}{rest:List Stmt}{t u:TS}{e:Expr}{te:TE}{pos:Pos}
def BR:TS:=fun D σ H=>D.nx σ H
def zQ (t u:TS):TS:=fun D σ H=>t { D with nx:=u D } σ H
theorem bh:PSs X [] BR:=fun _ _ σ H _ I h=>wpAny_execs_nil ⟨σ,H,I,h⟩
theorem aA (h1:PS X st t)(h2:PSs X rest u):PSs X (st::rest) (zQ t u):=by
 intro pins s σ H D I h;refine wpAny_execs_cons (thn (h1 pins s σ H { D with nx:=u D } I h) fun f s1 q=>?_)
 cases f with
 | next =>
  obtain ⟨af,H',I',q⟩:=q;exact h2 pins s1 af H' D I' q
 | ret v=>exact q
 | brk=>exact q
 | cont=>exact q
theorem aG (h1:PS X st t):PSs X [st] t:=by
 intro pins s σ H D I h;refine wpAny_execs_cons (thn (h1 pins s σ H D I h) fun f s1 q=>?_)
 cases f with
 | next=>exact wpAny_execs_nil q
 | ret v=>exact q
 | brk=>exact q
 | cont=>exact q
theorem Inv.quiet {pins:List (Addr×Obj)}{σ:St}{H:Hp}{s:Shared}(I:Inv X pins σ H s):interactive X.env=false:=by simp [interactive,I.ok.kind]
def Et (te:TE):TS:=fun D σ H=>te σ H fun _ H1=>D.nx σ H1
theorem dH (he:PE X e te)(hs:swapsWith e none pos.line X.env=pure false:=by rfl):PS X (.Expr e pos) (Et te):=by
 intro pins s σ H D I h;exact wpAny_Expr_any (thn (he pins s σ H _ I h) fun v s1 ⟨x,H1,I1,r1,q1⟩=>⟨σ,H1,I1,q1⟩) I.quiet hs
def Dd (te:TE):TS:=fun D σ H=>te σ H D.rt
theorem aQ (he:PE X e te):PS X (.Return (some e) pos) (Dd te):=by
 intro pins s σ H D I h;exact wpAny_Return_some (thn (he pins s σ H _ I h) fun v s1 ⟨x,H1,I1,r1,q1⟩=>⟨x,σ,H1,I1,r1,q1⟩)
def GX (c:TT)(t u:TS):TS:=fun D σ H=>c σ H fun b H1=>if b=true then t D σ H1 else u D σ H1
theorem cB {c:Expr}{a b:List Stmt}{tc:TT}(hc:PT X c tc)(ha:PSs X a t)(hb:PSs X b u):PS X (.If c a b pos) (GX tc t u):=by
 intro pins s σ H D I h;refine wpAny_If (thn (hc pins s σ H _ I h) fun d s1 ⟨H1,I1,q1⟩=>?_)
 cases d with
 | true=>exact ha pins s1 σ H1 D I1 q1
 | false=>exact hb pins s1 σ H1 D I1 q1
def wW:TS:=fun _ _ _=>False
theorem iT:PS X st wW:=fun _ _ _ _ _ _ h=>h.elim
theorem nA {BQ:List Stmt}:PSs X BQ wW:=fun _ _ _ _ _ _ h=>h.elim
end
abbrev TG:=V->St->Hp->(St->Hp->Prop)->Prop
abbrev TGs:=List V->St->Hp->(St->Hp->Prop)->Prop
def PG (X:Cx)(target:Expr)(t:TG):Prop :=
 ∀ (pins:List (Addr×Obj)) (s:Shared) (σ:St) (H:Hp) (v:V) (u:Value) (Q:St->Hp->Prop),Inv X pins σ H s->RelV v u->t v σ H Q ->
  wpAny (model X.prog X.w) X.A (assign target X.env u) (fun _ s'=>∃ af H',Inv X pins af H' s'/\Q af H') X.xe s
def PGs (X:Cx)(ts:List Expr)(t:TGs):Prop :=
 ∀ (pins:List (Addr×Obj)) (s:Shared) (σ:St) (H:Hp) (vs:List V) (us:List Value) (Q:St->Hp->Prop),Inv X pins σ H s->Vals vs us->t vs σ H Q ->
  wpAny (model X.prog X.w) X.A (assignInOrder ((assignEach ts X.env).map (·.2)) us) (fun _ s'=>∃ af H',Inv X pins af H' s'/\Q af H') X.xe s
abbrev wX:=V->V->V->Hp->(Hp->Prop)->Prop
def Df (X:Cx)(t:wX):Prop :=
 ∀ (pins:List (Addr×Obj)) (s:Shared) (σ:St) (H:Hp) (o i v:V) (ov iv u:Value) (Q:Hp->Prop),Inv X pins σ H s->RelV o ov->RelV i iv->RelV v u->t o i v H Q ->
  wpAny (model X.prog X.w) X.A (setItem ov iv u) (fun _ s'=>∃ H',Inv X pins σ H' s'/\Q H') X.xe s
abbrev TIp:=V->V->Hp->VK->Prop
def PIp (X:Cx)(op:Operator)(t:TIp):Prop :=
 ∀ (pins:List (Addr×Obj)) (s:Shared) (σ:St) (H:Hp) (x y:V) (v u:Value) (Q:VK),Inv X pins σ H s->RelV x v->RelV y u->t x y H Q ->
  wpAny (model X.prog X.w) X.A (inplaceOp op v u) (EP X pins σ Q) X.xe s
section
variable {X:Cx}{pos:Pos}
def bF (i:Nat):TG:=fun v σ H Q=>Q (σ.set i (some v)) H
theorem aY {i:Nat}{x:Str}(hN:X.N.Nodup)(hi:X.N[i]?=some x)(hx:Loc X.env.scope x)(hf:X.fn x=true\/X.env.scope.names.lookup x=some .local:=by first | exact .inl rfl | exact .inr rfl | assumption):PG X (.Name x pos) (bF i):=by
 intro pins s σ H v u Q I r h;exact wpAny_assign_Name (gF I hN hi hx r (fun s' I'=>⟨_,H,I',h⟩) hf)
def jU:TGs:=fun vs σ H Q=>vs=[]/\Q σ H
def bQ (t:TG)(u:TGs):TGs:=fun vs σ H Q=>∃ v r,vs=v::r/\t v σ H fun af H'=>u r af H' Q
theorem aR:PGs X [] jU:=by
 intro pins s σ H vs us Q I r h;obtain ⟨e,h⟩:=h;subst e;cases r;exact assignInOrder_nil ⟨σ,H,I,h⟩
theorem aj {e:Expr}{es:List Expr}{t:TG}{u:TGs}(h1:PG X e t)(h2:PGs X es u)
  (hs:(assignEach (e::es) X.env).map (·.2)=assign e X.env::(assignEach es X.env).map (·.2):=by rfl):PGs X (e::es) (bQ t u):=by
 intro pins s σ H vs us Q I r h;obtain ⟨v,vr,e1,h⟩:=h;subst e1
 cases r with
 | cons r rr =>
  rw [hs];refine assignInOrder_cons (thn (h1 pins s σ H _ _ _ I r h) fun _ s1 ⟨BU,H1,I1,q1⟩=>?_);exact h2 pins s1 BU H1 _ _ Q I1 rr q1
inductive GTupI (K:PySem.W.Frag)(n:Nat)(t:TGs)(v:V)(σ:St)(H:Hp)(Q:St->Hp->Prop):Prop
 | mk:∀ a xs,(v=.ref a)->(SqT K H a xs)->(xs.length=n)->(t xs σ H Q)->GTupI K n t v σ H Q
def jL (K:PySem.W.Frag)(n:Nat)(t:TGs):TG:=fun v σ H Q=>GTupI K n t v σ H Q
theorem bz {es:List Expr}{k:Nat}{t:TGs}{n:Nat}(hc:X.calm=true)(h:PGs X es t)
  (hn:(assignEach es X.env).length=n:=by rfl) (fR:(assignEach es X.env).findIdx? (·.1)=none:=by rfl):PG X (.Tuple es k pos) (jL X.K n t):=by
 intro pins s σ H v u Q I r hw;obtain ⟨a,xs,e1,hq,hl,hw⟩:=hw;subst e1;cases r;obtain ⟨its,rv,ht,hz⟩:=I.tuple hq;refine assign_Tuple_tuple (I.ok.hd hc) ht (by simp [hn,<- hl,rv.length]) fR fun h' hx=>?_;have I1:Inv X pins σ H { s with heap:=h' }:=I.kept (t':=s.toks) fun b o e=>hx b o (Nat.ne_of_lt (Heap.lt_size e)) e;exact h pins _ σ H xs _ Q I1 (by simpa using rv) hw
def GZ (to ti:TE)(t:wX):TG:=fun v σ H Q=>to σ H fun o H1=>ti σ H1 fun i H2=>t o i v H2 fun H3=>Q σ H3
theorem iz {o i:Expr}{to ti:TE}{t:wX}(ho:PE X o to)(hi:PE X i ti)(hs:Df X t)
  (ha:∀ v,assign (.Subscript o i pos) X.env v=(do
   let ov <- holding [v] (eval o X.env)
   let iv <- holding [v,ov] (eval i X.env)
   standAt pos
   holding [v,ov,iv] (setItem ov iv v)
   release [v,ov,iv] []):=by intro _;rfl):PG X (.Subscript o i pos) (GZ to ti t):=by
 intro pins s σ H v u Q I r h;rw [ha];refine zAu (wpAny_holding (thn (ho pins s σ H _ I h) fun ov s1 ⟨x,H1,I1,r1,q1⟩=>?_));refine zAu (wpAny_holding (thn (hi pins s1 σ H1 _ I1 q1) fun iv s2 ⟨y,H2,I2,r2,q2⟩=>?_));refine zAu (wpAny_standAt (zAu (wpAny_holding (thn (hs pins s2 σ H2 x y v ov iv u _ I2 r1 r2 r q2) fun _ s3 ⟨H3,I3,q3⟩=>?_))));exact wpAny_release ⟨σ,H3,I3,q3⟩
def vz (te:TE)(g:TG):TS:=fun D σ H=>te σ H fun x H1=>g x σ H1 D.nx
theorem bN {tg e:Expr}{te:TE}{g:TG}(he:PE X e te)(hg:PG X tg g)(hs:swapsWithSole [tg] e pos.line X.env=pure false:=by rfl)(hw:swappedStores [tg] e X.env=pure none:=by rfl)
  (h1:(assignEach [tg] X.env).map (·.2)=[assign tg X.env]:=by rfl):PS X (.Assign [tg] e pos) (vz te g):=by
 intro pins s σ H D I h;refine wpAny_Assign_stores (thn (he pins s σ H _ I h) fun v s1 ⟨x,H1,I1,r1,q1⟩=>?_) hs hw;rw [h1];exact thn (hg pins s1 σ H1 x v _ I1 r1 q1) fun _ s2 q=>q
theorem pC {i:Nat}{x:Str}{e:Expr}{te:TE}{pos':Pos}(hN:X.N.Nodup)(hi:X.N[i]?=some x)(hx:Loc X.env.scope x)(he:PE X e te)(hs:swapsWith e (some (.Name x pos')) pos.line X.env=pure false:=by rfl)(hf:X.fn x=true\/X.env.scope.names.lookup x=some .local:=by first | exact .inl rfl | exact .inr rfl | assumption) :
  PS X (.Assign [.Name x pos'] e pos) (vz te (bF i)):=by
 intro pins s σ H D I h;refine wpAny_Assign_Name (thn (he pins s σ H _ I h) fun v s1 ⟨y,H1,I1,r1,q1⟩=>?_) hs;exact gF I1 hN hi hx r1 (fun s2 I2=>⟨_,H1,I2,q1⟩) hf
def Hf (i j:Nat)(ta:TA):TS:=fun D σ H=>ta σ H fun vs H1=>∃ v w,vs=[v,w]/\D.nx ((σ.set i (some v)).set j (some w)) H1
theorem wY {i j:Nat}{x y:Str}{a b:Expr}{ta:TA}{px py pt:Pos}{kt k2 pt2}(hc:X.calm=true)(hN:X.N.Nodup)(hi:X.N[i]?=some x)(hj:X.N[j]?=some y)(bE:i≠j)
  (hx:X.env.scope.names.lookup x=some .local) (hy:X.env.scope.names.lookup y=some .local) (ha:PA X [a,b] ta)
  (hw:swappedStores [.Tuple [.Name x px,.Name y py] kt pt] (.Tuple [a,b] k2 pt2) X.env=pure (some [x,y]))
  (hs:swapsWithSole [.Tuple [.Name x px,.Name y py] kt pt] (.Tuple [a,b] k2 pt2) pos.line X.env=pure false:=by rfl) :
  PS X (.Assign [.Tuple [.Name x px,.Name y py] kt pt] (.Tuple [a,b] k2 pt2) pos) (Hf i j ta):=by
 intro pins s σ H D I h;rw [exec_Assign_arm];refine zAu (wpAny_standAt ?_);rw [hs];refine zAu (zAz ?_);rw [zAv (by decide)];refine zAu (Tuple_ (thn (ha _ pins s σ H _ I h) fun us s1 ⟨vs,H1,I1,r1,q1⟩=>?_));obtain ⟨v,w,e1,q1⟩:=q1;subst e1
 obtain ⟨u1,u2,rfl,rv,eI⟩:∃ u1 u2,us=[u1,u2]/\RelV v u1/\RelV w u2:=by
  cases r1 with
  | cons p q =>
   cases q with
   | cons p' q' =>
    cases q';exact ⟨_,_,rfl,p,p'⟩
 refine wpAny_newObj_type ?_ (by show 2<=sizeLine;decide);have I2:Inv X pins σ H1 { s1 with heap:=s1.heap.push { cls:=.type "tuple",data:=.seq [u1,u2].toArray } }:=I1.kept (t':=s1.toks) fun b o e=>zAx _ e;rw [hw];refine zAu (zAz ?_);show wpAny (model X.prog X.w) X.A (do rule "assign.swapped-stores";let items <- unpackItems (.ref s1.heap.objs.size) 2 none;assignInOrder [fun v=>bindName X.env y v,fun v=>bindName X.env x v] items.reverse;pure Flow.next) _ _ _;refine zAu (wpAny_rule (zAu (unpackItems_tuple (items:=#[u1,u2]) (I.ok.hd hc) (IsTup.new s1.heap _) fun h' iN=>?_)));have I3:=I2.kept (h':=h') (t':=s1.toks) fun b o e=>iN b o (zB8 (zB0 e)) e;show wpAny _ _ (assignInOrder [fun v=>bindName X.env y v,fun v=>bindName X.env x v] [u2,u1] >>= fun _=>pure Flow.next) _ _ _;refine zAu (assignInOrder_cons (wpAny_bindName (gF I3 hN hj (.inl hy) eI (fun s2 I4=>?_) (.inr hy))));refine assignInOrder_cons (wpAny_bindName (gF I4 hN hi (.inl hx) rv (fun s3 I5=>assignInOrder_nil (zAz ?_)) (.inr hx)));rw [List.set_comm _ _ (Ne.symm bE)] at I5;exact ⟨_,H1,I5,q1⟩
inductive TAugI (i:Nat)(te:TE)(ti:TIp)(D:Ends)(σ:St)(H:Hp):Prop
 | mk:∀ x,(σ[i]?=some (some x))->(te σ H fun y H1=>ti x y H1 fun z H2=>D.nx (σ.set i (some z)) H2)->TAugI i te ti D σ H
def Hg (i:Nat)(te:TE)(ti:TIp):TS:=fun D σ H=>TAugI i te ti D σ H
theorem iB {i:Nat}{x:Str}{e:Expr}{te:TE}{op:Operator}{ti:TIp}{pos':Pos}(hN:X.N.Nodup)(hi:X.N[i]?=some x)(hx:Loc X.env.scope x)(he:PE X e te)(ho:PIp X op ti)(hf:X.fn x=true\/X.env.scope.names.lookup x=some .local:=by first | exact .inl rfl | exact .inr rfl | assumption) :
  PS X (.AugAssign (.Name x pos') op e pos) (Hg i te ti):=by
 intro pins s σ H D I h;obtain ⟨v,e1,h⟩:=h;obtain ⟨m,hn,hl⟩:=I.loc;have JY:Vis X.env.scope x:=by rcases hx with k | k;exact .inl k;exact .inr (.inl k)
 obtain ⟨u,r,l⟩:=hl i x v hi e1 JY;refine wpAny_AugAssign_Name ?_
 have go:wpAny (model X.prog X.w) X.A (eval e X.env) (fun w s₂=>wpAny (model X.prog X.w) X.A (inplaceOp op u w) (fun r s₃=>wpAny (model X.prog X.w) X.A (storeName X.env x r) (fun _=>SP X pins D .next) X.xe s₃) X.xe s₂) X.xe s:=by
  refine thn (he pins s σ H _ I h) fun w s1 ⟨y,H1,I1,r1,q1⟩=>?_;refine thn (ho pins s1 σ H1 v y u w _ I1 r r1 q1) fun z s2 ⟨zv,H2,I2,r2,q2⟩=>?_;exact gF I2 hN hi hx r2 (fun s3 I3=>⟨_,H2,I3,q2⟩) hf
 rcases l with ⟨hk,hm⟩ | ⟨hk,c,hc,hcell⟩
 ·exact wpAny_loadName_local I.ok.kind hk hn hm go
 ·rcases hk with hk | hk
  ·exact wpAny_loadName_cell I.ok.kind hk hc hcell go
  ·rcases hx with k | k
   ·have:X.env.scope.names.lookup x=some .free:=hk;rw [k] at this;cases this
   ·have:X.env.scope.names.lookup x=some .free:=hk;rw [k] at this;cases this
def Eu (to ti te:TE)(kH:V->V->Hp->VK->Prop)(AG:TIp)(kK:wX):TS:=fun D σ H=>to σ H fun o H1=>ti σ H1 fun i H2=>kH o i H2 fun x H3=>te σ H3 fun y H4=>AG x y H4 fun z H5=>kK o i z H5 fun H6=>D.nx σ H6
def Ew (X:Cx)(t:V->V->Hp->VK->Prop):Prop :=
 ∀ (pins:List (Addr×Obj)) (s:Shared) (σ:St) (H:Hp) (o i:V) (ov iv:Value) (Q:VK),Inv X pins σ H s->RelV o ov->RelV i iv->t o i H Q ->
  wpAny (model X.prog X.w) X.A (getItem ov iv) (EP X pins σ Q) X.xe s
theorem jQ {o i e:Expr}{to ti te:TE}{kH:V->V->Hp->VK->Prop}{AG:TIp}{kK:wX}{op:Operator}{oo:Pos}(ho:PE X o to)(hi:PE X i ti)(hg:Ew X kH)(he:PE X e te)(hp:PIp X op AG)(hs:Df X kK)
  (ha:∀ ov iv new,augStore i ov iv new=(do holding [new,ov,iv] (setItem ov iv new);release [new,ov,iv] [];pure .next):=by intros;rfl):PS X (.AugAssign (.Subscript o i oo) op e pos) (Eu to ti te kH AG kK):=by
 intro pins s σ H D I h;refine wpAny_AugAssign_SubscriptAny (thn (ho pins s σ H _ I h) fun ov s1 ⟨x1,H1,I1,r1,q1⟩=>?_) ha;refine thn (hi pins s1 σ H1 _ I1 q1) fun iv s2 ⟨x2,H2,I2,r2,q2⟩=>?_;refine thn (hg pins s2 σ H2 x1 x2 ov iv _ I2 r1 r2 q2) fun old s3 ⟨x3,H3,I3,r3,q3⟩=>?_;refine thn (he pins s3 σ H3 _ I3 q3) fun v s4 ⟨x4,H4,I4,r4,q4⟩=>?_;refine thn (hp pins s4 σ H4 x3 x4 old v _ I4 r3 r4 q4) fun new s5 ⟨x5,H5,I5,r5,q5⟩=>?_
 exact thn (hs pins s5 σ H5 x1 x2 x5 ov iv new _ I5 r1 r2 r5 q5) fun _ s6 ⟨H6,I6,q6⟩=>⟨σ,H6,I6,q6⟩
def ipI (f:Int->Int->Int):TIp:=fun x y H Q=>∃ i j,x=.int i/\y=.int j/\Q (.int (f i j)) H
theorem sS:PIp X .Add (ipI fun i j=>i+j):=by
 intro pins s σ H x y v u Q I r1 r2 h;obtain ⟨i,j,e1,e2,q⟩:=h;subst e1;subst e2;obtain ⟨t,rfl⟩:=r1;obtain ⟨t',rfl⟩:=r2;exact iadd_int ⟨.int _,H,I.tok _,⟨_,rfl⟩,q⟩
theorem wZ:PIp X .Sub (ipI fun i j=>i - j):=by
 intro pins s σ H x y v u Q I r1 r2 h;obtain ⟨i,j,e1,e2,q⟩:=h;subst e1;subst e2;obtain ⟨t,rfl⟩:=r1;obtain ⟨t',rfl⟩:=r2;exact isub_int ⟨.int _,H,I.tok _,⟨_,rfl⟩,q⟩
end
section
variable {X:Cx}{pos:Pos}
end
structure It where
 go:Nat->Hp->Prop
 yld:Nat->Hp->V->Hp->Prop
 stop:Nat->Hp->Prop
def pF (X:Cx)(pins:List (Addr×Obj))(H:Hp)(b:Addr):Prop :=
 H b=none/\b≠X.env.locals/\b ∉ X.fs/\(b∈X.ex\/X.s₀.heap.objs.size<=b)/\(∀ x c,X.env.cells.lookup x=some c->c≠b)/\∀ p∈X.pn++pins,p.1≠b
theorem Inv.fpOk {X:Cx}{pins:List (Addr×Obj)}{σ:St}{H H':Hp}{s:Shared}{b:Addr}(I:Inv X pins σ H s)(hb:s.heap.objs.size<=b)(hn:H' b=none):pF X pins H' b:=by
 refine ⟨hn,Nat.ne_of_gt (zB4 I.lt hb),I.nofs hb,.inr (Nat.le_trans I.sz hb),fun x c e z=>?_,fun p hp z=>?_⟩
 ·obtain ⟨v,q⟩:=I.cell x c e;exact absurd (zB4 q.lt (by rw [z];exact hb)) (Nat.lt_irrefl _)
 ·exact absurd (zB4 (zB0 (I.pin p hp).1) (by rw [z];exact hb)) (Nat.lt_irrefl _)
structure Turn (P:Program)(w:World)(K:PySem.W.Frag)(tg:Expr)(J:It)(fp:List Addr)(it:Addr)(tn:Nat->Heap->Prop):Prop where
 mem:it∈fp
 obj:∀ i h,tn i h->∀ b∈fp,∃ o,h.get? b=some o/\∀ v,o.data≠.cell v
 keep:∀ i h h',tn i h->(∀ b∈fp,∀ o,h.get? b=some o->h'.get? b=some o)->tn i h'
 item:∀ (X:Cx),X.prog=P->X.w=w->X.K=K->X.calm=true->∀ (i:Nat) (pins:List (Addr×Obj)) (s:Shared) (σ:St) (H:Hp) (E:Value->Shared->Prop),Inv X pins σ H s->(∀ b∈fp,pF X pins H b)->tn i s.heap->J.go i H ->
  wpAny (model P w) X.A (pyNext (.ref it)) (fun r s1=>∃ u,r=some u /\
   wpAny (model P w) X.A (letOwnedTupleGo tg (.ref it) u) (fun _ s2=>∃ x H',Inv X pins σ H' s2/\RelV x u/\J.yld i H x H'/\tn (i+1) s2.heap/\∀ b∈fp,H' b=none) E s1) E s
 done:∀ (X:Cx),X.prog=P->X.w=w->X.K=K->X.calm=true->∀ (i:Nat) (pins:List (Addr×Obj)) (s:Shared) (σ:St) (H:Hp) (E:Value->Shared->Prop),Inv X pins σ H s->(∀ b∈fp,pF X pins H b)->tn i s.heap->J.stop i H ->
  wpAny (model P w) X.A (pyNext (.ref it)) (fun r s1=>r=none/\Inv X pins σ H s1) E s
 self:∀ (A:Around) (i:Nat) (s:Shared) (Q:Value->Shared->Prop) (E:Value->Shared->Prop),tn i s.heap->Q (.ref it) s->wpAny (model P w) A (pyIter (.ref it)) Q E s
abbrev TI:=St->Hp->(It->Hp->Prop)->Prop
def PIE (X:Cx)(pins:List (Addr×Obj))(σ:St)(tg:Expr)(R:It->Hp->Prop)(AH:Value)(s2:Shared):Prop :=
 ∃ (it:Addr) (fp:List Addr) (tn:Nat->Heap->Prop) (J:It) (H':Hp),AH=.ref it/\Inv X pins σ H' s2/\Turn X.prog X.w X.K tg J fp it tn/\tn 0 s2.heap/\(∀ b∈fp,pF X pins H' b)/\R J H'
def PI (X:Cx)(tg iter:Expr)(wi:TI):Prop :=
 ∀ (pins:List (Addr×Obj)) (s:Shared) (σ:St) (H:Hp) (R:It->Hp->Prop),Inv X pins σ H s->wi σ H R ->
  wpAny (model X.prog X.w) X.A (eval iter X.env) (fun v s1=>wpAny (model X.prog X.w) X.A (pyIter v) (PIE X pins σ tg R) X.xe s1) X.xe s
theorem uf {M:Model}{A:Around}{E:Value->Shared->Prop}{s:Shared}{tg:Expr}{it:Addr}{u:Value}{o:Obj}{n:String}{vs:Array Value}{Q:Unit->Shared->Prop}(ho:s.heap.get? it=some o)(hc:o.cls=.type n)(hd:o.data=.fields vs)
  (hn:["enumerate","zip","dict_itemiterator","dict_reverseitemiterator","odict_iterator","itertools.zip_longest","itertools.pairwise"].contains n=false) (hQ:Q () s):wpAny M A (letOwnedTupleGo tg (.ref it) u) Q E s:=by
 unfold letOwnedTupleGo
 cases tg <;> first
  | exact zAz hQ
  | (cases u <;> first
    | exact zAz hQ
    | (refine zAu (wpAny_load ho ?_)
       rw [hc,hd];show wpAny M A (if (["enumerate","zip","dict_itemiterator","dict_reverseitemiterator","odict_iterator","itertools.zip_longest","itertools.pairwise"].contains n && vs[0]? == some (rawInt _))=true then _ else _) Q E s;rw [zAv (by intro h;rw [hn,Bool.false_and] at h;cases h)]
       exact zAz hQ))
def Itl (K:PySem.W.Frag)(a:Addr):It :=
 ⟨fun i H=>∃ xs x,SqL K H a xs/\xs[i]?=some x,fun i H x H'=>H'=H/\∀ xs,SqL K H a xs->xs[i]?=some x,fun i H=>∃ xs,SqL K H a xs/\xs.length<=i⟩
def Itt (K:PySem.W.Frag)(a:Addr):It :=
 ⟨fun i H=>∃ xs x,SqT K H a xs/\xs[i]?=some x,fun i H x H'=>H'=H/\∀ xs,SqT K H a xs->xs[i]?=some x,fun i H=>∃ xs,SqT K H a xs/\xs.length<=i⟩
def Itr (lo:Int)(n:Nat):It:=⟨fun i _=>i < n,fun i H x H'=>H'=H/\x=.int (lo+i),fun i _=>n<=i⟩
theorem vA {P:Program}{w:World}{K:PySem.W.Frag}{tg:Expr}(a it:Addr):Turn P w K tg (Itl K a) [it] it (fun i h=>h.IsListIter it a i) where
 mem:=by simp
 obj:=fun i h st b hb=>by
  have e:b=it:=by simpa using hb
  subst e;obtain ⟨o,e,c,d⟩:=st;exact ⟨o,e,fun v z=>by rw [d] at z;cases z⟩
 keep:=fun i h h' st k=>st.at fun o e=>k it (by simp) o e
 item:=by
  intro X hP hw hK hc i pins s σ H E I hf st hg;subst hP hw hK;obtain ⟨xs,x,hq,hx⟩:=hg;obtain ⟨its,rv,p,hz⟩:=I.list hq;obtain ⟨u,hu,ru⟩:=rv.get hx;obtain ⟨f0,f1,f2,f3,f4,f5⟩:=hf it (by simp);refine wpAny_pyNext_list_item st p.isList (x:=u) (by simpa using hu) fun h' st' sb=>?_;have I1:Inv X pins σ H { s with heap:=h' }:=I.turned (t':=s.toks) (fun b o hb e=>(sb.2 b hb).trans e) f0 f1 f3 f4 f5;obtain ⟨o,e,c,d⟩:=id st';exact ⟨u,rfl,uf (s:={ s with heap:=h' }) e c d (by decide) ⟨x,H,I1,ru,⟨rfl,fun ys hy=>by rw [I.list_inj hy hq];exact hx⟩,st',fun b hb=>(hf b hb).1⟩⟩
 done:=by
  intro X hP hw hK hc i pins s σ H E I hf st hg;subst hP hw hK;obtain ⟨xs,hq,hx⟩:=hg;obtain ⟨its,rv,p,hz⟩:=I.list hq;obtain ⟨f0,f1,f2,f3,f4,f5⟩:=hf it (by simp);have hl:=rv.length
  exact wpAny_pyNext_list_end (I.ok.hd hc) st p.isList (by simp;lia) fun h' eb=>⟨rfl,I.turned (t':=s.toks) (fun b o hb e=>eb b o hb e) f0 f1 f3 f4 f5⟩
 self:=fun _ _ _ _ _ st h=>wpAny_pyIter_listiter st h
theorem sU {P:Program}{w:World}{K:PySem.W.Frag}{tg:Expr}(a it:Addr):Turn P w K tg (Itt K a) [it] it (fun i h=>h.IsTupleIter it a i) where
 mem:=by simp
 obj:=fun i h st b hb=>by
  have e:b=it:=by simpa using hb
  subst e;obtain ⟨o,e,c,d⟩:=st;exact ⟨o,e,fun v z=>by rw [d] at z;cases z⟩
 keep:=fun i h h' st k=>st.at fun o e=>k it (by simp) o e
 item:=by
  intro X hP hw hK hc i pins s σ H E I hf st hg;subst hP hw hK;obtain ⟨xs,x,hq,hx⟩:=hg;obtain ⟨its,rv,p,hz⟩:=I.tuple hq;obtain ⟨u,hu,ru⟩:=rv.get hx;obtain ⟨f0,f1,f2,f3,f4,f5⟩:=hf it (by simp);refine wpAny_pyNext_tuple_item st (show s.heap.IsTuple a its.toArray from p) (x:=u) (by simpa using hu) fun h' st' sb=>?_;have I1:Inv X pins σ H { s with heap:=h' }:=I.turned (t':=s.toks) (fun b o hb e=>(sb.2 b hb).trans e) f0 f1 f3 f4 f5;obtain ⟨o,e,c,d⟩:=id st';exact ⟨u,rfl,uf (s:={ s with heap:=h' }) e c d (by decide) ⟨x,H,I1,ru,⟨rfl,fun ys hy=>by rw [I.tuple_inj hy hq];exact hx⟩,st',fun b hb=>(hf b hb).1⟩⟩
 done:=by
  intro X hP hw hK hc i pins s σ H E I hf st hg;subst hP hw hK;obtain ⟨xs,hq,hx⟩:=hg;obtain ⟨its,rv,p,hz⟩:=I.tuple hq;obtain ⟨f0,f1,f2,f3,f4,f5⟩:=hf it (by simp);have hl:=rv.length
  exact wpAny_pyNext_tuple_end (I.ok.hd hc) st (show s.heap.IsTuple a its.toArray from p) (by simp;lia) fun h' eb=>⟨rfl,I.turned (t':=s.toks) (fun b o hb e=>eb b o hb e) f0 f1 f3 f4 f5⟩
 self:=fun _ _ _ _ _ st h=>wpAny_pyIter_tupleiter st h
theorem sV {P:Program}{w:World}{K:PySem.W.Frag}{tg:Expr}(it:Addr)(lo:Int)(n:Nat):Turn P w K tg (Itr lo n) [it] it (fun i h=>IsRangeIter h it (lo+(i:Nat) * 1) ((n:Int) - (i:Nat)) 1) where
 mem:=by simp
 obj:=fun i h st b hb=>by
  have e:b=it:=by simpa using hb
  subst e
  exact ⟨_,st,fun v z=>by
   have z':Data.fields _=Data.cell v:=z
   cases z'⟩
 keep:=fun i h h' st k=>k it (by simp) _ st
 item:=by
  intro X hP hw hK hc i pins s σ H E I hf st hg;subst hP hw hK;obtain ⟨f0,f1,f2,f3,f4,f5⟩:=hf it (by simp);have W:=Walks.range (prog:=X.prog) (w:=X.w) (I.ok.hd hc) it lo 1 n;refine W.item i s _ _ hg st fun v h' tk hv st' kk=>?_;obtain ⟨t,rfl⟩:=hv;have I1:Inv X pins σ H { s with heap:=h',toks:=tk }:=I.turned (fun b o hb e=>kk b o (by simpa using hb) e) f0 f1 f3 f4 f5;refine ⟨_,rfl,uf (s:={ s with heap:=h',toks:=tk }) (n:="range_iterator") st' rfl rfl (by decide) ⟨.int (lo+i),H,I1,⟨t,?_⟩,⟨rfl,rfl⟩,st',fun b hb=>(hf b hb).1⟩⟩;rw [Int.mul_one]
 done:=by
  intro X hP hw hK hc i pins s σ H E I hf st hg;subst hP hw hK;obtain ⟨f0,f1,f2,f3,f4,f5⟩:=hf it (by simp)
  exact wpAny_pyNext_range_end (I.ok.hd hc) st (by have:n<=i:=hg;lia) fun h' eb=>⟨rfl,I.turned (t':=s.toks) (fun b o hb e=>eb b o hb e) f0 f1 f3 f4 f5⟩
 self:=fun _ _ _ _ _ st h=>wpAny_pyIter_rangeiter st h
section
variable {X:Cx}{tg:Expr}
def BV (K:PySem.W.Frag)(tl:TE):TI:=fun σ H R=>tl σ H fun x H1=>∃ a,x=.ref a/\(∃ xs,SqL K H1 a xs)/\R (Itl K a) H1
def Ex (K:PySem.W.Frag)(tl:TE):TI:=fun σ H R=>tl σ H fun x H1=>∃ a,x=.ref a/\(∃ xs,SqT K H1 a xs)/\R (Itt K a) H1
theorem cC {l:Expr}{tl:TE}(hl:PE X l tl):PI X tg l (BV X.K tl):=by
 intro pins s σ H R I h;refine thn (hl pins s σ H _ I h) fun v s1 ⟨x,H1,I1,r1,q1⟩=>?_;obtain ⟨a,e,⟨xs,hq⟩,q⟩:=q1;subst e;cases r1;obtain ⟨its,rv,p,hz⟩:=I1.list hq;refine wpAny_pyIter_list p.isList ?_;refine ⟨s1.heap.objs.size,[s1.heap.objs.size],_,_,H1,rfl,I1.kept (t':=s1.toks) fun b o e=>Heap.get?_push_of_some _ e,vA a _,⟨_,Heap.get?_push_size _ rfl,rfl,rfl⟩,fun b hb=>?_,q⟩;have e:b=s1.heap.objs.size:=by simpa using hb
 subst e;exact I1.fpOk (zA3 _) (I1.hok.fresh (zA3 _))
theorem fZ {l:Expr}{tl:TE}(hl:PE X l tl):PI X tg l (Ex X.K tl):=by
 intro pins s σ H R I h;refine thn (hl pins s σ H _ I h) fun v s1 ⟨x,H1,I1,r1,q1⟩=>?_;obtain ⟨a,e,⟨xs,hq⟩,q⟩:=q1;subst e;cases r1;obtain ⟨its,rv,p,hz⟩:=I1.tuple hq;refine wpAny_pyIter_tuple (show s1.heap.IsTuple a its.toArray from p) ?_;refine ⟨s1.heap.objs.size,[s1.heap.objs.size],_,_,H1,rfl,I1.kept (t':=s1.toks) fun b o e=>Heap.get?_push_of_some _ e,sU a _,⟨_,Heap.get?_push_size _ rfl,rfl,rfl⟩,fun b hb=>?_,q⟩;have e:b=s1.heap.objs.size:=by simpa using hb
 subst e;exact I1.fpOk (zA3 _) (I1.hok.fresh (zA3 _))
theorem qL {pins:List (Addr×Obj)}{σ:St}{H:Hp}{s:Shared}{R:It->Hp->Prop}{E:Value->Shared->Prop}{lo hi:Int}{t u v:Tok}{tk:Nat}(I:Inv X pins σ H s)(h1:-(2 ^ 62)<=lo)(h2:lo < 2 ^ 62)(h3:-(2 ^ 62)<=hi)(h4:hi < 2 ^ 62)
  (q:R (Itr lo (hi - lo).toNat) H):wpAny (model X.prog X.w) X.A (pyIter (.ref s.heap.objs.size)) (PIE X pins σ tg R) E { s with heap:=s.heap.push { cls:=.type "range",data:=.fields #[.int lo t,.int hi u,.int 1 v] },toks:=tk }:=by
 refine wpAny_pyIter_range (IsRange.new ..) (small_one h1 h2 h3 h4) ?_;have I1:Inv X pins σ H { s with heap:=s.heap.push { cls:=.type "range",data:=.fields #[.int lo t,.int hi u,.int 1 v] },toks:=tk }:=I.kept fun b o e=>zAx _ e
 refine ⟨(s.heap.push { cls:=.type "range",data:=.fields #[.int lo t,.int hi u,.int 1 v] }).objs.size,[(s.heap.push { cls:=.type "range",data:=.fields #[.int lo t,.int hi u,.int 1 v] }).objs.size],_,_,H,rfl,
  I1.kept (t':=tk) fun b o e=>zAx _ e,sV _ lo (hi - lo).toNat,?_,fun b hb=>?_,q⟩
 ·have e1:lo+((0:Nat):Int) * 1=lo:=by simp
  have e2:(((hi - lo).toNat:Nat):Int) - ((0:Nat):Int)=Builtin.Range.rangeSize lo hi 1:=by rw [rangeSize_one];split <;> lia
  show IsRangeIter _ _ (lo+((0:Nat):Int) * 1) ((((hi - lo).toNat:Nat):Int) - ((0:Nat):Int)) 1;rw [e1,e2];exact zB1 _ rfl
 ·have e:b=(s.heap.push { cls:=.type "range",data:=.fields #[.int lo t,.int hi u,.int 1 v] }).objs.size:=by simpa using hb
  subst e;exact I1.fpOk (zA3 _) (I1.hok.fresh (zA3 _))
def Ey (ta:TA):TI:=fun σ H R=>ta σ H fun vs H1=>∃ j:Int,vs=[.int j]/\-(2 ^ 62)<=j/\j < 2 ^ 62/\R (Itr 0 j.toNat) H1
def Ez (ta:TA):TI:=fun σ H R=>ta σ H fun vs H1=>∃ i j:Int,vs=[.int i,.int j]/\(-(2 ^ 62)<=i/\i < 2 ^ 62/\-(2 ^ 62)<=j/\j < 2 ^ 62)/\R (Itr i (j - i).toNat) H1
theorem cA {a:Expr}{ta:TA}{p pos:Pos}(hg:Gl X "range")(hm:X.mg "range" = none)(ha:PA X [a] ta)(hs:starEach [a] X.env=[(false,eval a X.env)]:=by rfl):PI X tg (.Call (.Name "range" p) [a] [] pos) (Ey ta):=by
 intro pins s σ H R I h;refine Call_ (fG I hg hm boot_range (PyProof.Rows.callWith_type1 (thn (ha pos pins s σ H _ I h) fun us s1 ⟨vs,H1,I1,r1,q1⟩=>?_) hs rfl));obtain ⟨j,e,q1,q2,q⟩:=q1;subst e
 cases r1 with
 | cons r rr =>
  cases rr;obtain ⟨t,rfl⟩:=r;exact call_range_1 (qL I1 (by lia) (by lia) q1 q2 (by simpa using q))
theorem nC {a b:Expr}{ta:TA}{p pos:Pos}(hg:Gl X "range")(hm:X.mg "range" = none)(ha:PA X [a,b] ta)(hs:starEach [a,b] X.env=[(false,eval a X.env),(false,eval b X.env)]:=by rfl)(mh:starEach [b] X.env=[(false,eval b X.env)]:=by rfl) :
  PI X tg (.Call (.Name "range" p) [a,b] [] pos) (Ez ta):=by
 intro pins s σ H R I h;refine Call_ (fG I hg hm boot_range (PyProof.Rows.callWith_type1 (thn (ha pos pins s σ H _ I h) fun us s1 ⟨vs,H1,I1,r1,q1⟩=>?_) (by rw [hs,mh]) (by rw [mh];rfl)));obtain ⟨i,j,e,⟨q1,q2,q3,q4⟩,q⟩:=q1;subst e
 cases r1 with
 | cons r rr =>
  cases rr with
  | cons r' rr =>
   cases rr;obtain ⟨t,rfl⟩:=r;obtain ⟨t',rfl⟩:=r';exact call_range_2 (qL I1 q1 q2 q3 q4 q)
def Hh (wi:TI)(g:TG)(tb:TS):TS:=fun D σ H=>wi σ H fun J H1=>∃ W:Nat->Nat->St->Hp->Prop,(∃ m,W 0 m σ H1)/\∀ i m σ H,W i m σ H ->
 (J.stop i H/\D.nx σ H)\/(J.go i H/\∃ N:St->Hp->Prop,(∀ af H',N af H'->∃ m',m' < m/\W (i+1) m' af H')/\∀ x H',J.yld i H x H'->g x σ H' fun ay H2=>tb { D with nx:=N,ct:=N,bk:=D.nx } ay H2)
def jV (fp:List Addr)(h:Heap):List (Addr×Obj):=fp.filterMap fun b=>(h.get? b).map fun o=>(b,o)
theorem gb {fp:List Addr}{h:Heap}{b:Addr}{o:Obj}(hb:b∈fp)(e:h.get? b=some o):(b,o)∈jV fp h:=List.mem_filterMap.mpr ⟨b,hb,by rw [e];rfl⟩
theorem vB {fp:List Addr}{h:Heap}{p:Addr×Obj}(hp:p∈jV fp h):p.1∈fp/\h.get? p.1=some p.2:=by
 obtain ⟨b,hb,e⟩:=List.mem_filterMap.mp hp
 cases q:h.get? b with
 | none=>rw [q] at e;cases e
 | some o =>
  rw [q] at e;have e':(b,o)=p:=zAl e;subst e';exact ⟨hb,q⟩
theorem Inv.pinned {pins:List (Addr×Obj)}{σ:St}{H:Hp}{s:Shared}{fp:List Addr}(I:Inv X pins σ H s)(hf:∀ b∈fp,pF X pins H b)(ho:∀ b∈fp,∃ o,s.heap.get? b=some o/\∀ v,o.data≠.cell v):Inv X (pins++jV fp s.heap) σ H s :=
 I.pins_of fun p hp=>(zA6.mp hp).elim (fun z=>I.pin p (zBd _ z)) fun z=>by
  obtain ⟨hb,e⟩:=vB z;obtain ⟨f0,f1,f2,_⟩:=hf p.1 hb;obtain ⟨o,e',d⟩:=ho p.1 hb;rw [e] at e';cases e';exact ⟨e,f0,f1,f2,d⟩
theorem Inv.unpinned {pins pl:List (Addr×Obj)}{σ:St}{H:Hp}{s:Shared}(I:Inv X (pins++pl) σ H s):Inv X pins σ H s:=I.pins_of fun p hp=>I.pin p (zBd _ (List.mem_append_left _ hp))
theorem bV {iter:Expr}{body:List Stmt}{wi:TI}{g:TG}{tb:TS}{pos:Pos}(hp:PassesOwn (model X.prog X.w) X.A X.env X.xe)(hc:X.calm=true)(hi:PI X tg iter wi)(hg:PG X tg g)(hb:PSs X body tb)
  (hs:∀ x,foldedSetIterable iter X.env x=pure x:=by intro _;rfl):PS X (.For tg iter body [] pos) (Hh wi g tb):=by
 intro pins s σ H D I h;refine wpAny_For (thn (hi pins s σ H _ I h) fun v s1 h1=>thn h1 fun AH s2 h2=>?_) hs;obtain ⟨it,fp,tn,J,H2,e,I2,T,st2,f2,W,⟨m0,w0⟩,turn⟩:=h2;subst e
 have oq:∀ {H':Hp},(∀ b∈fp,H' b=none)->∀ b∈fp,pF X pins H' b:=fun hn b hb=>⟨hn b hb,(f2 b hb).2⟩
 refine codeAny_forLoop_any (fun n s'=>∃ i af H',Inv X pins af H' s'/\tn i s'.heap/\(∀ b∈fp,H' b=none)/\W i n af H') ?_ m0 ⟨0,σ,H2,I2,st2,fun b hb=>(f2 b hb).1,w0⟩;rintro n s3 ⟨i,iO,H3,I3,gy,u4,w3⟩;rcases turn i n iO H3 w3 with ⟨stop,qn⟩ | ⟨go,N,hN,step⟩
 ·refine wpAny_passesOwn hp (thn (T.done X rfl rfl rfl hc i pins s3 iO H3 X.xe I3 (oq u4) gy stop) fun r s4 ⟨hr,I4⟩=>?_);subst hr;exact wpAny_execs_nil ⟨iO,H3,I4,qn⟩
 ·refine wpAny_passesOwn hp (thn (T.item X rfl rfl rfl hc i pins s3 iO H3 X.xe I3 (oq u4) gy go) fun r s4 ⟨u,hr,h4⟩=>?_);subst hr;refine wpAny_passesOwn hp (thn h4 fun _ s5 ⟨x,H5,I5,r5,y5,ot,BY⟩=>?_);have B0:=I5.pinned (oq BY) (T.obj _ _ ot);refine wpAny_passesOwn hp (thn (hg _ s5 iO H5 x u _ B0 r5 (step x H5 y5)) fun _ s6 ⟨kM,H6,I6,q6⟩=>?_);refine wpAny_passesOwn hp (thn (hb _ s6 kM H6 _ I6 q6) fun f s7 q7=>?_)
  have again:∀ {iP:St} {H7:Hp},Inv X (pins++jV fp s5.heap) iP H7 s7->N iP H7->∃ m,m < n/\∃ i af H',Inv X pins af H' s7/\tn i s7.heap/\(∀ b∈fp,H' b=none)/\W i m af H':=fun {iP H7} I7 n7=>by
   obtain ⟨m',hm,w7⟩:=hN iP H7 n7;refine ⟨m',hm,i+1,iP,H7,I7.unpinned,T.keep _ _ _ ot fun b hb o e=>(I7.pin (b,o) (zBd _ (zBd _ (gb hb e)))).1,fun b hb=>?_,w7⟩;obtain ⟨o,e,d⟩:=T.obj _ _ ot b hb;exact (I7.pin (b,o) (zBd _ (zBd _ (gb hb e)))).2.1
  cases f with
  | next=>obtain ⟨iP,H7,I7,n7⟩:=q7;exact again I7 n7
  | cont=>obtain ⟨iP,H7,I7,n7⟩:=q7;exact again I7 n7
  | brk=>obtain ⟨iP,H7,I7,q7⟩:=q7;exact ⟨iP,H7,I7.unpinned,q7⟩
  | ret v=>obtain ⟨x7,iP,H7,I7,r7,q7⟩:=q7;exact ⟨x7,iP,H7,I7.unpinned,r7,q7⟩
end
theorem eU {K:PySem.W.Frag}{a:Addr}{xs:List V}{g:TG}{tb:TS}{D:Ends}{σ:St}{H:Hp}(Pv:Nat->St->Hp->Prop)(h0:Pv 0 σ H)(hl:∀ i σ H,i<=xs.length->Pv i σ H->SqL K H a xs)
  (hs:∀ i x σ H,xs[i]?=some x->Pv i σ H->g x σ H fun ay H2=>tb { D with nx:=Pv (i+1),ct:=Pv (i+1),bk:=D.nx } ay H2) (hd:∀ σ H,Pv xs.length σ H->D.nx σ H) :
  ∃ W:Nat->Nat->St->Hp->Prop,(∃ m,W 0 m σ H)/\∀ i m σ H,W i m σ H ->
   ((Itl K a).stop i H/\D.nx σ H)\/((Itl K a).go i H/\∃ N:St->Hp->Prop,(∀ af H',N af H'->∃ m',m' < m/\W (i+1) m' af H')/\∀ x H',(Itl K a).yld i H x H'->g x σ H' fun ay H2=>tb { D with nx:=N,ct:=N,bk:=D.nx } ay H2):=by
 refine ⟨fun i m σ H=>m=xs.length - i/\i<=xs.length/\Pv i σ H,⟨xs.length,by simp,Nat.zero_le _,h0⟩,?_⟩;rintro i m σ H ⟨rfl,hi,p⟩;have q:=hl i σ H hi p;by_cases ax:i < xs.length
 ·refine .inr ⟨⟨xs,xs[i],q,by simp [ax]⟩,Pv (i+1),fun af H' p'=>⟨xs.length - (i+1),by lia,rfl,ax,p'⟩,fun x H' y=>?_⟩;obtain ⟨e,y⟩:=y;subst e;exact hs i x σ _ (y xs q) p
 ·have e:i=xs.length:=by lia
  subst e;exact .inl ⟨⟨xs,q,zA3 _⟩,hd σ H p⟩
theorem zR {K:PySem.W.Frag}{a:Addr}{xs:List V}{g:TG}{tb:TS}{D:Ends}{σ:St}{H:Hp}(Pv:Nat->St->Hp->Prop)(h0:Pv 0 σ H)(hl:∀ i σ H,i<=xs.length->Pv i σ H->SqT K H a xs)
  (hs:∀ i x σ H,xs[i]?=some x->Pv i σ H->g x σ H fun ay H2=>tb { D with nx:=Pv (i+1),ct:=Pv (i+1),bk:=D.nx } ay H2) (hd:∀ σ H,Pv xs.length σ H->D.nx σ H) :
  ∃ W:Nat->Nat->St->Hp->Prop,(∃ m,W 0 m σ H)/\∀ i m σ H,W i m σ H ->
   ((Itt K a).stop i H/\D.nx σ H)\/((Itt K a).go i H/\∃ N:St->Hp->Prop,(∀ af H',N af H'->∃ m',m' < m/\W (i+1) m' af H')/\∀ x H',(Itt K a).yld i H x H'->g x σ H' fun ay H2=>tb { D with nx:=N,ct:=N,bk:=D.nx } ay H2):=by
 refine ⟨fun i m σ H=>m=xs.length - i/\i<=xs.length/\Pv i σ H,⟨xs.length,by simp,Nat.zero_le _,h0⟩,?_⟩;rintro i m σ H ⟨rfl,hi,p⟩;have q:=hl i σ H hi p;by_cases ax:i < xs.length
 ·refine .inr ⟨⟨xs,xs[i],q,by simp [ax]⟩,Pv (i+1),fun af H' p'=>⟨xs.length - (i+1),by lia,rfl,ax,p'⟩,fun x H' y=>?_⟩;obtain ⟨e,y⟩:=y;subst e;exact hs i x σ _ (y xs q) p
 ·have e:i=xs.length:=by lia
  subst e;exact .inl ⟨⟨xs,q,zA3 _⟩,hd σ H p⟩
theorem cY {lo:Int}{n:Nat}{g:TG}{tb:TS}{D:Ends}{σ:St}{H:Hp}(Pv:Nat->St->Hp->Prop)(h0:Pv 0 σ H)
  (hs:∀ i σ H,i < n->Pv i σ H->g (.int (lo+i)) σ H fun ay H2=>tb { D with nx:=Pv (i+1),ct:=Pv (i+1),bk:=D.nx } ay H2) (hd:∀ σ H,Pv n σ H->D.nx σ H) :
  ∃ W:Nat->Nat->St->Hp->Prop,(∃ m,W 0 m σ H)/\∀ i m σ H,W i m σ H ->
   ((Itr lo n).stop i H/\D.nx σ H)\/((Itr lo n).go i H/\∃ N:St->Hp->Prop,(∀ af H',N af H'->∃ m',m' < m/\W (i+1) m' af H')/\∀ x H',(Itr lo n).yld i H x H'->g x σ H' fun ay H2=>tb { D with nx:=N,ct:=N,bk:=D.nx } ay H2):=by
 refine ⟨fun i m σ H=>m=n - i/\i<=n/\Pv i σ H,⟨n,by simp,Nat.zero_le _,h0⟩,?_⟩;rintro i m σ H ⟨rfl,hi,p⟩;by_cases ax:i < n
 ·refine .inr ⟨ax,Pv (i+1),fun af H' p'=>⟨n - (i+1),by lia,rfl,ax,p'⟩,fun x H' y=>?_⟩;obtain ⟨e,y⟩:=y;subst e y;exact hs i σ _ ax p
 ·have e:i=n:=by lia
  subst e;exact .inl ⟨zA3 _,hd σ H p⟩
abbrev R2:=V->V->Hp->VK->Prop
def OpR (X:Cx)(f:Value->Value->Sem Value)(r:R2):Prop :=
 ∀ (pins:List (Addr×Obj)) (s:Shared) (σ:St) (H:Hp) (x y:V) (v u:Value) (Q:VK),Inv X pins σ H s->RelV x v->RelV y u->r x y H Q ->
  wpAny (model X.prog X.w) X.A (f v u) (EP X pins σ Q) X.xe s
def UnR (X:Cx)(f:Value->Sem Value)(r:V->Hp->VK->Prop):Prop :=
 ∀ (pins:List (Addr×Obj)) (s:Shared) (σ:St) (H:Hp) (x:V) (v:Value) (Q:VK),Inv X pins σ H s->RelV x v->r x H Q ->
  wpAny (model X.prog X.w) X.A (f v) (EP X pins σ Q) X.xe s
def dX (X:Cx)(f:Value)(r:List V->Hp->VK->Prop):Prop :=
 ∀ (pins:List (Addr×Obj)) (s:Shared) (σ:St) (H:Hp) (xs:List V) (us:List Value) (Q:VK),Inv X pins σ H s->Vals xs us->r xs H Q ->
  wpAny (model X.prog X.w) X.A (call f us) (EP X pins σ Q) X.xe s
def tOp (r:R2)(ta tb:TE):TE:=fun σ H Q=>ta σ H fun x H1=>tb σ H1 fun y H2=>r x y H2 Q
def tUn (r:V->Hp->VK->Prop)(ta:TE):TE:=fun σ H Q=>ta σ H fun x H1=>r x H1 Q
inductive RII (C:Int->Int->Prop)(g:Int->Int->V)(x:V)(y:V)(H:Hp)(Q:VK):Prop
 | mk:∀ i j,(x=.int i)->(y=.int j)->(C i j)->(Q (g i j) H)->RII C g x y H Q
def rI (C:Int->Int->Prop)(g:Int->Int->V):R2:=fun x y H Q=>RII C g x y H Q
inductive RI0I (g:Int->Int->V)(x:V)(y:V)(H:Hp)(Q:VK):Prop
 | mk:∀ i j,(x=.int i)->(y=.int j)->(Q (g i j) H)->RI0I g x y H Q
def rI0 (g:Int->Int->V):R2:=fun x y H Q=>RI0I g x y H Q
inductive RUI (g:Int->V)(x:V)(H:Hp)(Q:VK):Prop
 | mk:∀ i,(x=.int i)->(Q (g i) H)->RUI g x H Q
def rU (g:Int->V):V->Hp->VK->Prop:=fun x H Q=>RUI g x H Q
section
variable {X:Cx}{a b c:Expr}{ta tb tc:TE}{pos:Pos}
theorem Dg (ha:PE X a ta)(hb:PE X b tb){pins:List (Addr×Obj)}{s:Shared}{σ:St}{H:Hp}{R:V->V->Hp->Prop}(I:Inv X pins σ H s)
  (h:ta σ H fun x H1=>tb σ H1 fun y H2=>R x y H2) {Q:Value->Shared->Prop} {f:Value->Value->Sem Value}
  (hf:∀ v u s2 x y H2,Inv X pins σ H2 s2->RelV x v->RelV y u->R x y H2->wpAny (model X.prog X.w) X.A (f v u) Q X.xe s2) :
  wpAny (model X.prog X.w) X.A (eval a X.env) (fun v s₁=>wpAny (model X.prog X.w) X.A (eval b X.env) (fun u s₂=>wpAny (model X.prog X.w) X.A (f v u) Q X.xe s₂) X.xe s₁) X.xe s:=by
 refine thn (ha pins s σ H _ I h) fun v s1 ⟨x,H1,I1,r1,q1⟩=>?_;refine thn (hb pins s1 σ H1 _ I1 q1) fun u s2 ⟨y,H2,I2,r2,q2⟩=>?_;exact hf v u s2 x y H2 I2 r1 r2 q2
theorem aV {op:Operator}{r:R2}(ho:OpR X (binaryOp op) r)(ha:PE X a ta)(hb:PE X b tb):PE X (.BinOp a op b pos) (tOp r ta tb):=by
 intro pins s σ H Q I h;exact wpAny_BinOp (Dg ha hb I h fun v u s2 x y H2 I2 rx ry q=>ho pins s2 σ H2 x y v u Q I2 rx ry q)
theorem EY {op:UnaryOp}{r:V->Hp->VK->Prop}(ho:UnR X (unaryOp op) r)(ha:PE X a ta):PE X (.UnaryOp op a pos) (tUn r ta):=by
 intro pins s σ H Q I h;exact UnaryOp_ (thn (ha pins s σ H _ I h) fun v s1 ⟨x,H1,I1,r1,q1⟩=>ho pins s1 σ H1 x v Q I1 r1 q1)
theorem opI {f:Value->Value->Sem Value}{C:Int->Int->Prop}{g:Int->Int->Int}
  (rule:∀ (i j:Int) (t u:Tok) (s:Shared) (Q:Value->Shared->Prop) (E:Value->Shared->Prop),C i j->Q (.int (g i j) s.toks) { s with toks:=s.toks+1 }->wpAny (model X.prog X.w) X.A (f (.int i t) (.int j u)) Q E s) :
  OpR X f (rI C fun i j=>.int (g i j)):=by
 intro pins s σ H x y v u Q I rx ry h;obtain ⟨i,j,rfl,rfl,hc,q⟩:=h;obtain ⟨t,rfl⟩:=rx;obtain ⟨t',rfl⟩:=ry;exact rule i j t t' s _ _ hc ⟨.int (g i j),H,I.tok _,⟨_,rfl⟩,q⟩
theorem Fb {f:Value->Value->Sem Value}{g:Int->Int->Int}
  (rule:∀ (i j:Int) (t u:Tok) (s:Shared) (Q:Value->Shared->Prop) (E:Value->Shared->Prop),Q (.int (g i j) s.toks) { s with toks:=s.toks+1 }->wpAny (model X.prog X.w) X.A (f (.int i t) (.int j u)) Q E s) :
  OpR X f (rI0 fun i j=>.int (g i j)):=by
 intro pins s σ H x y v u Q I rx ry h;obtain ⟨i,j,rfl,rfl,q⟩:=h;obtain ⟨t,rfl⟩:=rx;obtain ⟨t',rfl⟩:=ry;exact rule i j t t' s _ _ ⟨.int (g i j),H,I.tok _,⟨_,rfl⟩,q⟩
theorem zT {f:Value->Value->Sem Value}{g:Int->Int->Bool}
  (rule:∀ (i j:Int) (t u:Tok) (s:Shared) (Q:Value->Shared->Prop) (E:Value->Shared->Prop),Q (.bool (g i j)) s->wpAny (model X.prog X.w) X.A (f (.int i t) (.int j u)) Q E s) :
  OpR X f (rI0 fun i j=>.bl (g i j)):=by
 intro pins s σ H x y v u Q I rx ry h;obtain ⟨i,j,rfl,rfl,q⟩:=h;obtain ⟨t,rfl⟩:=rx;obtain ⟨t',rfl⟩:=ry;exact rule i j t t' s _ _ ⟨.bl (g i j),H,I,rfl,q⟩
def Hk (i j:Int):Prop:=0 < j/\j < 1073741824
def Hl (i j:Int):Prop:=0<=j/\j<=1000000/\i.natAbs < 2 ^ 64
def CMul (i j:Int):Prop:=(-(2 ^ 64) < i/\i < 2 ^ 64)\/(-(2 ^ 64) < j/\j < 2 ^ 64)
theorem CMul.ok {i j:Int}(h:CMul i j):IntMulOk i j:=by
 rcases h with ⟨h1,h2⟩ | ⟨h1,h2⟩
 ·exact .of_left (intBits_le_64 h1 h2)
 ·exact .of_right (intBits_le_64 h1 h2)
theorem bG:OpR X (binaryOp .Add) (rI0 fun i j=>.int (i+j)):=Fb fun _ _ _ _ _ _ _ q=>add_int q
theorem gH:OpR X (binaryOp .Sub) (rI0 fun i j=>.int (i - j)):=Fb fun _ _ _ _ _ _ _ q=>sub_int q
theorem gJ:OpR X (binaryOp .Mult) (rI CMul fun i j=>.int (i * j)):=opI fun _ _ _ _ _ _ _ hc q=>mul_int q hc.ok
theorem pG:OpR X (binaryOp .FloorDiv) (rI Hk fun i j=>.int (i / j)):=opI fun i j _ _ _ _ _ hc q=>by
 have h1:(0:Int) < j:=hc.1;have h2:j < 1073741824:=hc.2;exact floordiv_int (by lia) (by rw [Int.fdiv_eq_ediv_of_nonneg i (by lia)];exact q) (.inl (PyProof.noPylong_small (by lia)))
theorem iC:OpR X (binaryOp .Mod) (rI (fun _ j=>0 < j) fun i j=>.int (i % j)):=opI fun i j _ _ _ _ _ hc q=>by
 have h1:(0:Int) < j:=hc;exact mod_int' (by lia) (by rw [Int.fmod_eq_emod_of_nonneg i (by lia)];exact q)
theorem Dh:OpR X (binaryOp .Pow) (rI Hl fun i j=>.int (i ^ j.toNat)):=opI fun _ _ _ _ _ _ _ hc q=>pow_int_small hc.1 hc.2.1 hc.2.2 q
theorem unI {f:Value->Sem Value}{g:Int->Int}
  (rule:∀ (i:Int) (t:Tok) (s:Shared) (Q:Value->Shared->Prop) (E:Value->Shared->Prop),Q (.int (g i) s.toks) { s with toks:=s.toks+1 }->wpAny (model X.prog X.w) X.A (f (.int i t)) Q E s) :
  UnR X f (rU fun i=>.int (g i)):=by
 intro pins s σ H x v Q I rx h;obtain ⟨i,rfl,q⟩:=h;obtain ⟨t,rfl⟩:=rx;exact rule i t s _ _ ⟨.int (g i),H,I.tok _,⟨_,rfl⟩,q⟩
theorem Di:UnR X (unaryOp .USub) (rU fun i=>.int (-i)):=unI fun _ _ _ _ _ q=>neg_int q
end
def Fd:V->V->Bool
 | .non,.non=>true | .non,.int _=>true | .int _,.non=>true | .non,.bl _=>true | .bl _,.non=>true | .non,.str _=>true | .str _,.non=>true
 | .int _,.int _=>true | .bl _,.bl _=>true | .str _,.str _=>true | .byt _,.byt _=>true
 | .int _,.str _=>true | .str _,.int _=>true | .bl _,.str _=>true | .str _,.bl _=>true
 | _,_=>false
def rEq:R2:=fun x y H Q=>Fd x y=true/\Q (.bl (decide (x=y))) H
def rNe:R2:=fun x y H Q=>Fd x y=true/\Q (.bl (!decide (x=y))) H
theorem ug {i j:Int}:decide (V.int i=V.int j)=(i == j):=by
 rw [Bool.eq_iff_iff];simp
theorem xf {i j:Bool}:decide (V.bl i=V.bl j)=(i == j):=by
 rw [Bool.eq_iff_iff];simp
theorem uh {i j:Str}:decide (V.str i=V.str j)=(i == j):=by
 rw [Bool.eq_iff_iff];simp
theorem ul {i j:Array UInt8}:decide (V.byt i=V.byt j)=(i.toList == j.toList):=by
 rw [Bool.eq_iff_iff];cases i;cases j;simp
section
variable {X:Cx}{a b c:Expr}{ta tb tc:TE}{pos:Pos}
theorem bx {pins:List (Addr×Obj)}{σ:St}{H:Hp}{s:Shared}{Q:VK}{k k':Bool}(I:Inv X pins σ H s)(q:Q (.bl k) H)(e:k=k'):EP X pins σ Q (.bool k') s:=by
 subst e;exact ⟨.bl k,H,I,rfl,q⟩
theorem jW:OpR X (compareOp .Eq) rEq:=by
 intro pins s σ H x y v u Q I rx ry h;obtain ⟨hs,q⟩:=h
 cases x with
 | non =>
  cases rx
  cases y with
  | non=>cases ry;exact PySem.EqNone.eq_none_none (bx I q (by simp))
  | bl j=>cases ry;exact PySem.EqNone.eq_none_bool (bx I q (by simp))
  | int j=>obtain ⟨t',rfl⟩:=ry;exact PySem.EqNone.eq_none_int (bx I q (by simp))
  | str j=>obtain ⟨t',rfl⟩:=ry;exact PySem.EqNone.eq_none_str (bx I q (by simp))
  | _=>exact absurd (show false=true from hs) zAg
 | bl i =>
  cases rx
  cases y with
  | non=>cases ry;exact PySem.EqNone.eq_bool_none (bx I q (by simp))
  | bl j=>cases ry;exact eq_bool (bx I q xf)
  | str j=>obtain ⟨t',rfl⟩:=ry;exact PySem.EqMixed.eq_bool_str (bx I q (by simp))
  | _=>exact absurd (show false=true from hs) zAg
 | int i =>
  obtain ⟨t,rfl⟩:=rx
  cases y with
  | non=>cases ry;exact PySem.EqNone.eq_int_none (bx I q (by simp))
  | int j=>obtain ⟨t',rfl⟩:=ry;exact eq_int (bx I q ug)
  | str j=>obtain ⟨t',rfl⟩:=ry;exact PySem.EqMixed.eq_int_str (bx I q (by simp))
  | _=>exact absurd (show false=true from hs) zAg
 | str i =>
  obtain ⟨t,rfl⟩:=rx
  cases y with
  | non=>cases ry;exact PySem.EqNone.eq_str_none (bx I q (by simp))
  | bl j=>cases ry;exact PySem.EqMixed.eq_str_bool (bx I q (by simp))
  | int j=>obtain ⟨t',rfl⟩:=ry;exact PySem.EqMixed.eq_str_int (bx I q (by simp))
  | str j=>obtain ⟨t',rfl⟩:=ry;exact eq_str (bx I q uh)
  | _=>exact absurd (show false=true from hs) zAg
 | byt i =>
  obtain ⟨t,rfl⟩:=rx
  cases y with
  | byt j=>obtain ⟨t',rfl⟩:=ry;exact PySem.W.eq_bytes (bx I q ul)
  | _=>exact absurd (show false=true from hs) zAg
 | _=>cases y <;> exact absurd (show false=true from hs) zAg
theorem xj:OpR X (compareOp .NotEq) rNe:=by
 intro pins s σ H x y v u Q I rx ry h;obtain ⟨hs,q⟩:=h
 cases x with
 | non =>
  cases rx
  cases y with
  | non=>cases ry;exact PySem.EqNone.ne_none_none (bx I q (by simp))
  | bl j=>cases ry;exact PySem.EqNone.ne_none_bool (bx I q (by simp))
  | int j=>obtain ⟨t',rfl⟩:=ry;exact PySem.EqNone.ne_none_int (bx I q (by simp))
  | str j=>obtain ⟨t',rfl⟩:=ry;exact PySem.EqNone.ne_none_str (bx I q (by simp))
  | _=>exact absurd (show false=true from hs) zAg
 | bl i =>
  cases rx
  cases y with
  | non=>cases ry;exact PySem.EqNone.ne_bool_none (bx I q (by simp))
  | bl j=>cases ry;exact ne_bool (bx I q (congrArg not xf))
  | str j=>obtain ⟨t',rfl⟩:=ry;exact PySem.EqMixed.ne_bool_str (bx I q (by simp))
  | _=>exact absurd (show false=true from hs) zAg
 | int i =>
  obtain ⟨t,rfl⟩:=rx
  cases y with
  | non=>cases ry;exact PySem.EqNone.ne_int_none (bx I q (by simp))
  | int j=>obtain ⟨t',rfl⟩:=ry;exact ne_int (bx I q (congrArg not ug))
  | str j=>obtain ⟨t',rfl⟩:=ry;exact PySem.EqMixed.ne_int_str (bx I q (by simp))
  | _=>exact absurd (show false=true from hs) zAg
 | str i =>
  obtain ⟨t,rfl⟩:=rx
  cases y with
  | non=>cases ry;exact PySem.EqNone.ne_str_none (bx I q (by simp))
  | bl j=>cases ry;exact PySem.EqMixed.ne_str_bool (bx I q (by simp))
  | int j=>obtain ⟨t',rfl⟩:=ry;exact PySem.EqMixed.ne_str_int (bx I q (by simp))
  | str j=>obtain ⟨t',rfl⟩:=ry;exact ne_str (bx I q (congrArg not uh))
  | _=>exact absurd (show false=true from hs) zAg
 | byt i =>
  obtain ⟨t,rfl⟩:=rx
  cases y with
  | byt j=>obtain ⟨t',rfl⟩:=ry;exact PySem.W.ne_bytes (bx I q (congrArg not ul))
  | _=>exact absurd (show false=true from hs) zAg
 | _=>cases y <;> exact absurd (show false=true from hs) zAg
theorem iU:OpR X (compareOp .Lt) (rI0 fun i j=>.bl (decide (i < j))):=zT fun _ _ _ _ _ _ _ q=>lt_int q
theorem cj:OpR X (compareOp .LtE) (rI0 fun i j=>.bl (decide (i<=j))):=zT fun _ _ _ _ _ _ _ q=>le_int q
theorem iV:OpR X (compareOp .Gt) (rI0 fun i j=>.bl (decide (j < i))):=zT fun _ _ _ _ _ _ _ q=>gt_int q
theorem BW:OpR X (compareOp .GtE) (rI0 fun i j=>.bl (decide (j<=i))):=zT fun _ _ _ _ _ _ _ q=>ge_int q
theorem xm:OpR X (compareOp .Is) (fun x y H Q=>y=.non/\Q (.bl (decide (x=.non))) H):=by
 intro pins s σ H x y v u Q I rx ry h;obtain ⟨rfl,q⟩:=h;cases ry;refine is_none_gen (bx I q ?_)
 cases x <;> first
  | (cases rx;rfl)
  | (obtain ⟨t,rfl⟩:=rx;rfl)
theorem bj (b:Expr){op:CmpOp}(h:op≠.In:=by decide)(h2:op≠.NotIn:=by decide):behindInMarks op b=false:=by
 have e1:(op == CmpOp.In)=false:=by cases op <;> first | rfl | exact absurd rfl h
 have e2:(op == CmpOp.NotIn)=false:=by cases op <;> first | rfl | exact absurd rfl h2
 cases b <;> simp [behindInMarks,e1,e2]
theorem iW {op:CmpOp}{r:R2}(ho:OpR X (compareOp op) r)(ha:PE X a ta)(hb:PE X b tb)(hm:behindInMarks op b=false):PE X (.Compare a [op] [b] pos) (tOp r ta tb):=by
 intro pins s σ H Q I h;exact wpAny_Compare1 (Dg ha hb I h fun v u s2 x y H2 I2 rx ry q=>ho pins s2 σ H2 x y v u Q I2 rx ry q) hm
def BX (t:TE):TT:=fun σ H Q=>t σ H fun x H'=>∃ k,x=.bl k/\Q k H'
theorem aZ {op:CmpOp}{r:R2}(ho:OpR X (compareOp op) r)(ha:PE X a ta)(hb:PE X b tb)(hm:behindInMarks op b=false):PT X (.Compare a [op] [b] pos) (BX (tOp r ta tb)):=by
 intro pins s σ H Q I h
 refine wpAny_isTrue_Compare1 (thn (ha pins s σ H _ I h) fun v s1 ⟨x,H1,I1,r1,q1⟩=>thn (hb pins s1 σ H1 _ I1 q1) fun u s2 ⟨y,H2,I2,r2,q2⟩ =>
  thn (ho pins s2 σ H2 x y v u _ I2 r1 r2 q2) fun c s3 ⟨z,H3,I3,r3,k,e,q3⟩=>?_) hm
 subst e;cases r3;exact wpAny_truthy_bool ⟨H3,I3,q3⟩
def sW (r r':R2)(ta tb tc:TE):TE:=fun σ H Q=>ta σ H fun x H1=>tb σ H1 fun y H2=>r x y H2 fun z H3=>∃ k,z=.bl k /\
 (if k=true then tc σ H3 fun w' H4=>r' y w' H4 Q else Q (.bl false) H3)
theorem cP {op oz:CmpOp}{r r':R2}(ho:OpR X (compareOp op) r)(iF:OpR X (compareOp oz) r')(ha:PE X a ta)(hb:PE X b tb)(hc:PE X c tc)
  (hm:lastMarks [op,oz] [b,c]=false:=by with_unfolding_all rfl):PE X (.Compare a [op,oz] [b,c] pos) (sW r r' ta tb tc):=by
 intro pins s σ H Q I h
 refine Compare_chain (thn (ha pins s σ H _ I h) fun v s1 ⟨x,H1,I1,r1,q1⟩=>chain_link (thn (hb pins s1 σ H1 _ I1 q1) fun u s2 ⟨y,H2,I2,r2,q2⟩ =>
  thn (ho pins s2 σ H2 x y v u _ I2 r1 r2 q2) fun d s3 ⟨z,H3,I3,r3,k,e,q3⟩=>?_)) hm
 subst e;cases r3;refine wpAny_truthy_bool ?_
 cases k with
 | false=>exact ite_ff ⟨.bl false,H3,I3,rfl,q3⟩
 | true=>exact ite_tt (chain_last (thn (hc pins s3 σ H3 _ I3 q3) fun w' s4 ⟨z',H4,I4,r4,q4⟩=>iF pins s4 σ H4 y z' u w' Q I4 r2 r4 q4))
theorem jX {op oz:CmpOp}{r r':R2}(ho:OpR X (compareOp op) r)(iF:OpR X (compareOp oz) r')(ha:PE X a ta)(hb:PE X b tb)(hc:PE X c tc)
  (hm:lastMarks [op,oz] [b,c]=false:=by with_unfolding_all rfl):PT X (.Compare a [op,oz] [b,c] pos) (BX (sW r r' ta tb tc)):=by
 intro pins s σ H Q I h
 refine isTrue_chain (thn (ha pins s σ H _ I h) fun v s1 ⟨x,H1,I1,r1,q1⟩=>test_link (thn (hb pins s1 σ H1 _ I1 q1) fun u s2 ⟨y,H2,I2,r2,q2⟩ =>
  thn (ho pins s2 σ H2 x y v u _ I2 r1 r2 q2) fun d s3 ⟨z,H3,I3,r3,k,e,q3⟩=>?_)) hm
 subst e;cases r3;refine wpAny_truthy_bool ?_
 cases k with
 | false =>
  obtain ⟨k',e',q'⟩:=q3;cases e';exact ite_ff ⟨H3,I3,q'⟩
 | true =>
  refine ite_tt (test_last (thn (hc pins s3 σ H3 _ I3 q3) fun w' s4 ⟨z',H4,I4,r4,q4⟩=>thn (iF pins s4 σ H4 y z' u w' _ I4 r2 r4 q4) fun d' s5 ⟨z2,H5,I5,r5,k2,e2,q5⟩=>?_));subst e2;cases r5;exact wpAny_truthy_bool ⟨H5,I5,q5⟩
theorem jY:(sizeLine:Nat) < 2 ^ 63:=by rw [sizeLine_eq];decide
theorem vals1 {x:V}{us:List Value}(r:Vals [x] us):∃ u,us=[u]/\RelV x u:=by
 cases r with
 | cons r1 r2=>cases r2;exact ⟨_,rfl,r1⟩
theorem vals2 {x y:V}{us:List Value}(r:Vals [x,y] us):∃ u w',us=[u,w']/\RelV x u/\RelV y w':=by
 cases r with
 | cons r1 r2 =>
  cases r2 with
  | cons r3 r4=>cases r4;exact ⟨_,_,rfl,r1,r3⟩
theorem il (hc:X.calm=true):dX X (.builtin "max") (fun xs H Q=>∃ i j,xs=[.int i,.int j]/\Q (.int (if j > i then j else i)) H):=by
 intro pins s σ H xs us Q I r h;obtain ⟨i,j,rfl,q⟩:=h;obtain ⟨u,w',rfl,⟨t,rfl⟩,⟨t',rfl⟩⟩:=vals2 r
 refine max_two_ints (I.ok.hd hc) fun h' tk k=>⟨_,H,I.kept k,?_,q⟩
 by_cases hj:j > i
 ·rw [zAw hj,zAw hj];exact ⟨_,rfl⟩
 ·rw [zAv hj,zAv hj];exact ⟨_,rfl⟩
theorem fM (hc:X.calm=true):dX X (.builtin "min") (fun xs H Q=>∃ i j,xs=[.int i,.int j]/\Q (.int (if j < i then j else i)) H):=by
 intro pins s σ H xs us Q I r h;obtain ⟨i,j,rfl,q⟩:=h;obtain ⟨u,w',rfl,⟨t,rfl⟩,⟨t',rfl⟩⟩:=vals2 r
 refine min_two_ints (I.ok.hd hc) fun h' tk k=>⟨_,H,I.kept k,?_,q⟩
 by_cases hj:j < i
 ·rw [zAw hj,zAw hj];exact ⟨_,rfl⟩
 ·rw [zAv hj,zAv hj];exact ⟨_,rfl⟩
theorem vC:dX X (.type "int") (fun xs H Q=>(∃ i,xs=[.int i]/\Q (.int i) H)\/∃ k,xs=[.bl k]/\Q (.int (if k then 1 else 0)) H):=by
 intro pins s σ H xs us Q I r h;rcases h with ⟨i,rfl,q⟩ | ⟨k,rfl,q⟩
 ·obtain ⟨u,rfl,t,rfl⟩:=vals1 r;exact call_int_int ⟨.int i,H,I,⟨_,rfl⟩,q⟩
 ·obtain ⟨u,rfl,r1⟩:=vals1 r;cases r1;exact call_int_bool ⟨.int (if k then 1 else 0),H,I.tok _,⟨_,rfl⟩,q⟩
end
structure ObjM (h:Heap)(x dx C:Addr)(mA:Str->Option Value):Prop where
 obj:h.get? x=some (PySem.W.instObj C dx)
 ns:h.Ns1 dx mA
 ne:dx≠x
theorem vD {h:Heap}{dx:Addr}{mA:Str->Option Value}(n:h.Ns1 dx mA):∃ od,h.get? dx=some od/\∀ name,PySem.W.lookIn name od=some (mA name):=by
 obtain ⟨o,es,ep,ho,hd,hk,_,hm⟩:=n;refine ⟨o,ho,fun name=>?_⟩;have e:=hm name;unfold nsFind findBy at e;rw [<- Array.find?_toList] at e;unfold PySem.W.lookIn;rw [hd];dsimp only;split
 ·rename_i y q
  rw [q] at e;exact congrArg some e
 ·rename_i q
  rw [q] at e
  have a:es.toList.any (·.refKey)=false:=by
   rw [List.any_eq_false];intro y hy;obtain ⟨z,t,B7⟩:=hk y (Array.mem_toList_iff.mp hy);simp [DictEntry.refKey,B7]
  have a':¬ es.toList.any (·.refKey)=true:=by rw [a];exact zAg
  rw [zAv a'];exact congrArg some e
theorem ObjM.look {h:Heap}{x dx C:Addr}{mA:Str->Option Value}(I:ObjM h x dx C mA):∃ od,PySem.W.InstAt h x (PySem.W.instObj C dx) C (some od)/\∀ name,PySem.W.lookIn name od=some (mA name) :=
 let ⟨od,ho,hl⟩:=vD I.ns
 ⟨od,⟨I.obj,rfl,rfl,ho⟩,hl⟩
section
variable {prog:Program}{w:World}{A:Around}{E:Value->Shared->Prop}{s:Shared}{K:PySem.W.Frag}{x dx C f:Addr}{mA:Str->Option Value}{name:Str}{v:Value}
end
theorem RelO.some_of {v:V}{o:Option Value}(r:RelO (some v) o):∃ u,o=some u/\RelV v u:=by
 cases o with
 | none=>exact (show False from r).elim
 | some u=>exact ⟨u,rfl,r⟩
section
variable {P:Program}{w:World}{H H':Hp}{h h':Heap}{a C dx:Addr}{fs JU:List (Str×V)}
theorem zU (hok:HOk P w H h)(e:H a=some (.ins C dx fs)):∃ mA,ObjM h a dx C mA/\(∀ f,RelO (fs.lookup f) (mA f))/\PySem.Within mA (fs.map (·.1))/\fs.length<=1000/\H dx=some (.own a):=by
 obtain ⟨d,z,ne,ob,mA,n,r,q⟩:=(show ObjOk P w H h a (.ins C dx fs) from hok a _ e)
 exact ⟨mA,⟨ob,n,ne⟩,r,q,z,d⟩
end
structure Cls (K:PySem.W.Frag)(C:Addr):Prop where
 pg:PySem.W.plainGet K C Str.empty=true
 hd:PySem.W.hasDictIn K C=true
 po:PySem.W.plainOver K C=true
 sa:PySem.W.findIn K (.ref C) "__setattr__" = some (some (.builtin "object.__setattr__"))
theorem Cls.get {K:PySem.W.Frag}{C:Addr}(c:Cls K C)(f:Str):PySem.W.plainGet K C f=true:=c.pg
section
variable {X:Cx}{pins:List (Addr×Obj)}{σ:St}{H:Hp}{s:Shared}{a C dx:Addr}{fs:List (Str×V)}{f:Str}{v:V}{A:Around}{E:Value->Shared->Prop}
end
section
variable {X:Cx}{o e value:Expr}{f:Str}{pos pos' oo:Pos}{ta tv:TE}
end
section
variable {X:Cx}{pins:List (Addr×Obj)}{σ:St}{H:Hp}{s:Shared}{A:Around}{E:Value->Shared->Prop}{Q:Value->Shared->Prop}{c:Value}{b:Bool}
inductive TyOf (K:PySem.W.Frag)(H:Hp):V->Value->Prop where
 | non:TyOf K H .non (.type "NoneType")
 | bl (x:Bool):TyOf K H (.bl x) (.type "bool")
 | int (i:Int):TyOf K H (.int i) (.type "int")
 | str (x:Str):TyOf K H (.str x) (.type "str")
 | flt (x:UInt64):TyOf K H (.flt x) (.type "float")
 | lst {a:Addr} {xs:List V} (e:H a=some (.lst xs)):TyOf K H (.ref a) (.type "list")
 | frz {a:Addr} {o:Obj} {xs:List V} (e:H a=some (.frz o (.lst xs))):TyOf K H (.ref a) (.type "list")
 | tup {a:Addr} {xs:List V} (e:H a=some (.tup xs)):TyOf K H (.ref a) (.type "tuple")
 | dK {a:Addr} {kvs:List (Key×V)} (e:H a=some (.dK kvs)):TyOf K H (.ref a) (.type "dict")
 | dT {a:Addr} {kvs:List (List Key×V)} (e:H a=some (.dT kvs)):TyOf K H (.ref a) (.type "dict")
 | ins {a C dx:Addr} {fs:List (Str×V)} (e:H a=some (.ins C dx fs)) (cl:Cls K C) (ha:PySem.W.findIn K (.ref C) "__class__" = some (some (.builtin "object.__class__")))
   (hn:PySem.W.specialIn K (.builtin "object.__class__") "__get__" = some (some (.builtin "getset_descriptor.__get__"))) (ml:PySem.W.takesIn K (.builtin "object.__class__")=some true)
   (hm:PySem.W.mroIn K C (.type "object")=some true):TyOf K H (.ref a) (.ref C)
theorem vG {x:V}{u t:Value}(I:Inv X pins σ H s)(rx:RelV x u)(ty:TyOf X.K H x t)(e:PySem.W.kitOne X.K t c=some b)(h:∀ tk,Q (.bool b) { s with toks:=tk }) :
  wpAny (model X.prog X.w) A (call (.builtin "isinstance") [u,c]) Q E s:=by
 cases ty with
 | non=>cases (show u=Value.none from rx);exact PySem.W.kia_one PySem.W.kitx_none I.kIn True.intro e (fun z=>nomatch z) h
 | bl y=>cases (show u=Value.bool y from rx);exact PySem.W.kia_one PySem.W.kitx_bool I.kIn True.intro e (fun z=>nomatch z) h
 | int i=>obtain ⟨t,q⟩:=(show ∃ t,u=Value.int i t from rx);cases q;exact PySem.W.kia_one PySem.W.kitx_int I.kIn True.intro e (fun z=>nomatch z) h
 | str y=>obtain ⟨t,q⟩:=(show ∃ t,u=Value.str y t from rx);cases q;exact PySem.W.kia_one PySem.W.kitx_str I.kIn True.intro e (fun z=>nomatch z) h
 | flt y=>obtain ⟨t,q⟩:=(show ∃ t,u=Value.float y t from rx);cases q;exact PySem.W.kia_one PySem.W.kitx_float I.kIn True.intro e (fun z=>nomatch z) h
 | @lst a xs ea =>
  cases (show u=Value.ref a from rx)
  obtain ⟨_,_,n,_,h1⟩:=(show ObjOk X.prog X.w H s.heap a (.lst xs) from I.hok a _ ea)
  exact PySem.W.kia_one PySem.W.kitx_list I.kIn ⟨_,h1,rfl⟩ e (fun z=>nomatch z) h
 | @frz a ob xs ea =>
  cases (show u=Value.ref a from rx)
  obtain ⟨_,_,_,n,_,h1⟩:=(show ObjOk X.prog X.w H s.heap a (.frz ob (.lst xs)) from I.hok a _ ea)
  exact PySem.W.kia_one PySem.W.kitx_list I.kIn ⟨_,h1,rfl⟩ e (fun z=>nomatch z) h
 | @tup a xs ea =>
  cases (show u=Value.ref a from rx)
  obtain ⟨_,_,_,p⟩:=(show ObjOk X.prog X.w H s.heap a (.tup xs) from I.hok a _ ea)
  obtain ⟨o,h1,h2,_⟩:=p;exact PySem.W.kia_one PySem.W.kitx_tuple I.kIn ⟨o,h1,h2⟩ e (fun z=>nomatch z) h
 | @dK a kvs ea =>
  cases (show u=Value.ref a from rx)
  obtain ⟨_,_,vs,_,p⟩:=(show ObjOk X.prog X.w H s.heap a (.dK kvs) from I.hok a _ ea)
  obtain ⟨o,es,ep,h1,h2,_⟩:=p;exact PySem.W.kia_one PySem.W.kitx_dict I.kIn ⟨o,h1,h2.1⟩ e (fun z=>nomatch z) h
 | @dT a kvs ea =>
  cases (show u=Value.ref a from rx)
  obtain ⟨_,_,xs,_,o,es,ep,h1,h2,_⟩:=(show ObjOk X.prog X.w H s.heap a (.dT kvs) from I.hok a _ ea)
  exact PySem.W.kia_one PySem.W.kitx_dict I.kIn ⟨o,h1,h2.1⟩ e (fun z=>nomatch z) h
 | @ins a C dx fs ea cl ha hn ml hm =>
  cases (show u=Value.ref a from rx);obtain ⟨mA,O,_⟩:=zU I.hok ea;obtain ⟨od,J,_⟩:=O.look;exact PySem.W.kia_one (PySem.W.kitx_own (cl.get _) cl.hd ha hn ml hm) I.kIn J e (fun z=>nomatch z) h
end
structure Room (k:Nat)(A:Around):Prop where
 hd:A.handled=none
 dp:A.depth+3 * k+5 < recursionLimit
 un:A.units+16 * k+200 < cLine
 gd:A.guards=some []
theorem Room.mono {j k:Nat}{A:Around}(r:Room k A)(h:j<=k):Room j A:=⟨r.hd,by have:=r.dp;lia,by have:=r.un;lia,r.gd⟩
theorem Room.deeper {k:Nat}{A:Around}(r:Room (k+1) A)(env:Env):Room k (A.deeper env) :=
 ⟨r.hd,by have:=r.dp;show A.depth+1+3 * k+5 < _;lia,by have:=r.un;show A.units+3+16 * k+200 < _;lia,r.gd⟩
theorem Room.depth {k:Nat}{A:Around}(r:Room k A):A.depth < recursionLimit:=by have:=r.dp;lia
theorem Room.units {k:Nat}{A:Around}(r:Room k A):A.units+64 < cLine:=by have:=r.un;lia
def Dj:TA:=fun _ H Q=>Q [] H
def qM (ta:TE)(tr:TA):TA:=fun σ H Q=>ta σ H fun x H1=>tr σ H1 fun xs H2=>Q (x::xs) H2
section
variable {X:Cx}{e:Expr}{es:List Expr}{te:TE}{t:TA}{pos:Pos}
theorem ao:PA X [] Dj:=fun _ _ _ _ H Q I h=>Calls.spliced_nil ⟨[],H,I,.nil,h⟩
theorem aP (ha:PE X e te)(hr:PA X es t)(hs:starEach (e::es) X.env=(false,eval e X.env)::starEach es X.env:=by rfl):PA X (e::es) (qM te t):=by
 intro pos pins s σ H Q I h;rw [hs];show wpAny _ _ (spliced ((false,eval e X.env)::backTo pos (starEach es X.env))) _ _ s;refine Calls.spliced_cons (thn (ha pins s σ H _ I h) fun u s1 ⟨x,H1,I1,r1,q1⟩=>?_)
 exact thn (hr pos pins s1 σ H1 _ I1 q1) fun us s2 ⟨xs,H2,I2,r2,q2⟩=>⟨x::xs,H2,I2,.cons r1 r2,q2⟩
def Dk (t:TA):TE:=fun σ H Q=>t σ H fun xs H1=>xs.length<=sizeLine/\∀ p,H1 p=none->Q (.ref p) (upd H1 p (.tup xs))
def zV (t:TA):TE:=fun σ H Q=>t σ H fun xs H1=>xs.length<=sizeLine/\∀ p,H1 p=none->Q (.ref p) (upd H1 p (.lst xs))
theorem bA {x1}(h:PA X es t):PE X (.Tuple es x1 pos) (Dk t):=by
 intro pins s σ H Q I hq;refine wpAny_Tuple_spliced (thn (h pos pins s σ H _ I hq) fun us s1 ⟨xs,H1,I1,r,z,q⟩=>⟨by rw [<- r.length];exact z,?_⟩);have hf:H1 s1.heap.objs.size=none:=I1.hok.fresh (zA3 _);refine ⟨.ref s1.heap.objs.size,upd H1 s1.heap.objs.size (.tup xs),I1.laid (t':=s1.toks) (fun b u e=>zAx _ e) (zA3 _) ?_,rfl,q _ hf⟩;exact ⟨z,us,r,⟨_,zB1 _ rfl,rfl,_,rfl⟩⟩
theorem cQ (h:PA X es t):PE X (.List es pos) (zV t):=by
 intro pins s σ H Q I hq;refine wpAny_List_spliced (thn (h pos pins s σ H _ I hq) fun us s1 ⟨xs,H1,I1,r,z,q⟩=>⟨by rw [<- r.length];exact z,?_⟩);have hf:H1 s1.heap.objs.size=none:=I1.hok.fresh (zA3 _);refine ⟨.ref s1.heap.objs.size,upd H1 s1.heap.objs.size (.lst xs),I1.laid (t':=s1.toks) (fun b u e=>zAx _ e) (zA3 _) ?_,rfl,q _ hf⟩;exact ⟨z,us,0,r,zB1 _ rfl⟩
end
abbrev Sp:=List V->Hp->VK->XK->Prop
abbrev CXT:=List Env->Hp->Shared->XK->Value->Shared->Prop
structure Env0 (P:Program)(w:World)(K:PySem.W.Frag)(mg:Str->Option Value)(base:Heap)(A:Around)(outer:List Env)(s:Shared)(H:Hp):Prop where
 frames:A.frames=some outer
 mod:Mod K mg base
 bs:∀ b o,base.get? b=some o->s.heap.get? b=some o/\H b=none
 bsz:base.objs.size<=s.heap.objs.size
 funs:s.heap.FunFrames base outer
 frf:∀ b∈frs outer,H b=none
 hok:HOk P w H s.heap
 bare:AllBare s.gens
def CE (outer:List Env)(P:Program)(w:World)(H:Hp)(s:Shared)(Q:VK)(u:Value)(s':Shared):Prop :=
 ∃ v H',s'.os=s.os/\AllBare s'.gens/\Un (frs outer) [] H H' s.heap s'.heap/\HOk P w H' s'.heap/\RelV v u/\Q v H'
def CR (CX:CXT)(outer:List Env)(P:Program)(w:World)(H:Hp)(s:Shared)(Q:VK)(E:XK)(r:Result)(s':Shared):Prop :=
 match r with
 | .ok (.ret u)=>CE outer P w H s Q u s'
 | .ok _=>False
 | .error e=>CX outer H s E e s'
structure FnOk (P:Program)(w:World)(K:PySem.W.Frag)(mg:Str->Option Value)(base:Heap)(CX:CXT)(k:Nat)(f:Addr)(fd:FuncData)(ps:List Str)(sp:Sp):Prop where
 len:∀ vs H Q E,sp vs H Q E->vs.length=ps.length
 run:∀ (A:Around) (outer:List Env) (s:Shared) (H:Hp) (args:Args) (us:List Value) (vs:List V) (Q:VK) (E:XK),Room k A->Env0 P w K mg base A outer s H->BindsTo s fd args (ps.zip us)->Vals vs us->sp vs H Q E ->
  codeAny (model P w) A (.call (.ref f) args) (CR CX outer P w H s Q E) s
section
variable {X:Cx}{pins:List (Addr×Obj)}{σ:St}{H:Hp}{s s':Shared}
theorem Inv.env0 (I:Inv X pins σ H s):Env0 X.prog X.w X.K X.mg X.base X.A X.stack s H :=
 ⟨I.ok.frames,I.ok.mod,I.bs,Nat.le_trans I.ok.bsz I.sz,I.stack,I.stkFree,I.hok,I.bare⟩
theorem Inv.after {Q:VK}{u:Value}(I:Inv X pins σ H s)(h:CE X.stack X.prog X.w H s Q u s'):EP X pins σ Q u s':=by
 obtain ⟨v,H',os,bare,un,hok,r,q⟩:=h;obtain ⟨hh,g,d,t,JZ⟩:=s';obtain rfl:JZ=s.os:=os;exact ⟨v,H',I.call (h':=hh) (g':=g) (d':=d) (t':=t) (ch:=[]) un hok bare (fun b z=>absurd z (by simp)),r,q⟩
end
def BZ (sp:Sp)(mm:List V)(E:XK)(t:TA):TE:=fun σ H Q=>t σ H fun vs H1=>sp (vs++mm) H1 Q E
def Binds (K:PySem.W.Frag)(fd:FuncData)(ps:List Str)(ds:List Value):Prop :=
 ∀ (s:Shared) (us:List Value),K.In s.heap->(us++ds).length=ps.length->BindsTo s fd ⟨us,[]⟩ (ps.zip (us++ds))
theorem Binds.all {K:PySem.W.Frag}{fd:FuncData}{ps:List Str}(h:∀ us:List Value,us.length=ps.length->bindArgs fd ⟨us,[]⟩=pure (ps.zip us)):Binds K fd ps []:=fun s us _ hl=>by
 rw [zAn] at hl ⊢;exact .of_eq (h us hl)
def sX (CX:CXT)(X:Cx)(E:XK):Prop:=∀ (pins:List (Addr×Obj)) (σ:St) (H:Hp) (s:Shared) (e:Value) (s':Shared),Inv X pins σ H s->CX X.stack H s E e s'->X.xe e s'
section
variable {X:Cx}{CX:CXT}{k:Nat}{f C:Addr}{fd:FuncData}{ps:List Str}{sp:Sp}{mm:List V}{ds:List Value}{E:XK}{x m:Str}{p pos apos:Pos}{e o:Expr}{es:List Expr}{ta:TE}{t:TA}
theorem Dl {pins:List (Addr×Obj)}{σ:St}{H:Hp}{s:Shared}{Q:VK}{us:List Value}{vs:List V}(F:FnOk X.prog X.w X.K X.mg X.base CX k f fd ps sp)(hr:Room k X.A)(hb:Binds X.K fd ps ds)(hd:Vals mm ds)(hx:sX CX X E)
  (I:Inv X pins σ H s) (r:Vals vs us) (h:sp (vs++mm) H Q E):wpAny (model X.prog X.w) X.A (call (.ref f) us) (EP X pins σ Q) X.xe s:=by
 have r2:Vals (vs++mm) (us++ds):=r.append hd;have hl:(us++ds).length=ps.length:=by rw [<- r2.length];exact F.len _ _ _ _ h
 refine wpAny_call (codeAny_mono (F.run X.A X.stack s H ⟨us,[]⟩ (us++ds) (vs++mm) Q E hr I.env0 (hb s us I.kIn hl) r2 h) fun r s' hq=>?_)
 cases r with
 | error e=>exact hx pins σ H s e s' I hq
 | ok fl =>
  cases fl with
  | ret u=>exact I.after hq
  | next=>exact False.elim hq
  | brk=>exact False.elim hq
  | cont=>exact False.elim hq
theorem zW (F:FnOk X.prog X.w X.K X.mg X.base CX k f fd ps sp)(hr:Room k X.A)(hg:Gl X x)(hm:X.mg x=some (.ref f))(hk:PySem.W.keepIn X.K (.ref f)=true)(hb:Binds X.K fd ps ds)(hd:Vals mm ds)(hx:sX CX X E)
  (ha:PA X (e::es) t) (oB:(x == ("__debug__" : Str))=false:=by decide) (he:starEach (e::es) X.env=(false,eval e X.env)::starEach es X.env:=by rfl) (mn:(backTo pos (starEach es X.env)).any (·.1)=false:=by rfl) :
  PE X (.Call (.Name x p) (e::es) [] pos) (BZ sp mm E t):=by
 intro pins s σ H Q I h;refine wpAny_Call_Name_kw (ue I hg hm ?_ oB);refine PySem.W.callWith_K (h₀:=X.base) I.ok.mod.kin hk (thn (ha pos pins s σ H _ I h) fun us s1 ⟨vs,H1,I1,r,q⟩=>⟨I1.kIn,?_⟩) he mn;exact Dl F hr hb hd hx I1 r q
end
section
variable {X:Cx}{CX:CXT}{k:Nat}{f C:Addr}{fd:FuncData}{ps ks:List Str}{sp:Sp}{E:XK}{x m:Str}{p pos apos J0:Pos}{e o:Expr}{es:List Expr}{Pt:List Keyword}{te ta:TE}{t tk:TA}{nm:Option Str}
variable {g:List Value->List Value->List Value}{gV:List V->List V->List V}
end
structure FnScope (N P:List Str)(sc:Scope):Prop where
 kind:sc.kind=.function
 co:sc.isCoroutine=false
 gen:sc.isGenerator=false
 nd:N.Nodup
 pre:N.take P.length=P
 par:∀ x∈P,sc.names.lookup x=some .local\/sc.names.lookup x=some .cell
 nofree:∀ y∈sc.names,y.2≠.free
theorem nF {kindOf:Str->Option NameKind}{x:Str}:∀ {binds:List (Str×Value)} {m:Str->Option Value},(∀ v,(x,v) ∉ binds)->bindL kindOf binds m x=m x
 | [],_,_=>rfl
 | (n,v)::r,m,h=>by
  unfold bindL;rw [nF fun w hw=>h w (List.mem_cons_of_mem _ hw)];split
  ·have:x≠n:=by rintro rfl;exact h v List.mem_cons_self
   simp [this]
  ·rfl
theorem nG {kindOf:Str->Option NameKind}{x:Str}:∀ {binds:List (Str×Value)} {m:Str->Option Value},(∀ v,(x,v) ∉ binds)->bindC kindOf binds m x=m x
 | [],_,_=>rfl
 | (n,v)::r,m,h=>by
  unfold bindC;rw [nG fun w hw=>h w (List.mem_cons_of_mem _ hw)];split
  ·rfl
  ·have:x≠n:=by rintro rfl;exact h v List.mem_cons_self
   simp [this]
theorem nH {kindOf:Str->Option NameKind}{x:Str}{v:Value}:∀ {P:List Str} {vs:List Value} {i:Nat} {m:Str->Option Value},P.Nodup->P[i]?=some x->vs[i]?=some v->kindOf x=some .local ->
  bindL kindOf (P.zip vs) m x=some v
 | [],_,_,_,_,h,_,_=>by simp at h
 | _::_,[],_,_,_,_,h,_=>by simp at h
 | p::P,w::vs,0,m,nd,h1,h2,hk=>by
  simp at h1 h2;subst h1;subst h2;show bindL kindOf ((p,w)::P.zip vs) m p=_;unfold bindL;rw [nF fun v hv=>(List.nodup_cons.mp nd).1 (List.of_mem_zip hv).1,if_pos hk];simp
 | p::P,w::vs,i+1,m,nd,h1,h2,hk=>by
  show bindL kindOf ((p,w)::P.zip vs) m x=_;unfold bindL;exact nH (i:=i) (List.nodup_cons.mp nd).2 (by simpa using h1) (by simpa using h2) hk
theorem nJ {kindOf:Str->Option NameKind}{x:Str}{v:Value}:∀ {P:List Str} {vs:List Value} {i:Nat} {m:Str->Option Value},P.Nodup->P[i]?=some x->vs[i]?=some v->kindOf x≠some .local ->
  bindC kindOf (P.zip vs) m x=some v
 | [],_,_,_,_,h,_,_=>by simp at h
 | _::_,[],_,_,_,_,h,_=>by simp at h
 | p::P,w::vs,0,m,nd,h1,h2,hk=>by
  simp at h1 h2;subst h1;subst h2;show bindC kindOf ((p,w)::P.zip vs) m p=_;unfold bindC;rw [nG fun v hv=>(List.nodup_cons.mp nd).1 (List.of_mem_zip hv).1,if_neg hk];simp
 | p::P,w::vs,i+1,m,nd,h1,h2,hk=>by
  show bindC kindOf ((p,w)::P.zip vs) m x=_;unfold bindC;exact nJ (i:=i) (List.nodup_cons.mp nd).2 (by simpa using h1) (by simpa using h2) hk
def start (N:List Str)(vs:List V):St:=vs.map some++List.replicate (N.length - vs.length) none
def vH (CX:CXT)(P:Program)(w:World)(K:PySem.W.Frag)(mg:Str->Option Value)(base:Heap)(N:List Str)(qual:Str)(scope:Scope)(f:Addr)(cd:Value)(A:Around)(outer:List Env)(s:Shared)(H:Hp)(E:XK):Cx where
 prog:=P
 w:=w
 K:=K
 mg:=mg
 base:=base
 A:=A.deeper (envOfC qual scope s.heap.objs.size f cd)
 N:=N
 s₀:=s
 H₀:=H
 env:=envOfC qual scope s.heap.objs.size f cd
 outer:=outer
 stack:=envOfC qual scope s.heap.objs.size f cd::outer
 ex:=[]
 calm:=true
 fn:=fun _=>true
 pn:=[]
 xe:=fun e s'=>wpAny (model P w) (A.deeper (envOfC qual scope s.heap.objs.size f cd)) (leaving (envOfC qual scope s.heap.objs.size f cd) e) (fun _ sv=>CX outer H s E e sv) (fun e' sv=>CX outer H s E e' sv) s'
theorem qN {sc:Scope}{n:Nat}{x:Str}(h:sc.names.lookup x=some .cell):∃ c,(cellsFrom n sc.names []).lookup x=some c:=by
 have q:=PySem.W.cellsFrom_some sc.names n [] (.inl h);exact Option.isSome_iff_exists.mp q
theorem vI {CX:CXT}{P:Program}{w:World}{K:PySem.W.Frag}{mg:Str->Option Value}{base:Heap}{N ps:List Str}{qual:Str}{scope:Scope}{f:Addr}{cd:Value}{A:Around}{outer:List Env}{s s1:Shared}{H:Hp}{E:XK}{us:List Value}{vs:List V}
  (S:FnScope N ps scope) (hd:A.handled=none) (e0:Env0 P w K mg base A outer s H) (hl:vs.length=ps.length) (r:Vals vs us)
  (x:InCallC s s.heap.objs.size (bindL (envOfC qual scope s.heap.objs.size f cd).kindOf (ps.zip us) fun _=>none) (cellsFrom (s.heap.objs.size+1) scope.names []) (bindC (envOfC qual scope s.heap.objs.size f cd).kindOf (ps.zip us) fun _=>none) s1) :
  Inv (vH CX P w K mg base N qual scope f cd A outer s H E) [] (start N vs) H s1:=by
 have mn:ps.length<=N.length:=by have:=congrArg List.length S.pre;rw [zAd] at this;lia
 obtain ⟨h1,tk,rfl,hk⟩:=x.done;have u7:∀ b:Addr,b ∉ (vH CX P w K mg base N qual scope f cd A outer s H E).ex:=fun b z=>absurd (show b∈([]:List Addr) from z) (by simp)
 refine ⟨⟨e0.mod,S.kind,rfl,rfl,zA3 _,fun y z c h1 h2=>?_,fun y hy=>?_,fun y c _ h=>?_,fun _=>hd,Around.frames_deeper e0.frames,.inr ⟨rfl,rfl⟩,fun b z=>absurd z (u7 b),e0.bs,e0.bsz,fun b _ _=>u7 b,fun b z=>absurd z (u7 b),e0.funs,e0.frf⟩,
  rfl,e0.bare,Un.kept hk,⟨_,x.toInCall.ns,fun i y v h1 h2 h3=>?_⟩,fun y c h=>⟨_,x.cell y c h⟩,e0.hok.fresh (Nat.le_refl _),fun y c h=>?_,fun p hp=>absurd (show p∈([]:List (Addr×Obj)) from hp) (by simp),e0.hok.kept hk,?_⟩
 ·exact name_of_addr x.apart (PySem.mem_of_lookup h1) (PySem.mem_of_lookup h2)
 ·have hy:scope.names.lookup y=some .cell\/scope.names.lookup y=some .free:=hy;rcases hy with hy | hy
  ·exact qN hy
  ·exact absurd rfl (S.nofree _ (PySem.mem_of_lookup hy))
 ·exact Nat.le_of_lt (x.above y c (PySem.mem_of_lookup h))
 ·have hi:i < vs.length:=by
   unfold start at h2;by_cases hi:i < vs.length
   ·exact hi
   ·rw [List.getElem?_append_right (by simpa using hi)] at h2;rw [List.getElem?_replicate] at h2;split at h2 <;> cases h2
  have ha:vs[i]?=some v:=by
   unfold start at h2;rw [List.getElem?_append_left (by simpa using hi),List.getElem?_map] at h2
   cases e:vs[i]? with
   | none=>rw [e] at h2;cases h2
   | some a=>rw [e] at h2;cases h2;rfl
  obtain ⟨u,hu,rv⟩:=r.get ha
  have hp:ps[i]?=some y:=by
   rw [<- S.pre,List.getElem?_take_of_lt (by lia)];exact h1
  have He:ps.Nodup:=by rw [<- S.pre];exact S.nd.sublist (List.take_sublist _ _)
  refine ⟨u,rv,?_⟩;rcases S.par y (zB6 hp) with k | k
  ·exact .inl ⟨k,nH He hp hu k⟩
  ·obtain ⟨c,e⟩:=qN (n:=s.heap.objs.size+1) k;refine .inr ⟨.inl k,c,e,?_⟩;have q:=x.cell y c e;rw [nJ He hp hu (by show scope.names.lookup y≠_;rw [k];decide)] at q;exact q
 ·exact e0.hok.fresh (Nat.le_of_lt (x.above y c (PySem.mem_of_lookup h)))
 ·unfold start;show _=N.length;rw [zA2,zA1,List.length_replicate];lia
theorem Fe {CX:CXT}{P:Program}{w:World}{K:PySem.W.Frag}{mg:Str->Option Value}{base:Heap}{k:Nat}{f:Addr}{name qual:Str}{params:Arguments}{body:List Stmt}{scope:Scope}{dV kV doc pm ai ct oc:Value}{an od:Option Addr}
  {mv:Array (Option Value)} {N ps:List Str} {sp:Sp} (lk:K.lookup f=some ⟨oc,od,.func (PySem.W.fnOf name qual params body scope dV kV doc pm an ai ct),mv⟩) (iL:PySem.W.codeIn K ai qual=true) (S:FnScope N ps scope)
  (len:∀ vs H Q E,sp vs H Q E->vs.length=ps.length)
  (iS:∀ (A:Around) (outer:List Env) (s:Shared) (H:Hp) (vs:List V) (Q:VK) (E:XK),Room k (A.deeper (envOfC qual scope s.heap.objs.size f ai))->sp vs H Q E ->
   ∃ t,PSs (vH CX P w K mg base N qual scope f ai A outer s H E) body t/\t { nx:=fun _ H'=>Q .non H',rt:=Q } (start N vs) H) :
  FnOk P w K mg base CX (k+1) f (PySem.W.fnOf name qual params body scope dV kV doc pm an ai ct) ps sp:=by
 refine ⟨len,fun A outer s H args us vs Q E hr e0 hb r mw=>?_⟩;have hl:=len _ _ _ _ mw;have KX:K.In s.heap:=e0.mod.kin.keeps fun b o e=>(e0.bs b o e).1;have lim:s.heap.NoLimit:=e0.mod.nolimit.keeps fun b o e=>(e0.bs b o e).1
 have va:∀ y∈ps.zip us,scope.names.lookup y.1=some .local\/(scope.names.lookup y.1=some .cell/\((cellsFrom (s.heap.objs.size+1) scope.names []).lookup y.1).isSome=true):=fun ⟨n,v⟩ hy=>by
  rcases S.par n (List.of_mem_zip hy).1 with q | q
  ·exact .inl q
  ·exact .inr ⟨q,PySem.W.cellsFrom_some _ _ _ (.inl q)⟩
 refine codeAny_call_function hr.depth (KX _ _ lk) rfl S.co S.gen rfl (PySem.W.codeRec_of KX iL) (hb _ _ _ _ ?_);refine wpAny_newFunctionEnv_cells S.kind va fun env he s1 x=>?_;subst he;refine ⟨lim.keeps x.toInCall.keep,codeAny_func ?_⟩;obtain ⟨t,ht,hq⟩:=iS A outer s H vs Q E (hr.deeper _) mw;have I:Inv (vH CX P w K mg base N qual scope f ai A outer s H E) [] (start N vs) H s1:=vI S hr.hd e0 hl r x;refine wpAny_mono (ht [] s1 (start N vs) H _ I hq) (fun fl s' hs=>?_) fun e s' hs=>hs
 have fin:∀ {af:St} {H':Hp} {v:V} {u:Value},Inv (vH CX P w K mg base N qual scope f ai A outer s H E) [] af H' s'->RelV v u->Q v H'->CE outer P w H s Q u s' :=
  fun {af H' v u} J rv q=>⟨v,H',J.os,J.bare,J.base,J.hok,rv,q⟩
 cases fl with
 | ret u =>
  obtain ⟨v,af,H',J,rv,q⟩:=hs;exact fin J rv q
 | next =>
  obtain ⟨af,H',J,q⟩:=hs;exact fin (v:=V.non) (u:=Value.none) J rfl q
 | brk =>
  obtain ⟨_,_,_,q⟩:=hs;exact False.elim q
 | cont =>
  obtain ⟨_,_,_,q⟩:=hs;exact False.elim q
section
variable {X:Cx}{x:Str}{p pos:Pos}{e:Expr}{es:List Expr}{t:TA}{id T:String}{r:List V->Hp->VK->Prop}
def tCB (r:List V->Hp->VK->Prop)(t:TA):TE:=fun σ H Q=>t σ H fun vs H1=>r vs H1 Q
theorem aO (hc:dX X (.builtin id) r)(hg:Gl X x)(hm:X.mg x=none)(hv:bootBuiltins x=some (.builtin id))(ha:PA X (e::es) t)(hn:x≠"__name__" := by decide)(oB:(x == ("__debug__" : Str))=false:=by decide)
  (he:starEach (e::es) X.env=(false,eval e X.env)::starEach es X.env:=by rfl) (mn:(backTo pos (starEach es X.env)).any (·.1)=false:=by rfl):PE X (.Call (.Name x p) (e::es) [] pos) (tCB r t):=by
 intro pins s σ H Q I h;refine wpAny_Call_Name_kw (fG I hg hm hv ?_ hn oB);exact PyProof.Rows.callWith_builtin1 (thn (ha pos pins s σ H _ I h) fun us s1 ⟨vs,H1,I1,r1,q1⟩=>hc pins s1 σ H1 vs us Q I1 r1 q1) he mn
theorem cZ (hc:dX X (.type T) r)(hg:Gl X x)(hm:X.mg x=none)(hv:bootBuiltins x=some (.type T))(ha:PA X (e::es) t)(hn:x≠"__name__" := by decide)(oB:(x == ("__debug__" : Str))=false:=by decide)
  (he:starEach (e::es) X.env=(false,eval e X.env)::starEach es X.env:=by rfl) (mn:(backTo pos (starEach es X.env)).any (·.1)=false:=by rfl):PE X (.Call (.Name x p) (e::es) [] pos) (tCB r t):=by
 intro pins s σ H Q I h;refine wpAny_Call_Name_kw (fG I hg hm hv ?_ hn oB);exact PyProof.Rows.callWith_type1 (thn (ha pos pins s σ H _ I h) fun us s1 ⟨vs,H1,I1,r1,q1⟩=>hc pins s1 σ H1 vs us Q I1 r1 q1) he mn
end
end L2
namespace HT
open PySem PyProof.Rows
def lexLt:List Int->List Int->Bool
 | [],[]=>false
 | [],_::_=>true
 | _::_,[]=>false
 | x::xs,y::ys=>if x=y then lexLt xs ys else decide (x < y)
theorem lexLt_cons (x y:Int)(xs ys:List Int):lexLt (x::xs) (y::ys)=if x=y then lexLt xs ys else decide (x < y):=rfl
section
open PySem.SeqAt
open PySem.AutoSeq1 (wpAny_loadPart')
open PySem.MeetsSeq PySem.MeetsSeq2 PySem.MeetsSeq3
end
section
variable {prog:Program}{w:World}{A:Around}{E:Value->Shared->Prop}{s:Shared}
theorem cat_tup {t b:Addr}{vs ws:List Value}{Q:Value->Shared->Prop}(ht:IsTup s.heap t vs.toArray)(hb:IsTup s.heap b ws.toArray)(hv:vs≠[])
  (h1:ws=[]->Q (.ref t) s) (h2:ws≠[]->Q (.ref s.heap.objs.size) { s with heap:=s.heap.push { cls:=.type "tuple",data:=.seq (vs++ws).toArray } })
  (hsz:vs.length+ws.length<=sizeLine):wpAny (model prog w) A (binaryOp .Add (.ref t) (.ref b)) Q E s:=by
 obtain ⟨⟨cls,dd,data,sl⟩,ho,hc,n,hd⟩:=id ht;obtain ⟨⟨B8,sx,data2,oC⟩,oD,vb,n2,hd2⟩:=id hb;simp only at hc hd vb hd2;subst hc hd vb hd2;have e:vs.toArray++ws.toArray=(vs++ws).toArray:=by simp
 by_cases hw:ws=[]
 ·exact concat_meets ⟨_,ho,rfl⟩ ⟨_,oD,rfl⟩ noFill_tuple_add seq_tuple_add PySem.F.slot_tuple_add PySem.F.entry_tuple_add (PySem.F.args_tuple_add_2 _ _)
   (tuple_addW1 t b vs.toArray ws.toArray n n2 dd sx sl oC (by simpa using hv) (by simp [hw])) ⟨ho,oD,h1 hw⟩
 ·refine concat_meets ⟨_,ho,rfl⟩ ⟨_,oD,rfl⟩ noFill_tuple_add seq_tuple_add PySem.F.slot_tuple_add PySem.F.entry_tuple_add (PySem.F.args_tuple_add_2 _ _)
   (tuple_addW2 t b vs.toArray ws.toArray n n2 dd sx sl oC (by simpa using hv) (by simpa using hw) (by rw [List.size_toArray,List.size_toArray];exact hsz)) ⟨ho,oD,?_⟩
  rw [e];exact h2 hw
def sIx (n d:Nat):Option Int->Nat
 | none=>d
 | some v=>if v < 0 then (v+(n:Int)).toNat else min v.toNat n
theorem sIx_none (n d:Nat):sIx n d none=d:=rfl
theorem sIx_nat (n d k:Nat):sIx n d (some (k:Int))=min k n:=by
 show (if (k:Int) < 0 then ((k:Int)+(n:Int)).toNat else min (k:Int).toNat n)=min k n;rw [zAv (by lia),zAi]
theorem Dm (n d:Nat)(hd:d<=n)(o:Option Int):sIx n d o<=n:=by
 cases o with
 | none=>exact hd
 | some v =>
  show (if v < 0 then (v+(n:Int)).toNat else min v.toNat n)<=n;by_cases hv:v < 0
  ·rw [zAw hv];lia
  ·rw [zAv hv];exact Nat.min_le_right _ _
theorem um (v:Int)(n d:Nat):(if v < 0 then max (v+(n:Int)) 0 else min v (n:Int))=((sIx n d (some v):Nat):Int):=by
 show (if v < 0 then max (v+(n:Int)) 0 else min v (n:Int))=(((if v < 0 then (v+(n:Int)).toNat else min v.toNat n):Nat):Int);by_cases hv:v < 0
 ·simp only [if_pos hv];lia
 ·simp only [if_neg hv];lia
theorem sY (lo hi:Option Int)(n:Nat):Builtin.Slice.sliceAdjust lo hi 1 (n:Int)=(((sIx n 0 lo:Nat):Int),((sIx n n hi:Nat):Int)):=by
 have h1:¬ ((1:Int) < 0):=by lia
 unfold Builtin.Slice.sliceAdjust;simp only [h1,if_false];refine Prod.ext ?_ ?_
 ·cases lo with
  | none=>rfl
  | some v=>exact um v n 0
 ·cases hi with
  | none=>rfl
  | some v=>exact um v n n
theorem sZ (i j:Nat):Builtin.Slice.slicePlaces (i:Int) (j:Int) 1=j - i:=by
 unfold Builtin.Slice.slicePlaces;have h1:(1:Int) > 0:=by lia
 simp only [h1,if_true,Int.ediv_one];split <;> lia
theorem jZ {v:Value}{o:Option Int}{Q:Option Int->Shared->Prop}(p:IsPart v o)(h:Q o s):wpAny (model prog w) A (Builtin.Slice.slicePartIndex v) Q E s:=by
 cases p with
 | none=>exact slicePart_none h
 | int i t=>exact slicePart_int h
theorem fO {sl:Addr}{vl vu:Value}{lo hi:Option Int}{n:Nat}{Q:Int×Int×Nat->Shared->Prop}(hs:s.heap.IsSliceOf sl vl vu .none)(pl:IsPart vl lo)(pu:IsPart vu hi)
  (h:Q (((sIx n 0 lo:Nat):Int),1,sIx n n hi - sIx n 0 lo) s):wpAny (model prog w) A (Builtin.Slice.sliceApplied (.ref sl) (pure (n:Int))) Q E s:=by
 obtain ⟨os,oI,hX,vc⟩:=id hs;unfold Builtin.Slice.sliceApplied Builtin.Slice.sliceFields;refine zAu (zAu (wpAny_field oI vc (x:=vl) rfl (zAu (wpAny_field oI vc (x:=vu) rfl (zAu (wpAny_field oI vc (x:=.none) rfl (zAz ?_)))))));refine zAu (slicePart_none ?_);show wpAny _ _ (if ((1:Int) == 0)=true then _ else _) _ _ s;rw [zAv (by decide)];refine zAu (jZ pl (zAu (jZ pu (zAu (zAz ?_)))));show wpAny _ _ (match Builtin.Slice.sliceAdjust lo hi 1 (n:Int) with | (lo,hi)=>pure (lo,(1:Int),Builtin.Slice.slicePlaces lo hi 1)) _ _ s;rw [sY lo hi n];show wpAny _ _ (pure (((sIx n 0 lo:Nat):Int),(1:Int),Builtin.Slice.slicePlaces ((sIx n 0 lo:Nat):Int) ((sIx n n hi:Nat):Int) 1)) _ _ s;rw [sZ];exact zAz h
theorem xn (xs:Array Value)(i k:Nat):((List.range k).filterMap fun (m:Nat)=>xs[((i:Int)+(m:Int) * 1).toNat]?).toArray=((xs.toList.drop i).take k).toArray:=by
 have e:(fun (m:Nat)=>xs[((i:Int)+(m:Int) * 1).toNat]?)=fun m=>xs[i+m]?:=by
  funext m;have:((i:Int)+(m:Int) * 1).toNat=i+m:=by lia
  rw [this]
 rw [e];have:=pick_run xs i k;rw [List.filterMap_map] at this;have e2:((fun x=>xs[x]?) ∘ fun x=>i+x)=fun m=>xs[i+m]?:=rfl;rw [e2] at this;rw [this]
theorem getItem_tuple_cut {t sl:Addr}{items:Array Value}{vl vu:Value}{lo hi:Option Int}{Q:Value->Shared->Prop}(ht:IsTup s.heap t items)(hs:s.heap.IsSliceOf sl vl vu .none)(pl:IsPart vl lo)(pu:IsPart vu hi)
  (hw:¬ (sIx items.size 0 lo=0/\sIx items.size items.size hi=items.size))
  (h:Q (.ref s.heap.objs.size) { s with heap:=s.heap.push { cls:=.type "tuple",data:=.seq ((items.toList.drop (sIx items.size 0 lo)).take (sIx items.size items.size hi - sIx items.size 0 lo)).toArray } })
  (hsz:items.size<=sizeLine):wpAny (model prog w) A (getItem (.ref t) (.ref sl)) Q E s:=by
 have gz:sizeOk (.seq ((items.toList.drop (sIx items.size 0 lo)).take (sIx items.size items.size hi - sIx items.size 0 lo)).toArray):=by
  show ((items.toList.drop (sIx items.size 0 lo)).take (sIx items.size items.size hi - sIx items.size 0 lo)).toArray.size<=sizeLine;rw [zA8,zAd,List.length_drop,zA9];lia
 have hj:sIx items.size items.size hi<=items.size:=Dm _ _ (zA3 _) hi;obtain ⟨os,oI,hX,vc⟩:=id hs
 have Cb:s.TypeIs (.ref sl) "slice" := ⟨os,oI,hX⟩
 unfold getItem
 try with_reducible refine wpAny_holding ?_
 first | refine zAu (zAz ?_) | skip
 refine zAu (wpAny_sequenceKey ht.typeIs (by decide) ?_)
 refine zAu (wpAny_callSpecial?_slot (name:=Str.ofString "__getitem__") ht.typeIs PyProof.Rows.slot_tuple_getitem
  (wpAny_call_entry PyProof.Rows.slot_tuple_getitem ht.typeIs entry_tuple_getitem ?_ (args_tuple_getitem _ _)))
 show wpAny _ _ (Builtin.Tuple.tupleItemsOf (.ref t) >>= _) _ _ s;refine zAu (tupleItemsOf_ ht ?_);refine zAu (wpAny_typeOf Cb ?_);rw [zAw (by decide)];refine zAu (fO hs pl pu ?_)
 have J1:¬ ((((sIx items.size 0 lo:Nat):Int) == 0 && (1:Int) == 1 && (sIx items.size items.size hi - sIx items.size 0 lo) == items.size)=true):=by
  intro q;rw [zAc,zAc] at q;have q1:((sIx items.size 0 lo:Nat):Int)=0:=eq_of_beq q.1.1;have q2:sIx items.size items.size hi - sIx items.size 0 lo=items.size:=eq_of_beq q.2;exact hw ⟨by lia,by lia⟩
 show wpAny _ _ (if (((sIx items.size 0 lo:Nat):Int) == 0 && (1:Int) == 1 && (sIx items.size items.size hi - sIx items.size 0 lo) == items.size)=true then _ else _) _ _ s;rw [zAv J1,xn]
 first
  | exact zAu (m:=Builtin.Tuple.tupleExact _) (wpAny_newObj_type (zAz ⟨_,rfl,zAz h⟩) gz)
  | exact zAu (m:=Builtin.Tuple.tupleExact _) (wpAny_newObj_type (zAu (zAz (zAz ⟨_,rfl,zAz h⟩))) gz)
  | exact zAu (zAu (m:=Builtin.Tuple.tupleExact _) (wpAny_newObj_type (zAz (zAz ⟨_,rfl,zAz h⟩)) gz))
  | exact zAu (zAu (m:=Builtin.Tuple.tupleExact _) (wpAny_newObj_type (zAz ⟨_,rfl,zAz h⟩) gz))
end
end HT
namespace L2
open PySem PySem.Spec PyProof.Rows
abbrev TO:=St->Hp->(Option Int->Hp->Prop)->Prop
def PO (X:Cx)(e:Option Expr)(t:TO):Prop :=
 ∀ (pins:List (Addr×Obj)) (s:Shared) (σ:St) (H:Hp) (Q:Option Int->Hp->Prop),Inv X pins σ H s->t σ H Q ->
  wpAny (model X.prog X.w) X.A (evalPart e X.env) (fun u s'=>∃ o H',Inv X pins σ H' s'/\IsPart u o/\Q o H') X.xe s
def zZ:TO:=fun _ H Q=>Q none H
def Ff (t:TE):TO:=fun σ H Q=>t σ H fun x H1=>∃ i,x=.int i/\Q (some i) H1
theorem intsAre_of {ns:List Int}:∀ {us:List Value},Vals (ns.map V.int) us->IntsAre us ns:=by
 induction ns with
 | nil=>intro us r;rw [List.map_nil] at r;cases r;exact .nil
 | cons n ns ih =>
  intro us r;rw [zAk] at r
  cases r with
  | cons r1 r2 =>
   obtain ⟨t,e⟩:=r1;subst e;exact .cons n t (ih r2)
section
variable {X:Cx}{e:Expr}{te:TE}{lo hi:Option Expr}{tl th:TO}{pos p2:Pos}
theorem uo:PO X none zZ:=by
 intro pins s σ H Q I h;rw [evalPart_none];exact zAz ⟨none,H,I,.none,h⟩
theorem uq (h:PE X e te):PO X (some e) (Ff te):=by
 intro pins s σ H Q I hw;rw [evalPart_some];refine thn (h pins s σ H _ I hw) fun u s1 ⟨x,H1,I1,r1,q1⟩=>?_;obtain ⟨i,rfl,q⟩:=q1;obtain ⟨t,rfl⟩:=r1;exact ⟨some i,H1,I1,.int i t,q⟩
def SlR (X:Cx)(r:V->Option Int->Option Int->Hp->VK->Prop):Prop :=
 ∀ (pins:List (Addr×Obj)) (s:Shared) (σ:St) (H:Hp) (x:V) (v vl vu:Value) (lo hi:Option Int) (sl:Addr) (Q:VK),Inv X pins σ H s->RelV x v->s.heap.IsSliceOf sl vl vu .none->IsPart vl lo->IsPart vu hi->r x lo hi H Q ->
  ∃ T id,typeLookup (.type T) "__getitem__" = pure (some (.builtin id))/\s.TypeIs v T/\wpAny (model X.prog X.w) X.A (getItem v (.ref sl)) (EP X pins σ Q) X.xe s
def tSl (r:V->Option Int->Option Int->Hp->VK->Prop)(te:TE)(tl th:TO):TE:=fun σ H Q=>te σ H fun x H1=>tl σ H1 fun l H2=>th σ H2 fun u H3=>r x l u H3 Q
theorem qO {r:V->Option Int->Option Int->Hp->VK->Prop}(hr:SlR X r)(he:PE X e te)(hl:PO X lo tl)(hu:PO X hi th):PE X (.Subscript e (.Slice lo hi none p2) pos) (tSl r te tl th):=by
 intro pins s σ H Q I h;refine Subscript_ (thn (he pins s σ H _ I h) fun v s1 ⟨x,H1,I1,r1,q1⟩=>?_);refine wpAny_Slice (thn (hl pins s1 σ H1 _ I1 q1) fun vl s2 ⟨l,H2,I2,pl,q2⟩=>thn (hu pins s2 σ H2 _ I2 q2) fun vu s3 ⟨u,H3,I3,pu,q3⟩=>?_);rw [evalPart_none];refine zAz ?_;have I4:Inv X pins σ H3 { s3 with heap:=s3.heap.push { cls:=.type "slice",data:=.fields #[vl,vu,.none] } }:=I3.kept (t':=s3.toks) fun b ob q=>zAx _ q;obtain ⟨T,id,hT,ht,hg⟩:=hr pins { s3 with heap:=s3.heap.push { cls:=.type "slice",data:=.fields #[vl,vu,.none] } } σ H3 x v vl vu l u s3.heap.objs.size Q I4 r1 (Heap.IsSliceOf.new ..) pl pu q3;show wpAny (model X.prog X.w) X.A (subscriptTail e (.Slice lo hi none p2) v (.ref s3.heap.objs.size)) (EP X pins σ Q) X.xe { s3 with heap:=s3.heap.push { cls:=.type "slice",data:=.fields #[vl,vu,.none] } };exact tail_any (ops:=[.ref s3.heap.objs.size,v]) ht hT hg (by with_unfolding_all rfl)
def mH (xs:List V)(lo hi:Option Int):List V:=(xs.drop (HT.sIx xs.length 0 lo)).take (HT.sIx xs.length xs.length hi - HT.sIx xs.length 0 lo)
theorem jH (xs:List V)(lo hi:Option Int):(mH xs lo hi).length<=xs.length:=by
 unfold mH;rw [zAd,List.length_drop];lia
inductive RSlTI (K:PySem.W.Frag)(x:V)(lo:Option Int)(hi:Option Int)(H:Hp)(Q:VK):Prop
 | mk:∀ a xs,(x=.ref a)->(SqT K H a xs)->(¬ (HT.sIx xs.length 0 lo=0/\HT.sIx xs.length xs.length hi=xs.length))->(∀ p,H p=none->Q (.ref p) (upd H p (.tup (mH xs lo hi))))->RSlTI K x lo hi H Q
def Hm (K:PySem.W.Frag):V->Option Int->Option Int->Hp->VK->Prop:=fun x lo hi H Q=>RSlTI K x lo hi H Q
theorem Dn:SlR X (Hm X.K):=by
 intro pins s σ H x v vl vu lo hi sl Q I rx hs pl pu h;obtain ⟨a,xs,rfl,hx,hw,q⟩:=h;cases rx;obtain ⟨its,r,ht,hz⟩:=I.tuple hx;have hlen:its.toArray.size=xs.length:=by rw [zA8];exact r.length.symm
 refine ⟨"tuple",_,PyProof.Rows.slot_tuple_getitem.lookup,ht.typeIs,?_⟩;refine HT.getItem_tuple_cut ht hs pl pu (by rw [hlen];exact hw) ?_ (by rw [hlen];exact hz);rw [hlen];refine ⟨.ref s.heap.objs.size,_,I.laid (t':=s.toks) (o:=.tup (mH xs lo hi)) (fun b ob q=>zAx _ q) (zA3 _) ?_,rfl,q _ (I.hok.fresh (zA3 _))⟩;exact ⟨Nat.le_trans (jH xs lo hi) hz,_,(r.drop (HT.sIx xs.length 0 lo)).take (HT.sIx xs.length xs.length hi - HT.sIx xs.length 0 lo),IsTup.new _ _⟩
inductive RCatTI (K:PySem.W.Frag)(x:V)(y:V)(H:Hp)(Q:VK):Prop
 | mk:∀ a b xs ys,(x=.ref a)->(y=.ref b)->(SqT K H a xs)->(SqT K H b ys)->(xs≠[])->(xs.length+ys.length<=sizeLine)->((ys=[]->Q (.ref a) H))->((ys≠[]->∀ p,H p=none->Q (.ref p) (upd H p (.tup (xs++ys)))))->RCatTI K x y H Q
def Fg (K:PySem.W.Frag):R2:=fun x y H Q=>RCatTI K x y H Q
theorem Vals.nil_iff {xs:List V}{us:List Value}(r:Vals xs us):us=[]↔xs=[]:=by
 cases r with
 | nil=>simp
 | cons _ _=>simp
theorem Aa:OpR X (binaryOp .Add) (Fg X.K):=by
 intro pins s σ H x y v u Q I rx ry h;obtain ⟨a,b,xs,ys,rfl,rfl,ha,hb,hx,hz,q1,q2⟩:=h;cases rx;cases ry;obtain ⟨its,r1,p1,_⟩:=I.tuple ha;obtain ⟨ba,r2,p2,_⟩:=I.tuple hb;refine HT.cat_tup p1 p2 (fun z=>hx (r1.nil_iff.mp z)) (fun z=>⟨.ref a,H,I,rfl,q1 (r2.nil_iff.mp z)⟩) (fun z=>?_) (by rw [<- r1.length,<- r2.length];exact hz);refine ⟨.ref s.heap.objs.size,_,I.laid (t':=s.toks) (o:=.tup (xs++ys)) (fun b ob q=>zAx _ q) (zA3 _) ?_,rfl,q2 (fun w=>z (r2.nil_iff.mpr w)) _ (I.hok.fresh (zA3 _))⟩;exact ⟨by rw [zA2];exact hz,_,r1.append r2,IsTup.new _ _⟩
end
def ixN (n:Nat)(i:Int):Option Nat:=if 0<=i then (if i < n then some i.toNat else none) else if -(n:Int)<=i then some (i+n).toNat else none
def atI {α:Type}(xs:List α)(i:Int):Option α:=(ixN xs.length i).bind fun j=>xs[j]?
theorem ur {n:Nat}{i:Int}{j:Nat}(h:ixN n i=some j):seqIndex? i n=some j/\j < n/\-(n:Int)<=i/\i < n:=by
 unfold ixN at h;by_cases h0:0<=i
 ·rw [zAw h0] at h;by_cases h1:i < n
  ·rw [zAw h1] at h;have e:i.toNat=j:=zAl h;exact ⟨by rw [seqIndex_of h0 h1,e],by lia,by lia,h1⟩
  ·rw [zAv h1] at h;cases h
 ·rw [zAv h0] at h;by_cases h1:-(n:Int)<=i
  ·rw [zAw h1] at h;have e:(i+n).toNat=j:=zAl h;exact ⟨by rw [seqIndex_neg (by lia) h1,e],by lia,h1,by lia⟩
  ·rw [zAv h1] at h;cases h
theorem ut {α:Type}{xs:List α}{i:Int}{v:α}(h:atI xs i=some v):∃ j,seqIndex? i xs.length=some j/\xs[j]?=some v/\j < xs.length/\-(xs.length:Int)<=i/\i < xs.length:=by
 unfold atI at h
 cases e:ixN xs.length i with
 | none=>rw [e] at h;cases h
 | some j =>
  rw [e] at h;obtain ⟨h1,h2,h3,h4⟩:=ur e;exact ⟨j,h1,h,h2,h3,h4⟩
theorem cu {α:Type}{xs:List α}{j:Nat}{v:α}(h:xs[j]?=some v):atI xs (j:Int)=some v:=by
 have hj:j < xs.length:=(zAa.mp h).1
 have e:ixN xs.length (j:Int)=some j:=by
  unfold ixN;rw [if_pos (by lia),if_pos (by lia)];simp
 unfold atI;rw [e];exact h
def pH (b:Expr):Prop:=∀ o i,subscripted b false o i=operate [o,i] (getItem o i)
def IxR (X:Cx)(r:R2):Prop :=
 ∀ (value slice:Expr) (pins:List (Addr×Obj)) (s:Shared) (σ:St) (H:Hp) (x y:V) (v u:Value) (Q:VK),Inv X pins σ H s->RelV x v->RelV y u->r x y H Q ->
  subscripted slice false v u=operate [v,u] (getItem v u)->wpAny (model X.prog X.w) X.A (subscriptTail value slice v u) (EP X pins σ Q) X.xe s
def MtR (X:Cx)(id:String)(r:V->List V->Hp->VK->Prop):Prop :=
 ∀ (pins:List (Addr×Obj)) (s:Shared) (σ:St) (H:Hp) (x:V) (xs:List V) (v:Value) (us:List Value) (Q:VK),Inv X pins σ H s->RelV x v->Vals xs us->r x xs H Q ->
  wpAny (model X.prog X.w) X.A (call (.builtin id) (v::us)) (EP X pins σ Q) X.xe s
section
variable {X:Cx}{a b:Expr}{ta tb:TE}{pos:Pos}
theorem Ca {r:R2}(hr:IxR X r)(ha:PE X a ta)(hb:PE X b tb)(hs:pH b):PE X (.Subscript a b pos) (tOp r ta tb):=by
 intro pins s σ H Q I h;exact Subscript_ (Dg ha hb I h fun v u s2 x y H2 I2 rx ry q=>hr a b pins s2 σ H2 x y v u Q I2 rx ry q (hs _ _))
inductive RIxLI (K:PySem.W.Frag)(x:V)(y:V)(H:Hp)(Q:VK):Prop
 | mk:∀ p xs i v,(x=.ref p)->(y=.int i)->(SqL K H p xs)->(atI xs i=some v)->(Q v H)->RIxLI K x y H Q
def Fi (K:PySem.W.Frag):R2:=fun x y H Q=>RIxLI K x y H Q
inductive RIxTI (K:PySem.W.Frag)(x:V)(y:V)(H:Hp)(Q:VK):Prop
 | mk:∀ p xs i v,(x=.ref p)->(y=.int i)->(SqT K H p xs)->(atI xs i=some v)->(Q v H)->RIxTI K x y H Q
def Fj (K:PySem.W.Frag):R2:=fun x y H Q=>RIxTI K x y H Q
theorem bB:IxR X (Fi X.K):=by
 intro value slice pins s σ H x y v u Q I rx ry h hs;obtain ⟨p,xs,i,z,rfl,rfl,hq,he,q⟩:=h;cases rx;obtain ⟨t,rfl⟩:=ry;obtain ⟨its,r,pl,hz⟩:=I.list hq;obtain ⟨j,h1,h2,h3,h4,h5⟩:=ut he;obtain ⟨w,ew,eI⟩:=r.get h2;have hl:=r.length;have hn:=jY
 have fin:EP X pins σ Q w s:=⟨z,H,I,eI,q⟩
 by_cases h0:0<=i
 ·have hj:i.toNat=j:=by
   rw [seqIndex_of h0 h5] at h1;exact zAl h1
  exact item_listR pl.isList h0 (by lia) (by rw [hj];simpa using ew) fin hs
 ·have hj:(i+(its.toArray.size:Int)).toNat=j:=by
   rw [seqIndex_neg (by lia) h4] at h1;rw [zA8,<- hl];exact zAl h1
  exact subscriptTail_builtinR (x:=w) pl.isList.typeIs slot_list_getitem.lookup
   (wpAny_getItem_list_neg (Q:=fun r s'=>r=w/\EP X pins σ Q r s') pl.isList (by lia) (by rw [List.size_toArray] <;> lia) (by lia) (by rw [hj];simpa using ew) ⟨rfl,fin⟩) hs
theorem bW:IxR X (Fj X.K):=by
 intro value slice pins s σ H x y v u Q I rx ry h hs;obtain ⟨p,xs,i,z,rfl,rfl,hq,he,q⟩:=h;cases rx;obtain ⟨t,rfl⟩:=ry;obtain ⟨its,r,pl,hz⟩:=I.tuple hq;obtain ⟨j,h1,h2,h3,h4,h5⟩:=ut he;obtain ⟨w,ew,eI⟩:=r.get h2;have hl:=r.length;have hn:=jY
 have fin:EP X pins σ Q w s:=⟨z,H,I,eI,q⟩
 exact subscriptTail_builtinR (x:=w) pl.typeIs slot_tuple_getitem.lookup
  (getItem_tuple (j:=j) (Q:=fun r s'=>r=w/\EP X pins σ Q r s') pl (by lia) (by lia) (by rw [List.size_toArray,<- hl];exact h1) (by simpa using ew) ⟨rfl,fin⟩) hs
theorem tu (its:List Value)(n j:Nat)(u:Value):Obj.mapSeq (·.setIfInBounds j u) { cls:=.type "list",data:=.seq its.toArray n }={ cls:=.type "list",data:=.seq (its.set j u).toArray n }:=by
 simp [Obj.mapSeq]
theorem Inv.lst {pins:List (Addr×Obj)}{σ:St}{H:Hp}{s:Shared}{p:Addr}{xs:List V}(I:Inv X pins σ H s)(h:H p=some (.lst xs)) :
  ∃ (its:List Value) (n:Nat),Vals xs its/\s.heap.get? p=some { cls:=.type "list",data:=.seq its.toArray n }/\xs.length<=sizeLine:=by
 obtain ⟨z,its,n,r,e⟩:=I.hok p _ h;exact ⟨its,n,r,e,z⟩
theorem Inv.lstUpd {pins:List (Addr×Obj)}{σ:St}{H:Hp}{s:Shared}{p:Addr}{xs ys:List V}{its its':List Value}{n n':Nat}{f:Obj->Obj}(I:Inv X pins σ H s)(h:H p=some (.lst xs))
  (ho:s.heap.get? p=some { cls:=.type "list",data:=.seq its.toArray n }) (hf:f { cls:=.type "list",data:=.seq its.toArray n }={ cls:=.type "list",data:=.seq its'.toArray n' }) (r:Vals ys its') (hz:ys.length<=sizeLine) (t:Nat) :
  Inv X pins σ (upd H p (.lst ys)) { s with heap:=s.heap.update p f,toks:=t }:=by
 have e:(s.heap.update p f).get? p=some { cls:=.type "list",data:=.seq its'.toArray n' }:=by
  rw [Heap.get?_update_self f ho (by rw [hf] <;> rfl),hf]
 refine I.write (x:=p) (e:=p) (by rw [h];trivial) (.inl rfl) (fun b u hb q=>(Heap.get?_update_other _ _ (Ne.symm hb)).trans q) ⟨_,e⟩ ?_;exact ⟨hz,its',n',r,e⟩
inductive RSetLI (o:V)(i:V)(v:V)(H:Hp)(Q:Hp->Prop):Prop
 | mk:∀ p xs k j,(o=.ref p)->(i=.int k)->(H p=some (.lst xs))->(ixN xs.length k=some j)->(Q (upd H p (.lst (xs.set j v))))->RSetLI  o i v H Q
def Fl:V->V->V->Hp->(Hp->Prop)->Prop:=fun o i v H Q=>RSetLI  o i v H Q
theorem set_list:Df X Fl:=by
 intro pins s σ H o i v ov iv u Q I ro ri rv h;obtain ⟨p,xs,k,j,rfl,rfl,hp,hj,q⟩:=h;cases ro;obtain ⟨t,rfl⟩:=ri;obtain ⟨its,n,r,ho,hz⟩:=I.lst hp;obtain ⟨h1,h2,h3,h4⟩:=ur hj;have hl:=r.length;have hn:=jY
 have I':Inv X pins σ (upd H p (.lst (xs.set j v))) { s with heap:=s.heap.update p (Obj.mapSeq (·.setIfInBounds j u)) } :=
  I.lstUpd hp ho (tu its n j u) (r.set rv j) (by rw [List.length_set];exact hz) s.toks
 by_cases h0:0<=k
 ·have hk:k.toNat=j:=by
   rw [seqIndex_of h0 h4] at h1;exact zAl h1
  exact PySem.W.ki_setAt ho h0 (by lia) (by rw [zA8,<- hl];exact h4) (by rw [hk];exact ⟨_,I',q⟩)
 ·have hk:(k+(its.toArray.size:Int)).toNat=j:=by
   rw [seqIndex_neg (by lia) h3] at h1;rw [zA8,<- hl];exact zAl h1
  exact PySem.W.ki_setBack ho (by lia) (by rw [zA8,<- hl];exact h3) (by lia) (by rw [hk];exact ⟨_,I',q⟩)
theorem pI (lo hi:Option Int)(n:Nat):(sliceBounds lo hi none n).1=((HT.sIx n 0 lo:Nat):Int)/\(sliceBounds lo hi none n).2.1=((HT.sIx n n hi:Nat):Int)/\(sliceBounds lo hi none n).2.2=1:=by
 refine ⟨?_,?_,rfl⟩
 ·cases lo with
  | none=>simp [sliceBounds,HT.sIx]
  | some i =>
   simp only [sliceBounds,HT.sIx,Option.getD_none,show (1:Int) > 0 by decide,if_true];by_cases h:i < 0
   ·simp only [h,if_true] <;> lia
   ·simp only [h,if_false] <;> lia
 ·cases hi with
  | none=>simp [sliceBounds,HT.sIx]
  | some i =>
   simp only [sliceBounds,HT.sIx,Option.getD_none,show (1:Int) > 0 by decide,if_true];by_cases h:i < 0
   ·simp only [h,if_true] <;> lia
   ·simp only [h,if_false] <;> lia
theorem mJ (its:List Value)(lo hi:Option Int):slicePick its.toArray lo hi none=((its.drop (HT.sIx its.length 0 lo)).take (HT.sIx its.length its.length hi - HT.sIx its.length 0 lo)).toArray:=by
 obtain ⟨h1,h2,h3⟩:=pI lo hi its.toArray.size;unfold slicePick;rw [h1,h2,h3];simp only [sliceRange_one,pick_run,List.size_toArray] <;> rfl
inductive RSlLI (K:PySem.W.Frag)(x:V)(lo:Option Int)(hi:Option Int)(H:Hp)(Q:VK):Prop
 | mk:∀ a xs,(x=.ref a)->(SqL K H a xs)->(∀ p,H p=none->Q (.ref p) (upd H p (.lst (mH xs lo hi))))->RSlLI K x lo hi H Q
def Hn (K:PySem.W.Frag):V->Option Int->Option Int->Hp->VK->Prop:=fun x lo hi H Q=>RSlLI K x lo hi H Q
theorem Ab:SlR X (Hn X.K):=by
 intro pins s σ H x v vl vu lo hi sl Q I rx hs pl pu h;obtain ⟨a,xs,rfl,hx,q⟩:=h;cases rx;obtain ⟨its,r,ht,hz⟩:=I.list hx;have hlen:=r.length;refine ⟨"list",_,slot_list_getitem.lookup,ht.isList.typeIs,?_⟩;refine wpAny_getItem_list_slice ht.isList hs pl pu .none (by simp) ?_ (by rw [List.size_toArray] <;> lia);rw [mJ,<- hlen];refine ⟨.ref s.heap.objs.size,_,I.laid (t':=s.toks) (o:=.lst (mH xs lo hi)) (fun b ob q=>Heap.get?_push_of_some _ q) (zA3 _) ?_,rfl,q _ (I.hok.fresh (zA3 _))⟩;exact ⟨Nat.le_trans (jH xs lo hi) hz,_,0,(r.drop (HT.sIx xs.length 0 lo)).take (HT.sIx xs.length xs.length hi - HT.sIx xs.length 0 lo),Heap.get?_push_size _ rfl⟩
theorem bR:dX X (.builtin "len") (fun xs H Q=>∃ p ys,xs=[.ref p]/\(SqL X.K H p ys\/SqT X.K H p ys)/\Q (.int ys.length) H):=by
 intro pins s σ H xs us Q I r h;obtain ⟨p,ys,rfl,hq,q⟩:=h;obtain ⟨u,rfl,rx⟩:=vals1 r;cases rx;have hn:=jY;rcases hq with hq | hq
 ·obtain ⟨its,r',pl,hz⟩:=I.list hq;have hlen:=r'.length;exact Calls.call_len_list pl.isList (by simp only [List.size_toArray] <;> lia) ⟨.int ys.length,H,I.tok _,⟨s.toks+1,by rw [List.size_toArray,hlen]⟩,q⟩
 ·obtain ⟨its,r',pl,hz⟩:=I.tuple hq;have hlen:=r'.length;exact len_tuple pl (by simp only [List.size_toArray] <;> lia) ⟨.int ys.length,H,I.tok _,⟨s.toks+1,by rw [List.size_toArray,hlen]⟩,q⟩
theorem pJ:dX X (.type "list") (fun xs H Q=>∃ p ys,xs=[.ref p]/\(SqL X.K H p ys\/SqT X.K H p ys)/\∀ l,H l=none->Q (.ref l) (upd H l (.lst ys))):=by
 intro pins s σ H xs us Q I r h;obtain ⟨p,ys,rfl,hq,q⟩:=h;obtain ⟨u,rfl,rx⟩:=vals1 r;cases rx
 have fin:∀ (its:List Value),Vals ys its->ys.length<=sizeLine->∀ (h':Heap) (c':Nat),(∀ b o',s.heap.get? b=some o'->h'.get? b=some o') ->
   h'.get? s.heap.objs.size=some { cls:=.type "list",dict:=none,data:=.seq its.toArray c',slots:=#[] }->EP X pins σ Q (.ref s.heap.objs.size) { s with heap:=h' }:=fun its r' hz h' c' kp e =>
  ⟨.ref s.heap.objs.size,_,I.laid (t':=s.toks) kp (zA3 _) (show ObjOk X.prog X.w _ h' _ (.lst ys) from ⟨hz,its,c',r',e⟩),rfl,q _ (I.hok.fresh (zA3 _))⟩
 rcases hq with hq | hq
 ·obtain ⟨its,r',pl,hz⟩:=I.list hq;have hlen:=r'.length;obtain ⟨o,ho,hc,n,hd⟩:=pl.isList;exact call_list_seq p (.inl rfl) ho hc hd (fun h' c' kp e=>fin its r' hz h' c' kp e) (by simp only [List.size_toArray] <;> lia)
 ·obtain ⟨its,r',pl,hz⟩:=I.tuple hq;have hlen:=r'.length;obtain ⟨o,ho,hc,n,hd⟩:=pl;exact call_list_seq p (.inr rfl) ho hc hd (fun h' c' kp e=>fin its r' hz h' c' kp e) (by simp only [List.size_toArray] <;> lia)
theorem cO:dX X (.type "tuple") (fun xs H Q=>∃ p ys,xs=[.ref p]/\((SqL X.K H p ys/\∀ l,H l=none->Q (.ref l) (upd H l (.tup ys)))\/(SqT X.K H p ys/\Q (.ref p) H))):=by
 intro pins s σ H xs us Q I r h;obtain ⟨p,ys,rfl,h⟩:=h;obtain ⟨u,rfl,rx⟩:=vals1 r;cases rx;rcases h with ⟨hq,q⟩ | ⟨hq,q⟩
 ·obtain ⟨its,r',pl,hz⟩:=I.list hq;have hlen:=r'.length;refine call_tuple_list pl.isList (fun h' kp=>?_) (by simp only [List.size_toArray] <;> lia);have I1:Inv X pins σ H { s with heap:=h' }:=I.kept (t':=s.toks) kp
  have I2:Inv X pins σ (upd H h'.objs.size (.tup ys)) { s with heap:=h'.push { cls:=.type "tuple",data:=.seq its.toArray } } :=
   I1.laid (t':=s.toks) (fun b o e=>zAx _ e) (zA3 _) (show ObjOk X.prog X.w _ _ _ (.tup ys) from ⟨hz,its,r',IsTup.new _ _⟩)
  exact ⟨.ref h'.objs.size,_,I2,rfl,q _ (I1.hok.fresh (zA3 _))⟩
 ·obtain ⟨its,r',pl,hz⟩:=I.tuple hq;exact call_tuple_same pl ⟨.ref p,H,I,rfl,q⟩
def tyV (K:PySem.W.Frag)(T:String)(x:V)(H:Hp):Prop:=match x with
 | .str _=>T="str"
 | .int _=>T="int"
 | .ref p=>(T="list" /\ ∃ xs,SqL K H p xs)\/(T="tuple" /\ ∃ o,K.lookup p=some o/\o.cls=.type "tuple" /\ o.dict=none) \/
   (T="dict" /\ ((∃ kvs,H p=some (.dK kvs))\/∃ kvs,H p=some (.dT kvs)))\/(T="set" /\ ∃ S n,H p=some (.set S n))
 | _=>False
theorem Do {pins:List (Addr×Obj)}{σ:St}{H:Hp}{s:Shared}{T:String}{x:V}{v:Value}(I:Inv X pins σ H s)(r:RelV x v)(ty:tyV X.K T x H) :
  s.TypeIs v T/\∀ a,v=.ref a->∃ ob,s.heap.get? a=some ob/\ob.dict=none:=by
 cases x with
 | str z =>
  obtain ⟨t,rfl⟩:=r;cases (show T="str" from ty);exact ⟨typeIs_str s z t,fun _ e=>nomatch e⟩
 | int i =>
  obtain ⟨t,rfl⟩:=r;cases (show T="int" from ty);exact ⟨typeIs_int s i t,fun _ e=>nomatch e⟩
 | ref p =>
  cases r;rcases ty with ⟨rfl,xs,hq⟩ | ⟨rfl,o,hk,hc,hd⟩ | ⟨rfl,hk⟩ | ⟨rfl,S,n,hk⟩
  ·obtain ⟨its,_,pl,_⟩:=I.list hq;refine ⟨pl.isList.typeIs,fun a e=>?_⟩;cases e;obtain ⟨o,n,e,c,hd,_⟩:=pl;exact ⟨o,e,hd⟩
  ·refine ⟨⟨o,I.kIn p o hk,hc⟩,fun a e=>?_⟩;cases e;exact ⟨o,I.kIn _ o hk,hd⟩
  ·have z:∃ o,s.heap.get? p=some o/\o.ExactDict:=by
    rcases hk with ⟨kvs,hk⟩ | ⟨kvs,hk⟩
    ·obtain ⟨_,_,_,_,o,_,_,e,ex,_⟩:=I.hok p _ hk;exact ⟨o,e,ex⟩
    ·obtain ⟨_,_,_,_,o,_,_,e,ex,_⟩:=I.hok p _ hk;exact ⟨o,e,ex⟩
   obtain ⟨o,e,ex⟩:=z;refine ⟨⟨o,e,ex.1⟩,fun a e2=>?_⟩;cases e2;exact ⟨o,e,ex.2.1⟩
  ·obtain ⟨o,_,_,_,e,ex,_⟩:=I.hok p _ hk;refine ⟨⟨o,e,ex.1⟩,fun a e2=>?_⟩;cases e2;exact ⟨o,e,ex.2.1⟩
 | _=>exact False.elim ty
def tBM (K:PySem.W.Frag)(T:String)(r:V->List V->Hp->VK->Prop)(to:TE)(t:TA):TE:=fun σ H Q=>to σ H fun x H1=>tyV K T x H1/\t σ H1 fun xs H2=>r x xs H2 Q
variable {o e:Expr}{es:List Expr}{to:TE}{t:TA}{name:Str}{apos bp:Pos}{T id:String}{r:V->List V->Hp->VK->Prop}
theorem xq (pa:PlainAttrs T)(slot:Slot T name id)(J2:typeOf (.builtin id)=pure (.type "method_descriptor"))(hm:MtR X id r)(ho:PE X o to)(ha:PA X (e::es) t)
  (ve:attributeBase o name X.env (eval o X.env)=eval o X.env:=by rfl)
  (Cc:((backTo bp (starEach (e::es) X.env)).all (fun x=>!x.1) && (backToKw bp (keywordEach [] X.env)).all (fun x=>x.1.isSome)
   && decide ((e::es).length+([]:List Keyword).length+(if ([]:List Keyword).isEmpty then 0 else 1) < 30))=true:=by rfl)
  (vi:(apos.endLine == bp.line)=true:=by rfl) (hs:starEach (e::es) X.env=(false,eval e X.env)::starEach es X.env:=by rfl) (oP:(backTo bp (starEach es X.env)).any (·.1)=false:=by rfl) :
  PE X (.Call (.Attribute o name apos) (e::es) [] bp) (tBM X.K T r to t):=by
 intro pins s σ H Q I h;refine wpAny_Call_method_late ve Cc vi rfl (thn (ho pins s σ H _ I h) fun v s1 ⟨x,H1,I1,r1,ty,q1⟩=>?_);obtain ⟨h1,h2⟩:=Do I1 r1 ty;refine ⟨T,id,pa,slot,J2,h1,h2,?_⟩;have hA:=ha bp pins s1 σ H1 _ I1 q1;rw [hs] at hA ⊢;refine Calls.callWith_builtin (by show (false || (backTo bp (starEach es X.env)).any (·.1))=false;rw [oP] <;> rfl) (Calls.evalArgs_plain ?_);exact thn hA fun us s2 ⟨vs,H2,I2,r2,q2⟩=>hm pins s2 σ H2 x vs v us Q I2 r1 r2 q2
end
def MtM (X:Cx)(id:String)(r:V->List V->Hp->VK->Prop):Prop :=
 ∀ (pins:List (Addr×Obj)) (s:Shared) (σ:St) (H:Hp) (x:V) (xs:List V) (v:Value) (us:List Value) (Q:VK),Inv X pins σ H s->RelV x v->Vals xs us->r x xs H Q ->
  wpAny (model X.prog X.w) X.A (call (.builtin id) (v::us)) (EP X pins σ Q) X.xe s
theorem Vals.one:∀ {x:V} {us:List Value},Vals [x] us->∃ u,us=[u]/\RelV x u
 | _,_,.cons r .nil=>⟨_,rfl,r⟩
theorem Vals.zero:∀ {us:List Value},Vals [] us->us=[]
 | _,.nil=>rfl
theorem Vals.rep {xs:List V}{us:List Value}(h:Vals xs us):∀ k:Nat,Vals (List.replicate k xs).flatten (List.replicate k us).flatten
 | 0=>.nil
 | k+1=>by
  rw [List.replicate_succ,List.replicate_succ,List.flatten_cons,List.flatten_cons];exact Vals.append h (Vals.rep h k)
theorem foldl_rep (its:List Value):∀ (k:Nat) (acc:List Value),
  List.foldl (fun x1 x2=>x1++x2) acc.toArray (List.replicate k its.toArray)=(acc++(List.replicate k its).flatten).toArray
 | 0,acc=>by simp
 | k+1,acc=>by
  have e:acc.toArray++its.toArray=(acc++its).toArray:=by simp
  have e2:(acc++its)++(List.replicate k its).flatten=acc++(List.replicate (k+1) its).flatten:=by
   rw [List.replicate_succ,List.flatten_cons,zAf]
  rw [<- e2,<- foldl_rep its k (acc++its),<- e,List.replicate_succ,List.foldl_cons]
section
variable {X:Cx}{pins:List (Addr×Obj)}{σ:St}{H:Hp}{s:Shared}{l b:Addr}{xs ys zs:List V}
theorem Inv.lset {its its':List Value}{n:Nat}{f:Array Value->Array Value}{t':Nat}(I:Inv X pins σ H s)(hH:H l=some (.lst xs))
  (e:s.heap.get? l=some { cls:=.type "list",data:=.seq its.toArray n }) (hf:f its.toArray=its'.toArray) (hv:Vals ys its') (hz:ys.length<=sizeLine) :
  Inv X pins σ (upd H l (.lst ys)) { s with heap:=s.heap.update l (Obj.mapSeq f),toks:=t' }:=by
 have q:=PySem.IsL.update e f;rw [hf] at q;refine I.write (x:=l) (e:=l) (by rw [hH];exact trivial) (.inl rfl) (fun b' u hb hu=>(Heap.get?_update_other s.heap (Obj.mapSeq f) (Ne.symm hb)).trans hu) ⟨_,q⟩ ?_;exact ⟨hz,its',_,hv,q⟩
theorem Inv.lnew {its:List Value}{t':Nat}(I:Inv X pins σ H s)(hv:Vals ys its)(hz:ys.length<=sizeLine) :
  Inv X pins σ (upd H s.heap.objs.size (.lst ys)) { s with heap:=s.heap.push { cls:=.type "list",data:=.seq its.toArray },toks:=t' } :=
 I.laid (fun _ _ q=>zAx _ q) (zA3 _) ⟨hz,its,0,hv,zB1 _ rfl⟩
theorem Inv.fresh (I:Inv X pins σ H s):H s.heap.objs.size=none:=I.hok.fresh (zA3 _)
theorem Inv.lstM (I:Inv X pins σ H s)(hH:H l=some (.lst xs)):xs.length<=sizeLine/\∃ (its:List Value) (n:Nat),Vals xs its/\xs.length=its.length/\s.heap.get? l=some { cls:=.type "list",data:=.seq its.toArray n }:=by
 obtain ⟨z,its,n,r,e⟩:=I.hok l _ hH;exact ⟨z,its,n,r,r.length,e⟩
theorem iY {n:Nat}(h:n<=sizeLine):Builtin.List.listTooLong n=false:=by
 unfold Builtin.List.listTooLong;exact zB2 (by lia)
end
section
variable {X:Cx}
inductive RAppendI (x:V)(vs:List V)(H:Hp)(Q:VK):Prop
 | mk:∀ l xs y,(x=.ref l)->(vs=[y])->(H l=some (.lst xs))->(xs.length < sizeLine)->(Q .non (upd H l (.lst (xs++[y]))))->RAppendI  x vs H Q
def Ac:V->List V->Hp->VK->Prop:=fun x vs H Q=>RAppendI  x vs H Q
theorem jt:MtM X "list.append" Ac:=by
 intro pins s σ H x vs v us Q I rx rv h;obtain ⟨l,xs,y,rfl,rfl,hH,hz,q⟩:=h;cases rx;obtain ⟨u,rfl,ru⟩:=rv.one;obtain ⟨z,its,n,r,hl,e⟩:=I.lstM hH;refine call_meets F.slot_list_append ⟨_,e,rfl⟩ F.entry_list_append (F.args_list_append_2 _ _) (PySem.list_append l its.toArray n u (by rw [zA8];lia)) ⟨e,?_⟩;refine ⟨.non,_,I.lset (its':=its++[u]) hH e (by simp) (r.append (.cons ru .nil)) ?_,rfl,q⟩;rw [zA2,List.length_singleton];lia
inductive RExtendI (x:V)(vs:List V)(H:Hp)(Q:VK):Prop
 | mk:∀ l b xs zs,(x=.ref l)->(vs=[.ref b])->(H l=some (.lst xs))->(H b=some (.lst zs))->(xs.length+zs.length<=sizeLine)->(Q .non (upd H l (.lst (xs++zs))))->RExtendI  x vs H Q
def Ad:V->List V->Hp->VK->Prop:=fun x vs H Q=>RExtendI  x vs H Q
theorem Ep:MtM X "list.extend" Ad:=by
 intro pins s σ H x vs v us Q I rx rv h;obtain ⟨l,b,xs,zs,rfl,rfl,hH,hB,hz,q⟩:=h;cases rx;obtain ⟨u,rfl,ru⟩:=rv.one;cases ru;obtain ⟨z,its,n,r,hl,e⟩:=I.lstM hH;obtain ⟨z2,ba,n2,r2,fF,e2⟩:=I.lstM hB;have hsz:its.toArray.size+ba.toArray.size<=sizeLine:=by rw [zA8,zA8];lia
 have cE:¬ (!its.toArray.isEmpty && Builtin.List.listTooLong (its.toArray.size+ba.toArray.size))=true:=by
  rw [iY hsz,Bool.and_false];exact zAg
 refine call_meets F.slot_list_extend ⟨_,e,rfl⟩ F.entry_list_extend (F.args_list_extend_2 _ _)
  (AutoSeq1.list_extend_list_list_0 l its.toArray n b ba.toArray n2 cE (by rw [zA8];lia) (by lia)) ⟨e,e2,?_⟩
 refine ⟨.non,_,I.lset (its':=its++ba) hH e (by simp) (r.append r2) ?_,rfl,q⟩;rw [zA2];lia
inductive RCatI (x:V)(y:V)(H:Hp)(Q:VK):Prop
 | mk:∀ l b xs zs,(x=.ref l)->(y=.ref b)->(H l=some (.lst xs))->(H b=some (.lst zs))->(xs.length+zs.length<=sizeLine)->(∀ p,H p=none->Q (.ref p) (upd H p (.lst (xs++zs))))->RCatI  x y H Q
def Ho:R2:=fun x y H Q=>RCatI  x y H Q
theorem Dp:OpR X (binaryOp .Add) Ho:=by
 intro pins s σ H x y v u Q I rx ry h;obtain ⟨l,b,xs,zs,rfl,rfl,hH,hB,hz,q⟩:=h;cases rx;cases ry;obtain ⟨z,its,n,r,hl,e⟩:=I.lstM hH;obtain ⟨z2,ba,n2,r2,fF,e2⟩:=I.lstM hB;refine PySem.P.add_list e e2 ?_ (by rw [zA8,zA8];lia);have ea:its.toArray++ba.toArray=(its++ba).toArray:=by simp
 rw [ea];exact ⟨.ref _,_,I.lnew (t':=s.toks) (r.append r2) (by rw [zA2];lia),rfl,q _ I.fresh⟩
inductive RRepI (x:V)(y:V)(H:Hp)(Q:VK):Prop
 | mk:∀ l k xs,(x=.ref l)->(y=.int k)->(H l=some (.lst xs))->(-(2 ^ 63)<=k)->(k < 2 ^ 63)->(xs.length * k.toNat<=sizeLine)->(∀ p,H p=none->Q (.ref p) (upd H p (.lst (List.replicate k.toNat xs).flatten)))->RRepI  x y H Q
def Hq:R2:=fun x y H Q=>RRepI  x y H Q
theorem len_rep {α:Type}(xs:List α)(k:Nat):(List.replicate k xs).flatten.length=k * xs.length:=by
 induction k with
 | zero=>simp
 | succ k ih=>rw [List.replicate_succ,List.flatten_cons,zA2,ih,Nat.succ_mul,Nat.add_comm]
theorem Dq:OpR X (binaryOp .Mult) Hq:=by
 intro pins s σ H x y v u Q I rx ry h;obtain ⟨l,k,xs,rfl,rfl,hH,h1,h2,hz,q⟩:=h;cases rx;obtain ⟨t,rfl⟩:=ry;obtain ⟨z,its,n,r,hl,e⟩:=I.lstM hH;have hlen:its.toArray.size * k.toNat<=sizeLine:=by rw [zA8,<- hl];exact hz
 have oQ:¬ its.toArray.size * k.toNat > (2 ^ 63 - 1) / 8:=by
  have:(sizeLine:Nat)<=(2 ^ 63 - 1) / 8:=by decide
  lia
 have oS:¬ (!Builtin.List.listFitsIndex k)=true:=by
  rw [fitsIndex_both h1 h2];exact zAg
 have cE:¬ Builtin.List.listTooLong (its.toArray.size * k.toNat)=true:=by
  rw [iY hlen];exact zAg
 have oT:List.foldl (fun x1 x2=>x1++x2) #[] (List.replicate (if its.toArray.isEmpty=true then 0 else k.toNat) its.toArray)=(List.replicate k.toNat its).flatten.toArray:=by
  have f0:∀ m:Nat,List.foldl (fun x1 x2=>x1++x2) #[] (List.replicate m its.toArray)=(List.replicate m its).flatten.toArray:=fun m=>by
   have:=foldl_rep its m [];rw [List.nil_append] at this;exact this
  rw [f0]
  cases its with
  | nil=>simp
  | cons a r'=>rw [if_neg (by simp)]
 refine wpAny_binaryOp_repeat_ref (T:="list") (U:="int") (by decide) ⟨_,e,rfl⟩ (fun s'=>typeIs_int s' k t) noFill_list_mul F.fills_int_mul F.slot_int_rmul repeat_list F.slot_int_index.lookup
  (call_meets F.slot_int_rmul (typeIs_int s k t) F.entry_int_rmul (F.args_int_rmul_2 _ _) (int___rmul___int_list k t l its.toArray n)
   ⟨e,rfl,⟨_,e,rfl⟩,call_meets F.slot_list_mul ⟨_,e,rfl⟩ F.entry_list_mul (F.args_list_mul_2 _ _) (AutoListH.list___mul___list_int_3 l its.toArray n k t oS oQ cE) ⟨e,?_⟩⟩)
 rw [oT];exact ⟨.ref _,_,I.lnew (t':=s.toks) (r.rep k.toNat) (by rw [len_rep,Nat.mul_comm];exact hz),rfl,q _ I.fresh⟩
end
section
variable {prog:Program}{w:World}{A:Around}{E:Value->Shared->Prop}{s:Shared}
set_option maxRecDepth 100000 in
end
section
variable {X:Cx}
end
end L2
namespace Att
open PySem PySem.W PySem.Calls PyProof.Rows
theorem jM {P:Params}{h:Heap}:∀ (ns:List Int) (vs:List Value),WellAll P h vs (ns.map WData.int)->IntsAre vs ns:=by
 intro ns
 induction ns with
 | nil =>
  intro vs w;rw [List.map_nil] at w;cases w;exact .nil
 | cons n ns ih =>
  intro vs w;rw [zAk] at w
  cases w with
  | cons a b =>
   cases a;exact .cons _ _ (ih _ b)
theorem vJ {l:OpenLaw}{n:Nat}(hn:l.most=some n){P:Params}{h:Heap}{args:List WData}{vals:List Value}
  (kN:l.row.toRowW.claim.pre args=true) (Cf:WellAll P h vals args) :
  ∃ a vs ns,vals=[Value.ref a]/\args=[WData.list (ns.map WData.int)]/\h.get? a=some { cls:=.type "list",data:=.seq vs.toArray }/\IntsAre vs ns/\ns.length<=n:=by
 have J3:WShape.hasAll [] args [.list .int]=true:=(pre_splitW kN).1;have hc:l.pre.holds [] { args:=args }=true:=(pre_splitW kN).2;obtain ⟨d,r,rfl,h1,h2⟩:=hasAllW_cons J3;obtain rfl:=hasAllW_nil h2;obtain ⟨xs,rfl,h3⟩:=hasW_list h1;obtain ⟨ns,rfl⟩:=items_int h3
 have hlen:ns.length<=n:=by
  unfold OpenLaw.pre at hc
  have h4:(WTm.not (.lt (.lit (.int (n:Int))) (.len (.arg 0)))).holds [] { args:=[.list (ns.map .int)] }=true:=by
   have h4:=(holds_andW hc).1;rw [hn] at h4;exact h4
  have h5:=condW_of h4 (w_not (w_lt w_lit (w_len_list (w_arg rfl))));rw [zA1] at h5;refine Nat.le_of_not_lt fun q=>?_;have q':(n:Int) < ((ns.length:Nat):Int):=by lia
  first
   | (rw [zAt q'] at h5;exact absurd h5 (by decide))
   | (simp at h5;lia)
 cases Cf with
 | cons w1 w2 =>
  cases w2
  cases w1 with
  | list ho fT=>exact ⟨_,_,ns,rfl,rfl,ho,jM ns _ fT,hlen⟩
theorem vK (l:OpenLaw)(args:List WData):l.row.toRowW.claim.post args (.bool true) args=true :=
 postW_of (r:=l.row.toRowW) (X:=(true == true))
  (show WShape.has [] (.bool true) .bool=true by first | rfl | decide | simp [WShape.has,WShape.arms,WShape.armsAll])
  (show (WTm.eq .res (.lit (.bool true))).value [] { args:=args,res:=some (.bool true),after:=args }=some (.bool (true == true)) from w_eq_bool (w_res rfl) w_lit) rfl
theorem attach_call {l:OpenLaw}{n:Nat}{q:Program}{loose:List Str}{XP:(Str->Option Value)->Heap->Prop}{YP:World->Heap->Prop}{d:DefRec}
  (hn:l.most=some n) (vj:d.params.defaults=[])
  (call:∀ (w:World) (s₀ s₁:Shared) (mg mb:Str->Option Value) (fa:Addr) (o:Obj) (pm cd doc:Value) (a:Addr) (vs:List Value) (ns:List Int),
   Ground q loose [] XP w s₀ mg mb s₁.heap->YP w s₁.heap ->
   s₁.heap.get? fa=some o->o.data=.func (docDef d.name d.params d.body d.scope pm cd doc)->s₁.heap.CodeRec cd d.name->mg d.name=some (.ref fa) ->
   s₁.heap.get? a=some { cls:=.type "list",data:=.seq vs.toArray }->IntsAre vs ns->ns.length<=n->s₁.gens=#[] ->
   codeAny (model l.prog w) callerA (.call (.ref fa) ⟨[.ref a],[]⟩) (fun r s'=>r=.ok (.ret (.bool true))/\OldK s₁.heap s'.heap/\s'.os=s₁.os/\AllBare s'.gens) s₁) :
  WalkO q loose XP YP l.row.toRowW d [] (fun f vs=>PySem.call f vs):=by
 intro w s₀ s₁ mg mb G Y fa o pm cd doc dV kV ho hd iL hD hmg hg args vals as kN J5 Pu Cf dP;obtain rfl:dV=.none:=Dflts.none hD vj;obtain rfl:kV=.none:=Dflts.noKw hD;obtain ⟨a,vs,ns,rfl,rfl,pb,hints,hlen⟩:=vJ hn kN Cf;refine enter_call (codeAny_mono (call w s₀ s₁ mg mb fa o pm cd doc a vs ns G Y ho (fd_plain hd) iL hmg pb hints hlen hg) fun r s' hq=>?_);obtain ⟨rfl,h2,h3,h4⟩:=hq;exact ⟨.inl ⟨.bool true,.bool true,[],rfl,fun _=>rfl,.bool true,vK l _,fun _=>⟨List.Pairwise.nil,fun _ hm=>(nomatch hm)⟩⟩,h2,h3,h4⟩
section
variable {prog:Program}{w:World}{A:Around}{E:Value->Shared->Prop}{s:Shared}{K:Frag}
end
end Att
namespace L2
open PySem PySem.Spec PyProof.Rows
theorem nM:∀ {vs:List Value} {ns:List Int},IntsAre vs ns->Vals (ns.map V.int) vs
 | _,_,.nil=>.nil
 | _,_,.cons n t h=>.cons ⟨t,rfl⟩ (nM h)
def Only (H:Hp):Prop:=∀ b,H b=none\/∃ o xs,H b=some (.frz o (.lst xs))
theorem xu {P:Program}{w:World}{K:PySem.W.Frag}{mg mb:Str->Option Value}{CX:CXT}{k:Nat}{fa a:Addr}{fd:FuncData}{x:Str}{sp:Sp}{s₁:Shared}{vs:List Value}{ns:List Int}
  (KX:K.In s₁.heap) (HA:s₁.heap.Ns mainGlobals mg) (hb:s₁.heap.Ns builtinsNs mb) (J6:∀ x:Str,x≠"__name__" -> mb x=bootBuiltins x) (Cn:s₁.heap.NoLimit) (hg:s₁.gens=#[])
  (ha:s₁.heap.get? a=some { cls:=.type "list",data:=.seq vs.toArray }) (hi:IntsAre vs ns) (hl:ns.length<=sizeLine) (hr:Room k callerA)
  (F:∀ base:Heap,K.In base->base.Ns mainGlobals mg->FnOk P w K mg base CX k fa fd [x] sp) (vk:∀ (s:Shared) (u:Value),BindsTo s fd ⟨[u],[]⟩ [(x,u)])
  (mw:∀ H:Hp,Only H->SqL K H a (ns.map V.int)->sp [.ref a] H (fun v _=>v=.bl true) fun _ _ _=>False)
  (Co:∀ H e s',CX [] H s₁ (fun _ _ _=>False) e s'->False) :
  codeAny (model P w) callerA (.call (.ref fa) ⟨[.ref a],[]⟩) (fun r s'=>r=.ok (.ret (.bool true))/\OldK s₁.heap s'.heap/\s'.os=s₁.os/\AllBare s'.gens) s₁:=by
 have rv:=nM hi;have Cs:=hi.length
 have core:∀ H:Hp,Only H->SqL K H a (ns.map V.int)->HOk P w H s₁.heap->(∀ b,H b≠none->b=a)->(H a≠none->K.lookup a=none) ->
   codeAny (model P w) callerA (.call (.ref fa) ⟨[.ref a],[]⟩) (fun r s'=>r=.ok (.ret (.bool true))/\OldK s₁.heap s'.heap/\s'.os=s₁.os/\AllBare s'.gens) s₁:=by
  intro H hO hS hok hA hK;have gE:∀ {b:Addr} {o:Obj},s₁.heap.get? b=some o->H b=none->(oZ s₁.heap H).get? b=some o:=fun e n=>wU e n
  have u7:∀ {b:Addr} {o:Obj} {es:Array DictEntry} {ep:Nat},s₁.heap.get? b=some o->o.data=.dict es ep->H b=none:=fun {b o es ep} e d=>by
   cases q:H b with
   | none=>rfl
   | some u =>
    have e':b=a:=hA b (by rw [q];simp);subst e';rw [ha] at e;cases e;have d':Data.seq vs.toArray _=Data.dict es ep:=d;cases d'
  have AI:∀ {b:Addr} {m:Str->Option Value},s₁.heap.Ns b m->(oZ s₁.heap H).Ns b m:=fun {b m} ⟨o,es,ep,e,d,r⟩=>⟨o,es,ep,gE e (u7 e d),d,r⟩
  have HC:K.In (oZ s₁.heap H):=fun b o e=>gE (KX b o e) (by
   cases q:H b with
   | none=>rfl
   | some u =>
    have e':b=a:=hA b (by rw [q];simp);subst e'
    rw [hK (by rw [q];simp)] at e;cases e)
  have hM:Mod K mg (oZ s₁.heap H):=⟨HC,AI HA,⟨mb,AI hb,J6⟩,let ⟨mc,h1,h2⟩:=Cn;⟨mc,AI h1,h2⟩⟩
  have e0:Env0 P w K mg (oZ s₁.heap H) callerA [] s₁ H:=⟨rfl,hM,fun b o e=>zN e,Nat.le_of_eq (vy _ _),trivial,fun b hb=>absurd (show b∈([]:List Addr) from hb) (by simp),hok,.of_eq hg⟩
  refine codeAny_mono ((F _ HC (AI HA)).run callerA [] s₁ H ⟨[.ref a],[]⟩ [.ref a] [.ref a] _ _ hr e0 (vk s₁ (.ref a)) (.cons rfl .nil) (mw H hO hS)) fun r s' h=>?_
  cases r with
  | error e=>exact (Co H e s' h).elim
  | ok fl =>
   cases fl with
   | next=>exact False.elim h
   | brk=>exact False.elim h
   | cont=>exact False.elim h
   | ret u =>
    obtain ⟨v,H',os,bare,un,Ct,r',q⟩:=h;have q':v=.bl true:=q;subst q';obtain rfl:u=Value.bool true:=r';refine ⟨rfl,OldK.of_keep fun b o e=>?_,os,bare⟩
    cases q:H b with
    | none=>exact un.keep b o e q (by intro z;exact absurd (show b∈([]:List Addr) from z) (by simp)) (by simp)
    | some u =>
     rcases hO b with z | ⟨ob,xs,z⟩
     ·rw [q] at z;cases z
     ·have z2:=un.frzs b ob _ z;obtain ⟨e1,_⟩:=hok b _ z;obtain ⟨e2,_⟩:=Ct b _ z2;rw [e] at e1;cases e1;exact e2
 cases hk:K.lookup a with
 | some o =>
  have e:=KX a o hk;rw [ha] at e;cases e;refine core (fun _=>none) (fun _=>.inl rfl) (.inr ⟨_,vs.toArray,_,hk,rfl,rfl,rfl,by rw [List.size_toArray,Cs];exact hl,by simpa using rv⟩) (fun b u z=>by have z':(none:Option HO)=some u:=z;cases z') (fun b z=>absurd rfl z) fun z=>absurd rfl z
 | none =>
  refine core (fun b=>if b=a then some (.frz { cls:=.type "list",data:=.seq vs.toArray } (.lst (ns.map V.int))) else none) (fun b=>?_) (.inl (.inr ⟨{ cls:=.type "list",data:=.seq vs.toArray },zAw rfl⟩)) (fun b u z=>?_) (fun b z=>?_) fun _=>hk
  ·by_cases hb:b=a
   ·exact .inr ⟨_,_,zAw hb⟩
   ·exact .inl (zAv hb)
  ·by_cases hb:b=a
   ·have z':=(zAw hb).symm.trans z;cases z';subst hb;exact ⟨ha,by rw [zA1];exact hl,vs,_,rv,ha⟩
   ·have z':=(zAv hb).symm.trans z;cases z'
  ·by_cases hb:b=a
   ·exact hb
   ·exact absurd (zAv hb) z
theorem walk_of {l:PySem.W.OpenLaw}{n k:Nat}{q:Program}{loose:List Str}{XP:(Str->Option Value)->Heap->Prop}{YP:World->Heap->Prop}{d:DefRec}{K:Params->PySem.W.Frag}{CX:World->CXT}{sp:World->Sp}{x:Str}
  (hn:l.most=some n) (pd:n<=sizeLine) (vj:d.params.defaults=[]) (hr:Room k callerA)
  (hY:∀ (w:World) (h:Heap),YP w h->(K w.params).In h)
  (F:∀ (w:World) (mg:Str->Option Value) (fa:Addr) (h:Heap),(K w.params).In h->h.Ns mainGlobals mg->mg d.name=some (.ref fa) ->
   ∃ fd:FuncData,(∀ (s:Shared) (u:Value),BindsTo s fd ⟨[u],[]⟩ [(x,u)]) /\
    ∀ base:Heap,(K w.params).In base->base.Ns mainGlobals mg->FnOk l.prog w (K w.params) mg base (CX w) k fa fd [x] (sp w))
  (mw:∀ (w:World) (H:Hp) (a:Addr) (ns:List Int),ns.length<=n->Only H->SqL (K w.params) H a (ns.map V.int)->sp w [.ref a] H (fun v _=>v=.bl true) fun _ _ _=>False)
  (Co:∀ (w:World) (H:Hp) (s:Shared) (e:Value) (s':Shared),CX w [] H s (fun _ _ _=>False) e s'->False) :
  PySem.W.WalkO q loose XP YP l.row.toRowW d [] (fun f vs=>PySem.call f vs):=by
 refine Att.attach_call hn vj fun w s₀ s₁ mg mb fa o pm cd doc a vs ns G Y ho hd iL hmg pb hints hlen hg=>?_;have KX:=hY w _ Y;obtain ⟨fd,hb,hF⟩:=F w mg fa _ KX G.T.g hmg;exact xu KX G.T.g G.T.b G.T.builtins G.T.nolimit hg pb hints (Nat.le_trans hlen pd) hr hF hb (fun H hO hS=>mw w H a ns hlen hO hS) fun H e s'=>Co w H s₁ e s'
def fu (s:Stmt):Arguments:=match s with
 | .FunctionDef _ a _ _ _ _ _ _ _ _=>a
 | _=>{ posonlyargs:=[],args:=[],vararg:=none,kwonlyargs:=[],kw_defaults:=[],kwarg:=none,defaults:=[] }
def dY (s:Stmt):List Stmt:=match s with
 | .FunctionDef _ _ b _ _ _ _ _ _ _=>b
 | _=>[]
def aJ (s:Stmt):Scope:=match s with
 | .FunctionDef _ _ _ _ _ _ sc _ _ _=>sc
 | _=>{ kind:=.function,names:=[],isGenerator:=false,isCoroutine:=false }
abbrev CX0:CXT:=fun _ _ _ _ _ _=>False
abbrev E0:XK:=fun _ _ _=>False
theorem Fo {X:Cx}:sX CX0 X E0:=fun _ _ _ _ _ _ _ h=>h.elim
structure Fun (K:PySem.W.Frag)(x qual:Str)(st:Stmt)(f:Addr)(fd:FuncData):Prop where
 ex:∃ (oc:Value) (od:Option Addr) (kV doc pm:Value) (an:Option Addr) (ai ct:Value) (mv:Array (Option Value)),
  fd=PySem.W.fnOf x qual (fu st) (dY st) (aJ st) .none kV doc pm an ai ct/\K.lookup f=some ⟨oc,od,.func fd,mv⟩/\PySem.W.codeIn K ai qual=true
 kp:PySem.W.keepIn K (.ref f)=true
section
variable {P:Program}{w:World}{K:PySem.W.Frag}{mg:Str->Option Value}{base:Heap}{f:Addr}{fd:FuncData}
theorem Fun.ok {x qual:Str}{st:Stmt}{f:Addr}{fd:FuncData}{N ps:List Str}{k:Nat}{sp:Sp}(F:Fun K x qual st f fd)(S:FnScope N ps (aJ st))(len:∀ vs H Q E,sp vs H Q E->vs.length=ps.length)
  (iS:∀ (ai:Value) (A:Around) (outer:List Env) (s:Shared) (H:Hp) (vs:List V) (Q:VK) (E:XK),Room k (A.deeper (envOfC qual (aJ st) s.heap.objs.size f ai))->sp vs H Q E ->
   ∃ t,PSs (vH CX0 P w K mg base N qual (aJ st) f ai A outer s H E).nox (dY st) t/\t { nx:=fun _ H'=>Q .non H',rt:=Q } (start N vs) H):FnOk P w K mg base CX0 (k+1) f fd ps sp:=by
 obtain ⟨oc,od,kV,doc,pm,an,ai,ct,mv,rfl,lk,iL⟩:=F.ex;refine Fe lk iL S len fun A outer s H vs Q E hr mw=>?_;obtain ⟨t,h,q⟩:=iS ai A outer s H vs Q E hr mw;exact ⟨t,h.nox,q⟩
theorem Fun.binds {x qual:Str}{st:Stmt}{f:Addr}{fd:FuncData}{ps:List Str}(F:Fun K x qual st f fd)
  (h:∀ (kV doc pm:Value) (an:Option Addr) (ai ct:Value) (us:List Value),us.length=ps.length->bindArgs (PySem.W.fnOf x qual (fu st) (dY st) (aJ st) .none kV doc pm an ai ct) ⟨us,[]⟩=pure (ps.zip us)):Binds K fd ps []:=by
 obtain ⟨oc,od,kV,doc,pm,an,ai,ct,mv,rfl,lk,iL⟩:=F.ex;exact .all (h kV doc pm an ai ct)
theorem xx {x qual:Str}{st:Stmt}{f:Addr}{oc:Value}{od an:Option Addr}{mv:Array (Option Value)}{kV doc pm ai ct:Value}(l:K.lookup f=some ⟨oc,od,.func (PySem.W.fnOf x qual (fu st) (dY st) (aJ st) .none kV doc pm an ai ct),mv⟩)
  (c:PySem.W.codeIn K ai qual=true) (k:PySem.W.keepIn K (.ref f)=true):Fun K x qual st f (PySem.W.fnOf x qual (fu st) (dY st) (aJ st) .none kV doc pm an ai ct):=⟨⟨oc,od,kV,doc,pm,an,ai,ct,mv,rfl,l,c⟩,k⟩
end
theorem fP {A:Around}{k:Nat}(hr:Room k A):A.units+1 < cLine:=Nat.lt_of_le_of_lt (Nat.add_le_add_left (by decide:1<=64) _) hr.units
section
variable {X:Cx}
theorem pv (i:Nat){x:Str}{pos:Pos}(hN:X.N[i]?=some x:=by rfl)(hv:Vis X.env.scope x:=by first | exact Or.inl rfl | exact Or.inr (Or.inl rfl) | exact Or.inr (Or.inr rfl))(hd:(x == ("__debug__" : Str))=false:=by decide)
  (iL:(x == ("__classdict__" : Str))=false:=by decide):PE X (.Name x pos) (zP i):=CW hN hv hd iL
end
theorem bD {A B:Prop}(h:B):if false=true then A else B:=by
 rw [zAv zAg];exact h
theorem bO {A B:Prop}(h:A):if true=true then A else B:=by
 rw [zAw rfl];exact h
theorem Ae {c A B:Prop}[Decidable c](h1:c->A)(h2:¬ c->B):if c then A else B:=by
 by_cases h:c
 ·rw [zAw h];exact h1 h
 ·rw [zAv h];exact h2 h
def Same (H H':Hp):Prop:=∀ b o,H b=some o->H' b=some o
theorem Same.refl (H:Hp):Same H H:=fun _ _ h=>h
theorem Same.trans {H H1 H2:Hp}(a:Same H H1)(b:Same H1 H2):Same H H2:=fun c o h=>b c o (a c o h)
theorem Same.free {H H':Hp}(e:Same H H'){l:Addr}(h:H' l=Option.none):H l=Option.none:=by
 cases q:H l with
 | none=>rfl
 | some o =>
  rw [e l o q] at h;cases h
theorem Same.seq {K:PySem.W.Frag}{H H':Hp}{a:Addr}{xs:List V}(e:Same H H')(h:SqL K H a xs):SqL K H' a xs:=by
 rcases h with (h | ⟨o,h⟩) | h
 ·exact .inl (.inl (e _ _ h))
 ·exact .inl (.inr ⟨o,e _ _ h⟩)
 ·exact .inr h
def fH (cells:List (Str×Addr)):List (Str×NameKind)->List (Str×Addr)->List (Str×Addr)
 | [],acc=>acc
 | (n,k)::r,acc=>fH cells r (if k=.free then (n,(cells.lookup n).getD 0)::acc else acc)
theorem nO {env:Env}:∀ (l:List (Str×NameKind)) (acc:List (Str×Addr)),(∀ p∈l,p.2=NameKind.free->(env.cells.lookup p.1).isSome=true) ->
  (forIn l acc fun (x:Str×NameKind) (r:List (Str×Addr))=>(if (x.2 == NameKind.free)=true then do let a <- cellOf env x.1;pure (ForInStep.yield ((x.1,a)::r)) else pure (ForInStep.yield r):Sem (ForInStep (List (Str×Addr)))))=pure (fH env.cells l acc)
 | [],acc,_=>rfl
 | (n,k)::r,acc,h=>by
  rw [List.forIn_cons];have ih:=fun a=>nO (env:=env) r a fun p hp=>h p (List.mem_cons_of_mem _ hp);by_cases hk:k=.free
  ·subst hk;have hs:=h (n,.free) List.mem_cons_self rfl;obtain ⟨c,hc⟩:=Option.isSome_iff_exists.mp hs;have e1:cellOf env n=pure c:=by unfold cellOf;rw [show env.cells.lookup n=some c from hc]
   have e2:fH env.cells ((n,.free)::r) acc=fH env.cells r ((n,c)::acc):=by
    show fH env.cells r (if NameKind.free=NameKind.free then (n,(env.cells.lookup n).getD 0)::acc else acc)=_;rw [zAw rfl,show env.cells.lookup n=some c from hc];rfl
   rw [e2];simp only [beq_self_eq_true,if_true,e1,pure_bind];exact ih _
  ·have hb:(k == NameKind.free)=false:=by simpa using hk
   have e2:fH env.cells ((n,k)::r) acc=fH env.cells r acc:=by
    show fH env.cells r (if k=NameKind.free then _ else acc)=_;rw [zAv hk]
   rw [e2];simp only [hb,Bool.false_eq_true,if_false,pure_bind];exact ih _
theorem uv {scope:Scope}{env:Env}(h:∀ p∈scope.names,p.2=NameKind.free->(env.cells.lookup p.1).isSome=true):closureFor scope env=pure (fH env.cells scope.names []):=by
 have e:=nO (env:=env) scope.names [] h;unfold closureFor;simp only [bind_pure];exact e
theorem qP {cells:List (Str×Addr)}{x:Str}{c:Addr}:∀ (l:List (Str×NameKind)) (acc:List (Str×Addr)),(∀ p∈l,p.2=NameKind.free->(cells.lookup p.1).isSome=true)->(fH cells l acc).lookup x=some c ->
  acc.lookup x=some c\/cells.lookup x=some c
 | [],_,_,h=>.inl h
 | (n,k)::r,acc,hf,h=>by
  have h':(fH cells r (if k=.free then (n,(cells.lookup n).getD 0)::acc else acc)).lookup x=some c:=h;rcases qP r _ (fun p hp=>hf p (List.mem_cons_of_mem _ hp)) h' with e | e
  ·by_cases hk:k=.free
   ·rw [zAw hk] at e;obtain ⟨d,hd⟩:=Option.isSome_iff_exists.mp (hf (n,k) List.mem_cons_self hk);rw [show cells.lookup n=some d from hd] at e;rw [List.lookup_cons] at e
    cases hx:x == n with
    | true =>
     rw [hx] at e;have:x=n:=by simpa using hx
     subst this;exact .inr (hd.trans (by simpa using e))
    | false =>
     rw [hx] at e;exact .inl e
   ·rw [zAv hk] at e;exact .inl e
  ·exact .inr e
theorem qQ {cells:List (Str×Addr)}{x:Str}:∀ (l:List (Str×NameKind)) (acc:List (Str×Addr)),((∃ k,(x,k)∈l/\k=NameKind.free)\/(∃ c,acc.lookup x=some c))->∃ c,(fH cells l acc).lookup x=some c
 | [],_,h=>by
  rcases h with ⟨k,hk,_⟩ | h
  ·exact absurd hk (by simp)
  ·exact h
 | (n,k)::r,acc,h=>by
  show ∃ c,(fH cells r (if k=.free then (n,(cells.lookup n).getD 0)::acc else acc)).lookup x=some c;refine qQ r _ ?_;rcases h with ⟨k',hk,e⟩ | ⟨c,hc⟩
  ·rcases zAo.mp hk with z | z
   ·cases z;refine .inr ?_;rw [zAw e];exact ⟨_,by rw [List.lookup_cons,beq_self_eq_true]⟩
   ·exact .inl ⟨k',z,e⟩
  ·refine .inr ?_;by_cases hk:k=.free
   ·rw [zAw hk,List.lookup_cons]
    cases hx:x == n with
    | true=>exact ⟨_,rfl⟩
    | false=>exact ⟨c,hc⟩
   ·rw [zAv hk];exact ⟨c,hc⟩
theorem jJ {scope:Scope}{env:Env}{x:Str}{k:NameKind}(hc:∀ p∈scope.names,p.2≠NameKind.cell)(h:(relabel scope env).names.lookup x=some k)(hk:k=.cell\/k=.free):∃ k',(x,k')∈scope.names/\k'=NameKind.free:=by
 have m:=PySem.mem_of_lookup h;obtain ⟨⟨n,k0⟩,hm,e⟩:=zA5.mp m;dsimp only at e;split at e
 ·rename_i c
  cases e
  have:(k0 == NameKind.free)=true:=by
   cases q:(k0 == NameKind.free) with
   | true=>rfl
   | false=>rw [q] at c;simp at c
  exact ⟨k0,hm,by simpa using this⟩
 ·cases e;rcases hk with z | z
  ·exact absurd z (hc _ hm)
  ·exact ⟨_,hm,z⟩
def cxC (X:Cx)(scope:Scope)(Nc:List Str)(C:Addr)(fp:List Addr)(pins:List (Addr×Obj))(s₂:Shared)(H₂:Hp):Cx where
 prog:=X.prog
 w:=X.w
 K:=X.K
 mg:=X.mg
 base:=X.base
 A:=X.A
 N:=Nc
 s₀:=s₂
 H₀:=H₂
 env:=compEnvC scope (fH X.env.cells scope.names []) C X.env
 outer:=X.stack
 stack:=X.stack
 ex:=fp
 fn:=fun _=>false
 calm:=X.calm
 pn:=X.pn++pins
 xe:=fun _ _=>False
def Caps (X:Cx)(aI:Env):List Str->List (Option Nat)->Prop
 | [],[]=>True
 | _::N,none::r=>Caps X aI N r
 | x::N,some i::r=>(X.N[i]?=some x/\(X.env.kindOf x=some .cell\/X.env.kindOf x=some .free)/\aI.cells.lookup x=X.env.cells.lookup x/\(aI.kindOf x=some .cell\/aI.kindOf x=some .free))/\Caps X aI N r
 | _,_=>False
def capσ (σ:St)(src:List (Option Nat)):St:=src.map fun o=>match o with | none=>none | some i=>(σ[i]?).join
theorem Caps.len {X:Cx}{aI:Env}:∀ {N:List Str} {src:List (Option Nat)},Caps X aI N src->src.length=N.length
 | [],[],_=>rfl
 | [],_::_,h=>h.elim
 | _::_,[],h=>h.elim
 | _::N,none::r,h=>by
  have h':Caps X aI N r:=h;have:=Caps.len (N:=N) (src:=r) h';simp [this]
 | _::N,some _::r,h=>by
  have:=Caps.len (N:=N) (src:=r) h.2;simp [this]
theorem Caps.get {X:Cx}{aI:Env}{x:Str}:∀ {N:List Str} {src:List (Option Nat)} {j i:Nat},Caps X aI N src->N[j]?=some x->src[j]?=some (some i) ->
  X.N[i]?=some x/\(X.env.kindOf x=some .cell\/X.env.kindOf x=some .free)/\aI.cells.lookup x=X.env.cells.lookup x/\(aI.kindOf x=some .cell\/aI.kindOf x=some .free)
 | [],[],_,_,_,e,_=>by simp at e
 | [],_::_,_,_,h,_,_=>h.elim
 | _::_,[],_,_,h,_,_=>h.elim
 | _::_,none::_,0,_,_,_,e=>by simp at e
 | _::N,none::r,j+1,_,h,e1,e2=>by
  have h':Caps X aI N r:=h;exact Caps.get (N:=N) (src:=r) (j:=j) h' (by simpa using e1) (by simpa using e2)
 | _::_,some _::_,0,_,h,e1,e2=>by
  simp at e1 e2;subst e1 e2;exact h.1
 | _::_,some _::_,j+1,_,h,e1,e2=>Caps.get (j:=j) h.2 (by simpa using e1) (by simpa using e2)
structure CScope (X:Cx)(scope:Scope):Prop where
 kind:scope.kind=.function
 cell:scope.names.all (fun p=>p.2 != .cell)=true
 names:scope.names.all (fun p=>p.2 != .local || scope.names.lookup p.1 == some .local)=true
 free:scope.names.all (fun p=>p.2 != .free || (X.env.cells.lookup p.1).isSome)=true
section
variable {X:Cx}{scope:Scope}
theorem CScope.hcell (S:CScope X scope):∀ p∈scope.names,p.2≠NameKind.cell:=fun p hp=>by
 have:=List.all_eq_true.mp S.cell p hp;simpa using this
theorem CScope.hnames (S:CScope X scope):∀ p∈scope.names,p.2=.local->scope.names.lookup p.1=some .local:=fun p hp e=>by
 have:=List.all_eq_true.mp S.names p hp;simpa [e] using this
theorem CScope.hfree (S:CScope X scope):∀ p∈scope.names,p.2=NameKind.free->(X.env.cells.lookup p.1).isSome=true:=fun p hp e=>by
 have:=List.all_eq_true.mp S.free p hp;simpa [e] using this
end
def PTs (X:Cx)(ifs:List Expr)(t:TT):Prop :=
 ∀ (pins:List (Addr×Obj)) (s:Shared) (σ:St) (H:Hp) (Q:Bool->Hp->Prop),Inv X pins σ H s->t σ H Q ->
  wpAny (model X.prog X.w) X.A (forIn ifs true fun c r=>if r=true then do let ok <- isTrue c X.env (eval c X.env);pure (ForInStep.yield ok) else pure (ForInStep.yield r)) (TP X pins σ Q) X.xe s
def vL:TT:=fun _ H Q=>Q true H
theorem bL {X:Cx}:PTs X [] vL:=fun _ _ _ H _ I h=>wpAny_tests_nil ⟨H,I,h⟩
theorem gf {X:Cx}{c:Expr}{t:TT}(h:PT X c t):PTs X [c] t:=fun pins s σ H Q I q=>wpAny_tests_one (h pins s σ H Q I q)
theorem pK {prog:Program}{w:World}{A:Around}{R:Result->Shared->Prop}{s:Shared}{elt target iter:Expr}{ifs:List Expr}{scope:Scope}{pos:Pos}{it acc:Value}{env:Env}(I:Nat->Shared->Prop)
  (turn:∀ n s,I n s->wpAny (model prog w) A (pyNext it) (fun r s₁=>match r with
   | none=>R (.ok .next) s₁
   | some v=>wpAny (model prog w) A (letOwnedTupleGo target it v) (fun _ mx=>wpAny (model prog w) A (assign target env v) (fun _ s₂ =>
     wpAny (model prog w) A (forIn ifs true fun c r=>if r=true then do let ok <- isTrue c env (eval c env);pure (ForInStep.yield ok) else pure (ForInStep.yield r)) (fun ok s₃ =>
      if ok=true then wpAny (model prog w) A (eval elt env) (fun x kP =>
       wpAny (model prog w) A (call (.builtin "list.append") [acc,x]) (fun _ vn=>∃ m,m < n/\I m vn) (fun _ _=>False) kP) (fun _ _=>False) s₃
      else ∃ m,m < n/\I m s₃) (fun _ _=>False) s₂) (fun _ _=>False) mx) (fun _ _=>False) s₁) (fun _ _=>False) s)
  (n:Nat) (h:I n s) :
  codeAny (model prog w) A (.compLoop (.ListComp elt [⟨target,iter,ifs,0⟩] scope pos) 0 it acc env) R s:=by
 refine codeAny_loop rfl I (fun n s hI=>?_) n h;show wpAny _ A ((compTurn (.ListComp elt [⟨target,iter,ifs,0⟩] scope pos) 0 it acc env).onRaise (fun x=>do noteFrame x env;theTreesLotGoes x)) _ _ s;refine wpAny_noted ?_;rw [compTurn_list];refine zAu (wpAny_standAt (zAu (wpAny_mono (turn n s hI) (fun r s₁ h₁=>?_) fun _ _ h'=>h'.elim)))
 cases r with
 | none=>exact zAz h₁
 | some v =>
  refine zAu (wpAny_mono h₁ (fun _ mx vt=>?_) fun _ _ h'=>h'.elim);refine zAu (wpAny_mono vt (fun _ s₂ iX=>zAu (wpAny_mono iX (fun ok s₃ kQ=>?_) fun _ _ h'=>h'.elim)) fun _ _ h'=>h'.elim)
  cases ok with
  | false=>exact zAz ⟨rfl,kQ⟩
  | true =>
   exact zAu (zAu (wpAny_mono kQ (fun x kP CA=>zAu (wpAny_mono CA (fun _ vn CB=>zAz (zAz ⟨rfl,CB⟩)) fun _ _ h'=>h'.elim)) fun _ _ h'=>h'.elim))
def kh (J:It)(g:TG)(tt:TT)(te:TE)(Fin:List V->Hp->Prop)(eJ:St)(H0:Hp):Prop :=
 ∃ W:Nat->Nat->List V->St->Hp->Prop,(∃ m,W 0 m [] eJ H0)/\∀ i m ys σ H,W i m ys σ H->ys.length < sizeLine /\
  ((J.stop i H/\Fin ys H)\/(J.go i H/\∀ x H',J.yld i H x H'->g x σ H' fun ay H2=>tt ay H2 fun b H3 =>
   if b=true then te ay H3 fun y H4=>∃ m',m' < m/\W (i+1) m' (ys++[y]) ay H4 else ∃ m',m' < m/\W (i+1) m' ys ay H3))
theorem nP {X:Cx}{tg iter elt:Expr}{ifs:List Expr}{scope:Scope}{pos:Pos}{Nc:List Str}{src:List (Option Nat)}{g:TG}{tt:TT}{te:TE}(hc:X.calm=true)(S:CScope X scope)
  (dQ:∀ C,Caps X (compEnvC scope (fH X.env.cells scope.names []) C X.env) Nc src)
  (hb:∀ C fp pins s₂ H₂,PG (cxC X scope Nc C fp pins s₂ H₂) tg g/\PTs (cxC X scope Nc C fp pins s₂ H₂) ifs tt/\PE (cxC X scope Nc C fp pins s₂ H₂) elt te)
  {pins:List (Addr×Obj)} {s₂:Shared} {σ:St} {H₂:Hp} {it:Addr} {fp:List Addr} {tn:Nat->Heap->Prop} {J:It} (av:Inv X pins σ H₂ s₂) (T:Turn X.prog X.w X.K tg J fp it tn) (st:tn 0 s₂.heap) (hf:∀ b∈fp,pF X pins H₂ b)
  {Fin:List V->Hp->Prop} (hW:kh J g tt te Fin (capσ σ src) H₂) {RR:Value->Addr->Result->Shared->Prop} {E:Value->Shared->Prop}
  (J7:∀ D C s' ys H' m,Fin ys H'->H' D=none->Inv X pins σ (upd H' D (.lst ys)) s'->s'.heap.Ns C m->pF X pins (upd H' D (.lst ys)) C->RR (.ref D) C (.ok .next) s') :
  wpAny (model X.prog X.w) X.A (newList []) (fun acc s₃=>wpAny (model X.prog X.w) X.A (newFunctionEnv scope X.env.globals (fH X.env.cells scope.names []) [] X.env.qual none .none (some X.env)) (fun vw kP =>
   codeAny (model X.prog X.w) X.A (.compStart (.ListComp elt [⟨tg,iter,ifs,0⟩] scope pos) 0 (.ref it) acc { vw with scope:=relabel scope X.env }) (RR acc vw.locals) kP) E s₃) E s₂:=by
 refine wpAny_newObj_type (wpAny_newFunctionEnv S.hcell (by intro y hy;simp at hy) (fun h₁ cK cb=>?_) S.kind);dsimp only at cK cb ⊢;generalize CC:s₂.heap.push { cls:=.type "list",dict:=none,data:=.seq ([]:List Value).toArray }=HH at cK cb ⊢;generalize mB:s₂.heap.objs.size=D at cK cb ⊢;have hC:HH.objs.size=D+1:=by rw [<- CC,Heap.size_push,mB]
 generalize Pw:HH.objs.size=C at cK cb hC ⊢;have AJ:D≠C:=by lia
 have below:∀ b,b < s₂.heap.objs.size->b≠C/\b≠D:=fun b hb=>by rw [mB] at hb;exact ⟨by rw [hC];exact zB8 (Nat.lt_succ_of_lt hb),zB8 hb⟩
 have aS:∀ {b o},s₂.heap.get? b=some o->b≠C/\b≠D:=fun {b o} e=>below b (zB0 e);have old:∀ b o,s₂.heap.get? b=some o->h₁.get? b=some o:=fun b o e=>cb.extBut b o (aS e).1 (zAx _ (CC ▸ zAx _ e));have cv:h₁.get? D=some { cls:=.type "list",data:=.seq ([]:List Value).toArray }:=cb.extBut _ _ AJ (zAx _ (CC ▸ mB ▸ zB1 _ rfl))
 have J8:∀ b∈fp,∃ o,s₂.heap.get? b=some o:=fun b hb=>let ⟨o,e,_⟩:=T.obj _ _ st b hb;⟨o,e⟩
 have AK:∀ b∈fp,b≠C/\b≠D:=fun b hb=>let ⟨o,e⟩:=J8 b hb;aS e
 have sub:∀ {x c},(fH X.env.cells scope.names []).lookup x=some c->X.env.cells.lookup x=some c:=fun {x c} e=>by
  rcases qP scope.names [] S.hfree e with z | z
  ·simp at z
  ·exact z
 have J9:∀ {b o},s₂.heap.get? b=some o->b < D:=fun {b o} e=>by rw [<- mB];exact zB0 e
 have fresh:∀ a,D<=a->H₂ a=none:=fun a ha=>av.hok.fresh (by rw [mB];exact ha)
 have mE:∀ {x c},X.env.cells.lookup x=some c->∃ o,s₂.heap.get? c=some o:=fun {x c} e=>let ⟨v,o,ho,_⟩:=av.cell x c e;⟨o,ho⟩
 have CD:∀ b∈frs X.stack,∃ o,s₂.heap.get? b=some o:=fun b hb=>by
  rcases zAo.mp (av.stkSub b hb) with e | hb
  ·rw [e];obtain ⟨m,⟨o,_,_,ho,_⟩,_⟩:=av.loc;exact ⟨o,ho⟩
  ·obtain ⟨_,o,ho,_⟩:=av.funs.mem hb;exact ⟨o,ho⟩
 have CF:∀ a,D<=a->a ∉ frs X.stack:=fun a ha hb=>by
  obtain ⟨o,e⟩:=CD a hb;exact absurd (zB4 (J9 e) ha) (Nat.lt_irrefl _)
 have HE:∀ b∈fp,b ∉ frs X.stack:=fun b hb z=>by
  obtain ⟨_,f1,f2,_⟩:=hf b hb;rcases zAo.mp (av.stkSub b z) with e | e
  ·exact f1 e
  ·exact f2 e
 generalize fq:cxC X scope Nc C fp pins s₂ H₂=X';obtain ⟨hg,ht,he⟩:=hb C fp pins s₂ H₂;rw [fq] at hg ht he
 have Ka:X'.Ok:=by
  subst fq;refine ⟨av.ok.mod,S.kind,av.ok.glob,av.ok.blt,?_,?_,?_,?_,av.ok.hd,av.ok.frames,.inl rfl,?_,av.bs,Nat.le_trans av.ok.bsz av.sz,?_,HE,av.stack,av.stkFree⟩
  ·show s₂.heap.objs.size<=C;lia
  ·exact fun x y c e1 e2=>av.ok.inj x y c (sub e1) (sub e2)
  ·intro x hx;have hx:(relabel scope X.env).names.lookup x=some .cell\/(relabel scope X.env).names.lookup x=some .free:=hx
   have:∃ k',(x,k')∈scope.names/\k'=NameKind.free:=by
    rcases hx with z | z
    ·exact jJ S.hcell z (.inl rfl)
    ·exact jJ S.hcell z (.inr rfl)
   exact qQ scope.names [] (.inl this)
  ·intro x c z;exact absurd z (by show ¬ (false=true);simp)
  ·intro b hb;exact ⟨(AK b hb).1,fun x c e=>(hf b hb).2.2.2.2.1 x c (sub e)⟩
  ·intro b o e hb;obtain ⟨_,_,_,f3,_⟩:=hf b hb;rcases f3 with z | z
   ·exact av.ok.noex b o e z
   ·exact absurd (zB4 (zB0 (av.ok.bs b o e).1) z) (Nat.lt_irrefl _)
 have eP:X'.prog=X.prog:=by subst fq;rfl
 have ew:X'.w=X.w:=by subst fq;rfl
 have eK:X'.K=X.K:=by subst fq;rfl
 have eA:X'.A=X.A:=by subst fq;rfl
 have eE:X'.xe=fun _ _=>False:=by subst fq;rfl
 have eL:X'.env.locals=C:=by subst fq;rfl
 have eN:X'.env=compEnvC scope (fH X.env.cells scope.names []) C X.env:=by subst fq;rfl
 have ec:X'.calm=true:=by subst fq;exact hc
 have eS:X'.s₀=s₂:=by subst fq;rfl
 have eH:X'.H₀=H₂:=by subst fq;rfl
 have ef:X'.fs=frs X.stack:=by subst fq;rfl
 have ex:X'.ex=fp:=by subst fq;rfl
 have ep:X'.pn=X.pn++pins:=by subst fq;rfl
 have I0:Inv X' [] (capσ σ src) H₂ { s₂ with heap:=h₁,toks:=s₂.toks+([]:List (Str×Value)).length }:=by
  refine ⟨Ka,by rw [eS],av.bare,by rw [eS,eH];exact Un.kept old,⟨_,by rw [eL];exact cK,?_⟩,?_,by rw [eL];exact fresh _ (by lia),?_,?_,by rw [eP,ew];exact av.hok.kept old,?_⟩
  ·intro j x v e1 e2 e3;have e1:Nc[j]?=some x:=by subst fq;exact e1
   have e4:∃ i,src[j]?=some (some i)/\(σ[i]?).join=some v:=by
    unfold capσ at e2;rw [zAb] at e2
    cases q:src[j]? with
    | none=>rw [q] at e2;cases e2
    | some o =>
     rw [q] at e2
     cases o with
     | none=>simp at e2
     | some i=>exact ⟨i,rfl,by simpa using e2⟩
   obtain ⟨i,e5,e6⟩:=e4;obtain ⟨c1,c2,c3,c4⟩:=(dQ C).get e1 e5
   have e7:σ[i]?=some (some v):=by
    cases q:σ[i]? with
    | none=>rw [q] at e6;simp at e6
    | some o=>rw [q] at e6;simp at e6;rw [e6]
   obtain ⟨m,_,hl⟩:=av.loc;obtain ⟨u,r,l⟩:=hl i x v c1 e7 (.inr (by rcases c2 with z | z;exact .inl z;exact .inr z));refine ⟨u,r,?_⟩;rcases l with ⟨k,_⟩ | ⟨_,c,e,z⟩
   ·rcases c2 with c2 | c2 <;> (rw [k] at c2;cases c2)
   ·refine .inr ⟨by rw [eN];exact c4,c,by rw [eN];exact c3.trans e,?_⟩;obtain ⟨o,ho,hd⟩:=z;exact ⟨o,old c o ho,hd⟩
  ·intro x c e;rw [eN] at e;obtain ⟨v,o,ho,hd⟩:=av.cell x c (sub e);exact ⟨v,o,old c o ho,hd⟩
  ·intro x c e;rw [eN] at e;exact av.freeC x c (sub e)
  ·intro p hp;rw [ep,zAn] at hp;obtain ⟨e,n,ne,nf,d⟩:=av.pin p hp;refine ⟨old _ _ e,n,by rw [eL];exact (aS e).1,?_,d⟩;rw [ef];intro z;rcases zAo.mp (av.stkSub _ z) with q | q
   ·exact ne q
   ·exact nf q
  ·have:=(dQ C).len;subst fq;show (capσ σ src).length=Nc.length;unfold capσ;rw [zA1,this]
 have Kb:∀ p∈X'.pn,p.1≠D:=fun p hp=>by
  rw [ep] at hp;exact (aS (av.pin p hp).1).2
 have vx:∀ x c,X'.env.cells.lookup x=some c->c≠D:=fun x c e=>by
  rw [eN] at e;obtain ⟨o,ho⟩:=mE (sub e);exact (aS ho).2
 have CH:∀ {P:List (Addr×Obj)} {H:Hp},(∀ p∈P,p.1=D)->(∀ b∈fp,H b=none)->∀ b∈fp,pF X' P H b:=fun {P H} hP hn b hb=>by
  refine ⟨hn b hb,by rw [eL];exact (AK b hb).1,by rw [ef];exact HE b hb,.inl (by rw [ex];exact hb),fun x c e=>?_,fun p hp=>?_⟩
  ·rw [eN] at e;exact (hf b hb).2.2.2.2.1 x c (sub e)
  ·rcases zA6.mp hp with z | z
   ·rw [ep] at z;exact (hf b hb).2.2.2.2.2 p z
   ·rw [hP p z];exact (AK b hb).2.symm
 obtain ⟨W,⟨m0,w0⟩,step⟩:=hW
 have loop:∀ s₃:Shared,s₃={ s₂ with heap:=h₁,toks:=s₂.toks+([]:List (Str×Value)).length } ->
   codeAny (model X.prog X.w) X.A (.compLoop (.ListComp elt [⟨tg,iter,ifs,0⟩] scope pos) 0 (.ref it) (.ref D) (compEnvC scope (fH X.env.cells scope.names []) C X.env)) (RR (.ref D) C) s₃:=by
  rintro s₃ rfl
  refine pK (fun n s'=>∃ i ys us k af H',Inv X' [] af H' s'/\tn i s'.heap/\(∀ b∈fp,H' b=none)/\H' D=none/\s'.heap.get? D=some { cls:=.type "list",data:=.seq (List.toArray us) k }/\Vals ys us/\W i n ys af H') ?_ m0
   ⟨0,[],[],_,_,_,I0,T.keep _ _ _ st fun b _ o e=>old b o e,fun b hb=>(hf b hb).1,fresh _ (zA3 _),cv,.nil,w0⟩
  rintro n s3 ⟨i,ys,us,k,iO,H3,I3,gy,u4,pe,Kc,AL,w3⟩;obtain ⟨hsz,pj⟩:=step i n ys iO H3 w3
  have HG:Inv X' [(D,{ cls:=.type "list",data:=.seq us.toArray k })] iO H3 s3:=I3.pins_of fun p hp=>by
   rw [List.mem_singleton.mp hp];exact ⟨Kc,pe,by rw [eL];exact AJ,by rw [ef];exact CF _ (zA3 _),fun v z=>by cases z⟩
  have pz:∀ p∈[(D,({ cls:=.type "list",data:=.seq us.toArray k }:Obj))],p.1=D:=fun p hp=>by rw [List.mem_singleton.mp hp]
  rcases pj with ⟨stop,fin⟩ | ⟨go,turn⟩
  ·-- the end
   have hd:=T.done X' eP ew eK ec i _ s3 iO H3 (fun _ _=>False) HG (CH pz u4) gy stop;rw [eA] at hd;refine thn hd fun r s4 ⟨hr,I4⟩=>?_;subst hr;have pD:=I4.pin (D,{ cls:=.type "list",data:=.seq us.toArray k }) (zBd _ (List.mem_singleton.mpr rfl));obtain ⟨mC,HI,_⟩:=I4.loc;rw [eL] at HI;have mI:=I4.base;rw [eS,eH,ef,ex] at mI;have hlen:ys.length<=sizeLine:=Nat.le_of_lt hsz
   have CI:HOk X.prog X.w (upd H3 D (.lst ys)) s4.heap:=fun b u e=>by
    by_cases hb:b=D
    ·subst hb;rw [aa] at e;cases e;exact ⟨hlen,us,k,AL,pD.1⟩
    ·rw [aC hb] at e;have z:=I4.hok b u e;rw [eP,ew] at z
     exact z.stay (fun c v _ q=>q) (fun c q=>by rw [aC (aD q pe)];exact q) fun c xs q=>by rw [aC (aD q pe)];exact q
   have un:Un (frs X.stack) fp H₂ (upd H3 D (.lst ys)) s₂.heap s4.heap:=⟨mI.keep,mI.slot,fun b o e n hx=>by rw [aC (aS e).2];exact mI.free b o e n hx,mI.there,
    fun b xs e=>by
     have z:=mI.tups b xs e
     rw [aC (aD z pe)];exact z,
    fun b o u e=>by
     have z:=mI.frzs b o u e
     rw [aC (aD z pe)];exact z,
    fun b ps e=>by
     obtain ⟨mo,z⟩:=mI.tbls b ps e
     exact ⟨mo,by rw [aC (aD z pe)];exact z⟩⟩
   have J4:Inv X pins σ (upd H3 D (.lst ys)) s4:=av.call' (ch:=fp) (by have:=I4.os;rw [eS] at this;exact this) un CI I4.bare fun b hb=>by
    obtain ⟨_,f1,f2,f3,f4,f5⟩:=hf b hb;exact ⟨f3,f1,f4,f5⟩
   refine J7 D C s4 ys H3 mC fin pe J4 HI ⟨?_,?_,?_,.inr ?_,?_,?_⟩
   ·rw [aC AJ.symm];have:=I4.free;rw [eL] at this;exact this
   ·have:=av.lt;rw [mB] at this;exact Nat.ne_of_gt (zB4 this (by rw [hC];exact Nat.le_succ _))
   ·intro z;obtain ⟨_,o,ho,_⟩:=av.funs.mem z;exact (aS ho).1 rfl
   ·have:=av.sz;rw [mB] at this;lia
   ·intro x c e z;obtain ⟨o,ho⟩:=mE e;exact (aS ho).1 z
   ·intro p hp z;exact (aS (av.pin p hp).1).1 z
  ·-- a turn
   have hd:=T.item X' eP ew eK ec i _ s3 iO H3 (fun _ _=>False) HG (CH pz u4) gy go;rw [eA] at hd;refine thn hd fun r s4 ⟨u,hr,h4⟩=>?_;subst hr;refine thn h4 fun _ s5 ⟨x,H5,I5,r5,y5,ot,BY⟩=>?_;have B0:=I5.pinned (CH pz BY) (T.obj _ _ ot);have HK:=hg _ s5 iO H5 x u _ B0 r5 (turn x H5 y5);rw [eP,ew,eA,eE,eN] at HK;refine thn HK fun _ s6 ⟨kM,H6,I6,q6⟩=>?_;have hZ:=ht _ s6 kM H6 _ I6 q6;rw [eP,ew,eA,eE,eN] at hZ;refine thn hZ fun okb s7 ⟨H7,I7,q7⟩=>?_
   have back:∀ {H8:Hp} {s8:Shared},Inv X' ([(D,({ cls:=.type "list",data:=.seq us.toArray k }:Obj))]++jV fp s5.heap) kM H8 s8 ->
     Inv X' [] kM H8 s8/\tn (i+1) s8.heap/\(∀ b∈fp,H8 b=none)/\H8 D=none/\s8.heap.get? D=some { cls:=.type "list",data:=.seq us.toArray k }/\(∀ b∈fp,∀ o,s5.heap.get? b=some o->s8.heap.get? b=some o):=fun {H8 s8} I8=>by
    have pD:=I8.pin (D,{ cls:=.type "list",data:=.seq us.toArray k }) (List.mem_append_right _ (List.mem_append_left _ (List.mem_singleton.mpr rfl)));have pf:∀ b∈fp,∀ o,s5.heap.get? b=some o->s8.heap.get? b=some o:=fun b hb o e=>(I8.pin (b,o) (List.mem_append_right _ (List.mem_append_right _ (gb hb e)))).1;refine ⟨I8.pins_of fun p hp=>absurd hp (by simp),T.keep _ _ _ ot pf,fun b hb=>?_,pD.2.1,pD.1,pf⟩;obtain ⟨o,e,d⟩:=T.obj _ _ ot b hb;exact (I8.pin (b,o) (List.mem_append_right _ (List.mem_append_right _ (gb hb e)))).2.1
   cases okb with
   | false =>
    obtain ⟨b1,b2,b3,b4,b5,_⟩:=back I7;obtain ⟨m',hm,w7⟩:=q7;exact ⟨m',hm,i+1,ys,us,k,kM,H7,b1,b2,b3,b4,b5,AL,w7⟩
   | true =>
    have sA:=he _ s7 kM H7 _ I7 q7;rw [eP,ew,eA,eE,eN] at sA;show wpAny _ _ (eval elt _) _ _ s7;refine thn sA fun xv s8 ⟨y,H8,I8,r8,m',hm,w8⟩=>?_;obtain ⟨b1,b2,b3,b4,b5,b6⟩:=back I8;refine append_at (hsz:=by rw [zA8,<- AL.length];exact Nat.le_of_lt hsz) b5 fun h9 HL Kd=>?_
    have I9:Inv X' [] kM H8 { s8 with heap:=h9 }:=b1.turned (t':=s8.toks) (fun b o hb e=>HL.extBut b o hb e) b4 (by rw [eL];exact AJ) (.inr (by rw [eS,mB];exact zA3 _)) vx fun p hp=>by
     rw [zAn] at hp;exact Kb p hp
    refine ⟨m',hm,i+1,ys++[y],us++[xv],k+1,kM,H8,I9,T.keep _ _ _ b2 fun b hb o e=>HL.extBut b o (AK b hb).2 e,b3,b4,?_,AL.append (.cons r8 .nil),w8⟩;show h9.get? D=_;rw [Kd,List.push_toArray]
 refine codeAny_compStart_list (loop _ rfl) ?_;exact T.self _ 0 _ _ _ (T.keep _ _ _ st fun b _ o e=>old b o e) (loop _ rfl)
def xF (wi:TI)(src:List (Option Nat))(g:TG)(tt:TT)(te:TE):TE:=fun σ H Q=>wi σ H fun J H1=>kh J g tt te (fun ys H'=>∀ D,H' D=none->Q (.ref D) (upd H' D (.lst ys))) (capσ σ src) H1
section
variable {X:Cx}{tg iter elt:Expr}{ifs:List Expr}{scope:Scope}{pos:Pos}{Nc:List Str}{wi:TI}{g:TG}{tt:TT}{te:TE}
theorem bH (Nc:List Str)(src:List (Option Nat))(hc:X.calm=true)(hi:PI X tg iter wi)
  (hb:∀ C fp pins s₂ H₂,PG (cxC X scope Nc C fp pins s₂ H₂) tg g/\PTs (cxC X scope Nc C fp pins s₂ H₂) ifs tt/\PE (cxC X scope Nc C fp pins s₂ H₂) elt te)
  (dQ:∀ C,Caps X (compEnvC scope (fH X.env.cells scope.names []) C X.env) Nc src) (S:CScope X scope)
  (hs:∀ x,foldedSetIterable iter X.env x=pure x:=by intro _;rfl):PE X (.ListComp elt [⟨tg,iter,ifs,0⟩] scope pos) (xF wi src g tt te):=by
 intro pins s σ H Q I h;rw [eval_ListComp];refine wpAny_comprehension_free (use:=none) rfl hs (uv S.hfree) S.kind S.hnames ?_;refine thn (hi pins s σ H _ I h) fun v s1 h1=>thn h1 fun AH s2 h2=>?_;obtain ⟨it,fp,tn,J,H2,e,I2,T,st2,f2,hW⟩:=h2;subst e;refine nP (RR:=fun acc C=>compPost (model X.prog X.w) X.A X.xe none (EP X pins σ Q) acc C) hc S dQ hb I2 T st2 f2 hW ?_;intro D C s' ys H' m fin nD J' hn fC;obtain ⟨f0,f1,_,f3,f4,f5⟩:=fC;refine ⟨m,hn,fun Ke pE=>?_⟩;exact ⟨.ref D,_,J'.turned (t':=s'.toks) (fun b o hb e=>pE.extBut b o hb e) f0 f1 f3 f4 f5,rfl,fin D nD⟩
def Ds (wi:TI)(src:List (Option Nat))(g:TG)(tt:TT)(te:TE)(i:Nat):TS:=fun D σ H=>xF wi src g tt te σ H fun v H'=>D.nx (σ.set i (some v)) H'
theorem ir {i:Nat}{x:Str}{pos' vE:Pos}(Nc:List Str)(src:List (Option Nat))(hc:X.calm=true)(hN:X.N.Nodup)(fw:X.N[i]?=some x)(hx:Loc X.env.scope x)(hi:PI X tg iter wi)
  (hb:∀ C fp pins s₂ H₂,PG (cxC X scope Nc C fp pins s₂ H₂) tg g/\PTs (cxC X scope Nc C fp pins s₂ H₂) ifs tt/\PE (cxC X scope Nc C fp pins s₂ H₂) elt te)
  (dQ:∀ C,Caps X (compEnvC scope (fH X.env.cells scope.names []) C X.env) Nc src) (S:CScope X scope)
  (Kf:swapsWith (.ListComp elt [⟨tg,iter,ifs,0⟩] scope pos) (some (.Name x pos')) vE.line X.env=pure true:=by rfl)
  (hf:X.fn x=true\/X.env.scope.names.lookup x=some .local:=by first | exact .inl rfl | exact .inr rfl | assumption)
  (hs:∀ x,foldedSetIterable iter X.env x=pure x:=by intro _;rfl):PS X (.Assign [.Name x pos'] (.ListComp elt [⟨tg,iter,ifs,0⟩] scope pos) vE) (Ds wi src g tt te i):=by
 intro pins s σ H D I h;rw [exec_Assign_Name_used _ _ _ _ Kf];refine zAu (wpAny_standAt (zAu ?_));show wpAny _ _ (do let _ <- comprehension (.ListComp elt [⟨tg,iter,ifs,0⟩] scope pos) scope X.env _ (newList []) false (eval iter X.env) (some (assign (.Name x pos') X.env))) _ _ s;refine zAu (thn (wpAny_comprehension_free (use:=some (assign (.Name x pos') X.env)) (Q:=fun _ s'=>∃ af H',Inv X pins af H' s'/\D.nx af H') rfl hs (uv S.hfree) S.kind S.hnames ?_) fun _ s' hq=>zAz (zAz hq));refine thn (hi pins s σ H _ I h) fun v s1 h1=>thn h1 fun AH s2 h2=>?_;obtain ⟨it,fp,tn,J,H2,e,I2,T,st2,f2,hW⟩:=h2;subst e;refine nP (RR:=fun acc C=>compPost (model X.prog X.w) X.A X.xe (some (assign (.Name x pos') X.env)) (fun _ s'=>∃ af H',Inv X pins af H' s'/\D.nx af H') acc C) hc S dQ hb I2 T st2 f2 hW ?_;intro A C s' ys H' m fin nD J' hn fC;obtain ⟨f0,f1,Px,f3,f4,f5⟩:=fC;refine wpAny_assign_Name (nu J' hN fw hx (v:=.ref A) rfl (fun sv Kg Kh=>?_) hf)
 have pd:∃ m',sv.heap.Ns C m':=by
  obtain ⟨a,sb,ha⟩:=Kh
  have fI:C≠a:=by
   rcases ha with z | z
   ·rw [z];exact f1
   ·exact fun q=>f4 x a z q.symm
  exact ⟨m,hn.sameBut sb fI⟩
 obtain ⟨m',pd⟩:=pd;refine ⟨m',pd,fun Ke pE=>?_⟩;exact ⟨_,_,Kg.turned (t':=sv.toks) (fun b o hb e=>pE.extBut b o hb e) f0 f1 f3 f4 f5,fin A nD⟩
end
section
variable {X:Cx}
theorem gK:dX X (.builtin "isinstance") (fun xs H Q=>∃ x t n b,xs=[x,.ty n]/\TyOf X.K H x t/\PySem.W.kitOne X.K t (.type n)=some b/\Q (.bl b) H):=by
 intro pins s σ H xs us Q I r h;obtain ⟨x,t,n,b,rfl,ty,e,q⟩:=h;obtain ⟨u,c,rfl,ru,rc⟩:=vals2 r;obtain rfl:c=Value.type n:=rc
 exact vG I ru ty e fun tk=>⟨.bl b,H,I.tok _,rfl,q⟩
theorem qR {prog:Program}{w:World}{A:Around}(bs:List Bool):TruthOf prog w A (fun i v=>∃ b,bs[i]?=some b/\v=Value.bool b) (fun i=>(bs[i]?).getD false):=by
 intro i v s Q E hP hQ;obtain ⟨b,hb,rfl⟩:=hP;dsimp only at hQ;rw [hb] at hQ;exact wpAny_truthy_bool hQ
theorem all_range (bs:List Bool):(List.range bs.length).all (fun i=>(bs[i]?).getD false)=bs.all id:=by
 apply Bool.eq_iff_iff.mpr;rw [List.all_eq_true,List.all_eq_true];constructor
 ·intro h b hb;obtain ⟨i,hi,e⟩:=List.getElem_of_mem hb;have:=h i (List.mem_range.mpr hi);rw [zA0 hi,e] at this;exact this
 ·intro h i hi;have hi:=List.mem_range.mp hi;rw [zA0 hi];exact h _ (zAh hi)
theorem km:∀ {bs:List Bool} {us:List Value},Vals (bs.map V.bl) us->us=bs.map Value.bool
 | [],_,.nil=>rfl
 | _::bs,_,.cons r t=>by
  rw [km (bs:=bs) t,show _=Value.bool _ from r];rfl
theorem eV (hc:X.calm=true):dX X (.builtin "all") (fun xs H Q=>∃ (p:Addr) (bs:List Bool),xs=[.ref p]/\SqL X.K H p (bs.map V.bl)/\Q (.bl (bs.all id)) H):=by
 intro pins s σ H xs us Q I r h;obtain ⟨p,bs,rfl,hq,q⟩:=h;obtain ⟨u,rfl,ru⟩:=vals1 r;cases ru;obtain ⟨its,rv,pl,hz⟩:=I.list hq;have ei:=km rv;subst ei;have ax:p < s.heap.objs.size:=by obtain ⟨_,e,_⟩:=pl.isList;exact zB0 e
 refine call_all_walk (wpAny_pyIter_list pl.isList ?_);have W:=Walks.list (prog:=X.prog) (w:=X.w) (A:=X.A.in1) (I.ok.hd hc) s.heap.objs.size p (zB8 ax) (bs.map Value.bool).toArray;refine ⟨_,_,_,_,_,_,_,rfl,{ sub:=W.sub,frame:=W.frame,item:=fun i s Q E hi st hQ=>W.item i s Q E hi st fun v h' tk hP=>hQ v h' tk ?_,done:=W.done,self:=W.self },⟨⟨_,zB1 _ rfl,rfl,rfl⟩,pl.isList.push _⟩,qR bs,fun h' tk k=>?_⟩
 ·have vF:(bs.map Value.bool).toArray[i]?=some v:=hP;rw [List.getElem?_toArray,zAb] at vF
  cases e:bs[i]? with
  | none=>rw [e] at vF;cases vF
  | some b=>rw [e] at vF;exact ⟨b,rfl,(zAl vF).symm⟩
 ·have hsz:(bs.map Value.bool).toArray.size=bs.length:=by simp
  rw [hsz,all_range];refine ⟨.bl _,H,?_,rfl,q⟩;refine I.kept (h':=h') (t':=tk) fun b o e=>k b o ?_ (Heap.get?_push_of_some _ e);intro z;have:b=s.heap.objs.size:=by simpa using z
  exact absurd (zB0 e) (by rw [this];exact Nat.lt_irrefl _)
end
theorem ju {K:PySem.W.Frag}:PySem.W.kitOne K (.type "NoneType") (.type "int")=some false:=by kernel_rfl
theorem iZ {K:PySem.W.Frag}:PySem.W.kitOne K (.type "NoneType") (.type "bool")=some false:=by kernel_rfl
theorem iD {K:PySem.W.Frag}:PySem.W.kitOne K (.type "NoneType") (.type "tuple")=some false:=by kernel_rfl
theorem pL {K:PySem.W.Frag}:PySem.W.kitOne K (.type "bool") (.type "int")=some true:=by kernel_rfl
theorem mK {K:PySem.W.Frag}:PySem.W.kitOne K (.type "bool") (.type "bool")=some true:=by kernel_rfl
theorem kE {K:PySem.W.Frag}:PySem.W.kitOne K (.type "bool") (.type "tuple")=some false:=by kernel_rfl
theorem qT {K:PySem.W.Frag}:PySem.W.kitOne K (.type "int") (.type "int")=some true:=by kernel_rfl
theorem pM {K:PySem.W.Frag}:PySem.W.kitOne K (.type "int") (.type "bool")=some false:=by kernel_rfl
theorem mL {K:PySem.W.Frag}:PySem.W.kitOne K (.type "int") (.type "tuple")=some false:=by kernel_rfl
theorem qU {K:PySem.W.Frag}:PySem.W.kitOne K (.type "str") (.type "int")=some false:=by kernel_rfl
theorem pN {K:PySem.W.Frag}:PySem.W.kitOne K (.type "str") (.type "bool")=some false:=by kernel_rfl
theorem mO {K:PySem.W.Frag}:PySem.W.kitOne K (.type "str") (.type "tuple")=some false:=by kernel_rfl
theorem pO {K:PySem.W.Frag}:PySem.W.kitOne K (.type "list") (.type "int")=some false:=by kernel_rfl
theorem mQ {K:PySem.W.Frag}:PySem.W.kitOne K (.type "list") (.type "bool")=some false:=by kernel_rfl
theorem kI {K:PySem.W.Frag}:PySem.W.kitOne K (.type "list") (.type "tuple")=some false:=by kernel_rfl
theorem mR {K:PySem.W.Frag}:PySem.W.kitOne K (.type "tuple") (.type "int")=some false:=by kernel_rfl
theorem kJ {K:PySem.W.Frag}:PySem.W.kitOne K (.type "tuple") (.type "bool")=some false:=by kernel_rfl
theorem jN {K:PySem.W.Frag}:PySem.W.kitOne K (.type "tuple") (.type "tuple")=some true:=by kernel_rfl
theorem pP {K:PySem.W.Frag}:PySem.W.kitOne K (.type "dict") (.type "int")=some false:=by kernel_rfl
theorem mU {K:PySem.W.Frag}:PySem.W.kitOne K (.type "dict") (.type "bool")=some false:=by kernel_rfl
theorem kW {K:PySem.W.Frag}:PySem.W.kitOne K (.type "dict") (.type "tuple")=some false:=by kernel_rfl
section
variable {κ:Type}[DecidableEq κ]
def cF (kvs:List (κ×V))(k:κ):Option V:=(kvs.find? fun kv=>decide (kv.1=k)).map (·.2)
def putK (kvs:List (κ×V))(k:κ)(v:V):List (κ×V) :=
 if (kvs.any fun kv=>decide (kv.1=k))=true then kvs.map (fun kv=>if kv.1=k then (kv.1,v) else kv) else kvs++[(k,v)]
theorem cR {p:κ×V}{r:List (κ×V)}{k:κ}(e:p.1=k):cF (p::r) k=some p.2:=by simp [cF,List.find?_cons,e]
theorem cT {p:κ×V}{r:List (κ×V)}{k:κ}(e:¬ p.1=k):cF (p::r) k=cF r k:=by simp [cF,List.find?_cons,e]
theorem dJ (k:κ):∀ kvs:List (κ×V),(kvs.any fun kv=>decide (kv.1=k))=(cF kvs k).isSome
 | []=>rfl
 | p::r=>by
  rw [List.any_cons];by_cases e:p.1=k
  ·simp only [cR e,decide_eq_true e,Bool.true_or,Option.isSome_some]
  ·rw [cT e,zB2 e,Bool.false_or];exact dJ k r
theorem qW (k j:κ)(y:V):∀ kvs:List (κ×V),cF (kvs.map fun kv=>if kv.1=k then (kv.1,y) else kv) j=(cF kvs j).map fun x=>if j=k then y else x
 | []=>rfl
 | p::r=>by
  have ih:=qW k j y r;rw [zAk];by_cases h:p.1=k
  ·rw [zAw h];by_cases e:p.1=j
   ·rw [cR (p:=(p.1,y)) e,cR e,Option.map_some,zAw (e.symm.trans h)]
   ·rw [cT (p:=(p.1,y)) e,cT e,ih]
  ·rw [zAv h];by_cases e:p.1=j
   ·rw [cR (p:=p) e,cR e,Option.map_some,zAv (fun z=>h (e.trans z))]
   ·rw [cT (p:=p) e,cT e,ih]
theorem nQ (k j:κ)(y:V):∀ kvs:List (κ×V),cF kvs k=none->cF (kvs++[(k,y)]) j=if j=k then some y else cF kvs j
 | [],_=>by
  by_cases e:k=j
  ·rw [zAw e.symm];exact cR (p:=(k,y)) e
  ·rw [zAv (fun z=>e z.symm)];exact cT (p:=(k,y)) e
 | p::r,hn=>by
  rw [List.cons_append]
  have hk:¬ p.1=k:=fun z=>by rw [cR z] at hn;cases hn
  rw [cT hk] at hn;have ih:=nQ k j y r hn;by_cases e:p.1=j
  ·rw [cR e,cR e,zAv (fun z=>hk (e.trans z))]
  ·rw [cT e,cT e,ih]
theorem fQ (kvs:List (κ×V))(k j:κ)(y:V):cF (putK kvs k y) j=if j=k then some y else cF kvs j:=by
 unfold putK;by_cases a:(kvs.any fun kv=>decide (kv.1=k))=true
 ·rw [zAw a,qW];rw [dJ] at a;by_cases e:j=k
  ·obtain ⟨x,hx⟩:=Option.isSome_iff_exists.mp a;rw [zAw e,e,hx,Option.map_some,zAw rfl]
  ·rw [zAv e]
   cases cF kvs j with
   | none=>rfl
   | some x=>rw [Option.map_some,zAv e]
 ·rw [zAv a];refine nQ k j y kvs ?_;rw [dJ] at a
  cases q:cF kvs k with
  | none=>rfl
  | some x=>rw [q] at a;exact (a rfl).elim
theorem jK (kvs:List (κ×V))(k:κ)(v:V):(putK kvs k v).length<=kvs.length+1:=by
 unfold putK;split
 ·rw [zA1];lia
 ·rw [zA2,zAe,List.length_nil];lia
theorem kY {kvs:List (κ×V)}{k:κ}(v:V)(h:cF kvs k=none):putK kvs k v=kvs++[(k,v)]:=by
 unfold putK;rw [dJ,h];exact zAv (by decide)
theorem RelO.isSome_eq {o:Option V}{u:Option Value}(r:RelO o u):o.isSome=u.isSome:=by
 cases o with
 | none=>cases u with
  | none=>rfl
  | some _=>exact (show False from r).elim
 | some _=>cases u with
  | none=>exact (show False from r).elim
  | some _=>rfl
theorem RelO.getD {o:Option V}{u:Option Value}{d:V}{d':Value}(r:RelO o u)(rd:RelV d d'):RelV (o.getD d) (u.getD d'):=by
 cases o with
 | none=>cases u with
  | none=>exact rd
  | some _=>exact (show False from r).elim
 | some _=>cases u with
  | none=>exact (show False from r).elim
  | some _=>exact r
theorem KV.val {kvs:List (κ×V)}{vs:List (κ×Value)}(r:KV kvs vs)(k:κ):RelO (cF kvs k) (valueAt vs k):=by
 unfold KV at r
 induction r with
 | nil=>exact True.intro
 | @cons p q ps qs h t ih =>
  obtain ⟨h1,h2⟩:=h;by_cases e:p.1=k
  ·have e':q.1=k:=h1.symm.trans e;have b:valueAt (q::qs) k=some q.2:=by simp [valueAt,List.find?_cons,e']
   rw [cR e,b];exact h2
  ·have e':¬ q.1=k:=fun z=>e (h1.trans z);have b:valueAt (q::qs) k=valueAt qs k:=by simp [valueAt,List.find?_cons,e']
   rw [cT e,b];exact ih
theorem KV.any {kvs:List (κ×V)}{vs:List (κ×Value)}(r:KV kvs vs)(k:κ):(kvs.any fun kv=>decide (kv.1=k))=vs.any fun kv=>decide (kv.1=k):=by
 unfold KV at r
 induction r with
 | nil=>rfl
 | cons h t ih=>rw [List.any_cons,List.any_cons,ih,h.1]
theorem KV.repl {kvs:List (κ×V)}{vs:List (κ×Value)}(r:KV kvs vs)(k:κ){y:V}{u:Value}(ry:RelV y u) :
  KV (kvs.map fun kv=>if kv.1=k then (kv.1,y) else kv) (vs.map fun kv=>if kv.1=k then (kv.1,u) else kv):=by
 unfold KV at r ⊢
 induction r with
 | nil=>exact .nil
 | @cons p q ps qs h t ih =>
  rw [zAk,zAk];refine .cons ?_ ih;obtain ⟨h1,h2⟩:=h;by_cases e:p.1=k
  ·rw [zAw e,zAw (h1.symm.trans e)];exact ⟨h1,ry⟩
  ·rw [zAv e,zAv (fun z=>e (h1.trans z))];exact ⟨h1,h2⟩
theorem KV.put {kvs:List (κ×V)}{vs:List (κ×Value)}(r:KV kvs vs)(k:κ){y:V}{u:Value}(ry:RelV y u):KV (putK kvs k y) (stored vs k u):=by
 unfold putK stored;rw [r.any k];by_cases e:(vs.any fun kv=>decide (kv.1=k))=true
 ·rw [zAw e,zAw e];exact r.repl k ry
 ·rw [zAv e,zAv e];exact Paired.snoc r ⟨rfl,ry⟩
theorem KV.length {kvs:List (κ×V)}{vs:List (κ×Value)}(r:KV kvs vs):kvs.length=vs.length:=Paired.length r
end
theorem qX {P:Program}{w:World}{k:Key}{u:Value}(r:RelV (kV k) u):(bJ P w).is k u=true:=by
 cases k with
 | inl i=>obtain ⟨t,e⟩:=(show ∃ t,u=Value.int i t from r);subst e;exact qH P w i t
 | inr x=>obtain ⟨t,e⟩:=(show ∃ t,u=Value.str x t from r);subst e;exact qI P w x t
theorem nR {P:Program}{w:World}:∀ {ks:List Key} {us:List Value},Vals (ks.map kV) us->ItemsAre (bJ P w) ks us
 | [],_,r=>by rw [List.map_nil] at r;cases r;exact .nil
 | k::ks,_,r=>by
  rw [zAk] at r
  cases r with
  | cons h t=>exact .cons (qX h) (nR t)
abbrev KT (H:Hp):List (List Key×V)->List (List Key×Addr×Value)->Prop:=Paired fun p q=>p.1=q.1/\H q.2.1=some (.tup (p.1.map kV))/\RelV p.2 q.2.2
theorem KT.val {H:Hp}{kvs:List (List Key×V)}{xs:List (List Key×Addr×Value)}(r:KT H kvs xs)(k:List Key):RelO (cF kvs k) ((atKey xs k).map (·.2)):=by
 induction r with
 | nil=>exact True.intro
 | @cons p q ps qs h t ih =>
  obtain ⟨h1,_,h2⟩:=h;by_cases e:p.1=k
  ·have e':q.1=k:=h1.symm.trans e;have b:atKey (q::qs) k=some q.2:=by simp [atKey,List.find?_cons,e']
   rw [cR e,b];exact h2
  ·have e':¬ q.1=k:=fun z=>e (h1.trans z);have b:atKey (q::qs) k=atKey qs k:=by simp [atKey,List.find?_cons,e']
   rw [cT e,b];exact ih
theorem KT.repl {H:Hp}{kvs:List (List Key×V)}{xs:List (List Key×Addr×Value)}(r:KT H kvs xs)(k:List Key){y:V}{u:Value}(ry:RelV y u) :
  KT H (kvs.map fun kv=>if kv.1=k then (kv.1,y) else kv) (xs.map (putAt k u)):=by
 induction r with
 | nil=>exact .nil
 | @cons p q ps qs h t ih =>
  rw [zAk,zAk];refine .cons ?_ ih;obtain ⟨h1,h2,h3⟩:=h;unfold putAt;by_cases e:p.1=k
  ·rw [zAw e,zAw (h1.symm.trans e)];exact ⟨h1,h2,ry⟩
  ·rw [zAv e,zAv (fun z=>e (h1.trans z))];exact ⟨h1,h2,h3⟩
theorem KT.put {H:Hp}{kvs:List (List Key×V)}{xs:List (List Key×Addr×Value)}(r:KT H kvs xs)(k:List Key){b:Addr}{y:V}{u:Value}(hb:H b=some (.tup (k.map kV)))(ry:RelV y u) :
  KT H (putK kvs k y) (storedH xs k b u):=by
 have e:(kvs.any fun kv=>decide (kv.1=k))=(atKey xs k).isSome:=by
  rw [dJ,(r.val k).isSome_eq,Option.isSome_map]
 unfold putK storedH;rw [e];by_cases q:(atKey xs k).isSome=true
 ·rw [zAw q,zAw q];exact r.repl k ry
 ·rw [zAv q,zAv q];exact Paired.snoc r ⟨rfl,hb,ry⟩
theorem KT.keeps {H H':Hp}{kvs:List (List Key×V)}{xs:List (List Key×Addr×Value)}(r:KT H kvs xs)(ht:∀ b ys,H b=some (.tup ys)->H' b=some (.tup ys)):KT H' kvs xs :=
 Paired.mapP r fun _ _ z=>⟨z.1,ht _ _ z.2.1,z.2.2⟩
section
variable {P:Program}{w:World}{H:Hp}{h:Heap}{a:Addr}
theorem Cd {u:HO}(ok:HOk P w H h)(e:Rd H a u):ObjOk P w H h a u:=e.ok ok
theorem nU {kvs:List (Key×V)}(ok:HOk P w H h)(e:Rd H a (.dK kvs)):kvs.length<=sizeLine/\(a == sysModules)=false/\∃ vs,KV kvs vs/\h.DictOf (bJ P w) a vs :=
 show ObjOk P w H h a (.dK kvs) from Cd ok e
theorem Fp {kvs:List (Key×V)}(ok:HOk P w H h)(e:H a=some (.dK kvs)):kvs.length<=sizeLine/\(a == sysModules)=false/\∃ vs,KV kvs vs/\h.DictOf (bJ P w) a vs:=nU ok (.inl e)
theorem kZ {ks:List Key}(ok:HOk P w H h)(e:H a=some (.tup (ks.map kV))):(tupleKind (bJ P w)).is h ks a:=by
 obtain ⟨_,its,r,o,h1,h2,n,h3⟩:=(show ObjOk P w H h a (.tup (ks.map kV)) from ok a _ e)
 exact ⟨o,its.toArray,n,h1,h2,h3,by simpa using nR r⟩
theorem nW {kvs:List (List Key×V)}(ok:HOk P w H h)(e:Rd H a (.dT kvs)):kvs.length<=sizeLine/\(a == sysModules)=false /\
  ∃ xs,KT H kvs xs/\h.DictOfH (tupleKind (bJ P w)) a xs:=by
 obtain ⟨z,y,xs,r,o,es,ep,h1,h2,h3,h4,h5⟩:=(show ObjOk P w H h a (.dT kvs) from Cd ok e)
 refine ⟨z,y,xs,r,o,es,ep,h1,h2,h3,h4,fun x hx=>?_,h5⟩
 have all:∀ {l:List (List Key×V)} {m:List (List Key×Addr×Value)},KT H l m->∀ x∈m,(tupleKind (bJ P w)).is h x.1 x.2.1:=by
  intro l m q
  induction q with
  | nil=>intro x hx;exact nomatch hx
  | @cons p q ps qs hq t ih =>
   intro x hx;rcases zAo.mp hx with e | hx
   ·subst e;exact kZ ok (by rw [<- hq.1];exact hq.2.1)
   ·exact ih x hx
 exact all r x hx
theorem Fq {kvs:List (List Key×V)}(ok:HOk P w H h)(e:H a=some (.dT kvs)):kvs.length<=sizeLine/\(a == sysModules)=false /\
  ∃ xs,KT H kvs xs/\h.DictOfH (tupleKind (bJ P w)) a xs:=nW ok (.inl e)
end
def DGet (H:Hp)(a:Addr)(y:V)(r:Option V):Prop :=
 (∃ kvs k,Rd H a (.dK kvs)/\y=kV k/\r=cF kvs k)\/∃ kvs k b,Rd H a (.dT kvs)/\y=.ref b/\H b=some (.tup (k.map kV))/\r=cF kvs k
def DPut (H:Hp)(a:Addr)(y v:V)(H':Hp):Prop :=
 (∃ kvs k,H a=some (.dK kvs)/\y=kV k/\kvs.length < sizeLine/\H'=upd H a (.dK (putK kvs k v))) \/
 ∃ kvs k b,H a=some (.dT kvs)/\y=.ref b/\H b=some (.tup (k.map kV))/\kvs.length < sizeLine/\H'=upd H a (.dT (putK kvs k v))
theorem DGet.t {H:Hp}{a b:Addr}{kvs:List (List Key×V)}{k:List Key}(e:H a=some (.dT kvs))(eb:H b=some (.tup (k.map kV))):DGet H a (.ref b) (cF kvs k):=.inr ⟨kvs,k,b,.inl e,rfl,eb,rfl⟩
theorem DPut.t {H:Hp}{a b:Addr}{kvs:List (List Key×V)}{k:List Key}{v:V}(e:H a=some (.dT kvs))(eb:H b=some (.tup (k.map kV)))(hl:kvs.length < sizeLine) :
  DPut H a (.ref b) v (upd H a (.dT (putK kvs k v))):=.inr ⟨kvs,k,b,e,rfl,eb,hl,rfl⟩
section
variable {X:Cx}{pins:List (Addr×Obj)}{σ:St}{H:Hp}{s:Shared}{a:Addr}{y v:V}{u r:Value}{o:Option V}{A:Around}{E:Value->Shared->Prop}
theorem Inv.big (I:Inv X pins σ H s):sysModules < s.heap.objs.size:=by
 have h:mainGlobals < s.heap.objs.size:=(I.mod.glob.keeps I.bk).lt;exact Nat.lt_trans (by decide) h
theorem vM {Q:Value->Shared->Prop}(hu:A.units+1 < cLine)(I:Inv X pins σ H s)(g:DGet H a y (some v))(ry:RelV y u)(h:∀ w' s',Inv X pins σ H s'->RelV v w'->Q w' s') :
  wpAny (model X.prog X.w) A (getItem (.ref a) u) Q E s:=by
 rcases g with ⟨kvs,k,e,ey,l⟩ | ⟨kvs,k,b,e,ey,eb,l⟩
 ·subst ey;obtain ⟨z,hd,vs,rel,dd⟩:=nU I.hok e;obtain ⟨w',hw,eI⟩:=RelO.some_of (v:=v) (o:=valueAt vs k) (by rw [l];exact rel.val k);exact wpAny_getItem_of (qX ry) dd.mapOf hw (h w' _ (I.tok _) eI)
 ·subst ey;cases (show u=Value.ref b from ry);obtain ⟨z,hd,xs,rel,dd⟩:=nW I.hok e;obtain ⟨w',hw,eI⟩:=RelO.some_of (v:=v) (o:=(atKey xs k).map (·.2)) (by rw [l];exact rel.val k);obtain ⟨p,hp,mM⟩:=Option.map_eq_some_iff.mp hw;refine wpAny_getItem_heap (tupleKind_room_in1 hu) (kZ I.hok eb) dd hp ?_;rw [mM];exact h w' _ (I.tok _) eI
theorem Af {Q:Value->Shared->Prop}(hu:A.units+1 < cLine)(I:Inv X pins σ H s)(g:DGet H a y o)(ry:RelV y u)(h:∀ s',Inv X pins σ H s'->Q (.bool (!o.isSome)) s') :
  wpAny (model X.prog X.w) A (compareOp .NotIn u (.ref a)) Q E s:=by
 rcases g with ⟨kvs,k,e,ey,l⟩ | ⟨kvs,k,b,e,ey,eb,l⟩
 ·subst ey;obtain ⟨z,hd,vs,rel,dd⟩:=nU I.hok e;refine wpAny_notIn_of (qX ry) hd dd.mapOf ?_;rw [<- (rel.val k).isSome_eq,<- l];exact h _ (I.tok _)
 ·subst ey;cases (show u=Value.ref b from ry);obtain ⟨z,hd,xs,rel,dd⟩:=nW I.hok e;refine wpAny_notIn_heap (tupleKind_room_in1 hu) (kZ I.hok eb) hd dd ?_;have q:=(rel.val k).isSome_eq;rw [Option.isSome_map] at q;rw [<- q,<- l];exact h _ (I.tok _)
theorem uw {h':Heap}{t':Nat}{ob:HO}(I:Inv X pins σ H s)(mu:Mut (H a))(hs:Heap.SameBut a s.heap h')(he:∃ q,h'.get? a=some q)(new:ObjOk X.prog X.w (upd H a ob) h' a ob) :
  Inv X pins σ (upd H a ob) { s with heap:=h',toks:=t' } :=
 I.write (x:=a) (e:=a) mu (.inl rfl) (fun b q hb z=>(hs.2 b hb).trans z) he new
theorem Dt {P:Program}{w:World}{H':Hp}{h':Heap}{kvs:List (Key×V)}{vs:List (Key×Value)}(z:kvs.length<=sizeLine)(hd:(a == sysModules)=false)(rel:KV kvs vs)(dd:h'.DictOf (bJ P w) a vs) :
  ObjOk P w H' h' a (.dK kvs):=⟨z,hd,vs,rel,dd⟩
theorem vN {H':Hp}{Q:Unit->Shared->Prop}(hu:A.units+1 < cLine)(I:Inv X pins σ H s)(g:DPut H a y v H')(ry:RelV y u)(rv:RelV v r)(h:∀ s',Inv X pins σ H' s'->Q () s') :
  wpAny (model X.prog X.w) A (setItem (.ref a) u r) Q E s:=by
 rcases g with ⟨kvs,k,e,ey,l,eH⟩ | ⟨kvs,k,b,e,ey,eb,l,eH⟩
 ·subst ey eH;obtain ⟨z,hd,vs,rel,dd⟩:=Fp I.hok e;have hz:vs.length<=sizeLine:=by rw [<- rel.length];exact z
  have hl:(putK kvs k v).length<=sizeLine:=by have:=jK kvs k v;lia
  refine wpAny_setItem_pairs (hsz:=hz) (qX ry) dd fun h' AM hs=>h _ ?_
  have he:∃ q,h'.get? a=some q:=let ⟨q,_,_,hq,_⟩:=AM;⟨q,hq⟩
  exact uw I (by rw [e];exact True.intro) hs he (Dt hl hd (rel.put k rv) AM)
 ·subst ey eH;cases (show u=Value.ref b from ry);obtain ⟨z,hd,xs,rel,dd⟩:=Fq I.hok e;have hz:xs.length<=sizeLine:=by rw [<- Paired.length rel];exact z
  have hl:(putK kvs k v).length<=sizeLine:=by have:=jK kvs k v;lia
  refine wpAny_setItem_heap (hsz:=hz) (tupleKind_room_in1 hu) (kZ I.hok eb) dd fun h' AM hs=>h _ ?_;obtain ⟨q,es,ep,hq,h2,h3,h4,_,h5⟩:=AM;refine uw I (by rw [e];exact True.intro) hs ⟨q,hq⟩ ⟨hl,hd,_,(rel.put k eb rv).keeps fun c ys ec=>?_,q,es,ep,hq,h2,h3,h4,h5⟩;rw [aC (Er ec e (fun z=>nomatch z))];exact ec
end
section
variable {X:Cx}{pins:List (Addr×Obj)}{σ:St}{H:Hp}{s:Shared}{a:Addr}{kvs:List (Key×V)}{k:Key}{u:Value}{A:Around}{E:Value->Shared->Prop}
end
def Ft (i:Expr):Prop:=∀ ov iv,subscripted i false ov iv=operate [ov,iv] (getItem ov iv)
theorem Ag {prog:Program}{w:World}{A:Around}{E:Value->Shared->Prop}{s:Shared}{env:Env}{value slice:Expr}{pos:Pos}{T id:String}{Q:Value->Shared->Prop}
  (hl:typeLookup (.type T) "__getitem__" = pure (some (.builtin id))) (hs:Ft slice)
  (h:wpAny (model prog w) A (eval value env) (fun o s₁=>wpAny (model prog w) A (eval slice env) (fun i s₂=>s₂.TypeIs o T/\wpAny (model prog w) A (getItem o i) Q E s₂) E s₁) E s) :
  wpAny (model prog w) A (eval (.Subscript value slice pos) env) Q E s:=by
 refine Subscript_ (wpAny_mono h (fun o s₁ h₁=>wpAny_mono h₁ (fun i s₂ iX=>?_) fun _ _ x=>x) fun _ _ x=>x);obtain ⟨hT,iX⟩:=iX;unfold subscriptTail;refine zAu ?_;rw [getitemInPython_of_ne hT.not_modules];refine zAu (wpAny_specialOf hT hl ?_)
 have fin:wpAny (model prog w) A (subscripted slice false o i) (fun r s₃=>wpAny (model prog w) A (letTemporaryGo value o r >>= fun _=>pure r) Q E s₃) E s₂:=by
  rw [hs o i];exact wpAny_operating (wpAny_mono iX (fun r s₃ kQ=>zAu (wpAny_letTemporaryGo (zAz kQ))) fun _ _ x=>x)
 first
  | exact zAz (zAu fin)
  | exact zAu (zAz (zAu fin))
  | exact zAu fin
theorem qY {X:Cx}{pins:List (Addr×Obj)}{σ:St}{H:Hp}{s:Shared}{a:Addr}{y:V}{o:Option V}(I:Inv X pins σ H s)(g:DGet H a y o):s.TypeIs (.ref a) "dict" := by
 rcases g with ⟨kvs,k,e,_,_⟩ | ⟨kvs,k,b,e,_,_,_⟩
 ·obtain ⟨_,_,vs,_,dd⟩:=nU I.hok e;exact dd.typeIs
 ·obtain ⟨_,_,xs,_,dd⟩:=nW I.hok e;exact dd.typeIs
def Fv (td ty:TE):TE:=fun σ H Q=>td σ H fun x H1=>ty σ H1 fun y H2=>∃ a v,x=.ref a/\DGet H2 a y (some v)/\Q v H2
def Ah (ty td:TE):TE:=fun σ H Q=>ty σ H fun y H1=>td σ H1 fun x H2=>∃ a o,x=.ref a/\DGet H2 a y o/\Q (.bl (!o.isSome)) H2
def Fw (td ty tv:TE):TS:=fun D σ H=>tv σ H fun v H1=>td σ H1 fun x H2=>ty σ H2 fun y H3=>∃ a H4,x=.ref a/\DPut H3 a y v H4/\D.nx σ H4
section
variable {X:Cx}{o i e value:Expr}{pos pos' oo:Pos}{td ty tv:TE}
theorem fB (hu:X.A.units+1 < cLine)(ho:PE X o td)(hi:PE X i ty)(hs:Ft i):PE X (.Subscript o i pos) (Fv td ty):=by
 intro pins s σ H Q I h;refine Ag PySem.F.slot_dict_getitem.lookup hs (thn (ho pins s σ H _ I h) fun u s1 ⟨x,H1,I1,rx,q1⟩=>thn (hi pins s1 σ H1 _ I1 q1) fun iv s2 ⟨y,H2,I2,ry,a,v,ex,g,q2⟩=>?_);subst ex;obtain rfl:u=Value.ref a:=rx;exact ⟨qY I2 g,vM hu I2 g ry fun w' s3 I3 eI=>⟨v,H2,I3,eI,q2⟩⟩
theorem vO (hu:X.A.units+1 < cLine)(hi:PE X i ty)(ho:PE X o td):PC X .NotIn i o (Ah ty td):=by
 intro pins s σ H Q I h;refine thn (hi pins s σ H _ I h) fun iv s1 ⟨y,H1,I1,ry,q1⟩=>thn (ho pins s1 σ H1 _ I1 q1) fun u s2 ⟨x,H2,I2,rx,a,ov,ex,g,q2⟩=>?_;subst ex;obtain rfl:u=Value.ref a:=rx
 exact Af hu I2 g ry fun s3 I3=>⟨.bl (!ov.isSome),H2,I3,rfl,q2⟩
theorem uz (hu:X.A.units+1 < cLine)(ho:PE X o td)(hi:PE X i ty)(hv:PE X value tv)(hs:swapsWith value (some (.Subscript o i pos')) pos.line X.env=pure false) :
  PS X (.Assign [.Subscript o i pos'] value pos) (Fw td ty tv):=by
 intro pins s σ H D I h;refine wpAny_Assign_Subscript (thn (hv pins s σ H _ I h) fun r s1 ⟨v,H1,I1,rv,q1⟩=>thn (ho pins s1 σ H1 _ I1 q1) fun u s2 ⟨x,H2,I2,rx,q2⟩=>thn (hi pins s2 σ H2 _ I2 q2) fun iv s3 ⟨y,H3,I3,ry,a,H4,ex,g,q3⟩=>?_) hs;subst ex;obtain rfl:u=Value.ref a:=rx
 exact vN hu I3 g ry rv fun s4 I4=>⟨σ,H4,I4,q3⟩
end
theorem xG {P:Program}{w:World}{H:Hp}(h:Heap)(hb:sysModules < h.objs.size):ObjOk P w H (h.push { cls:=.type "dict",data:=.dict #[] }) h.objs.size (.dT []) :=
 ⟨zAp _,beq_eq_false_iff_ne.mpr (Ne.symm (zB8 hb)),[],.nil,_,#[],0,zB1 _ rfl,⟨rfl,rfl,rfl⟩,rfl,rfl,List.nodup_nil⟩
def Du:TE:=fun _ H Q=>∀ p,H p=none->Q (.ref p) (upd H p (.dT []))
section
variable {X:Cx}{pos:Pos}
theorem qZ:PE X (.Dict [] [] pos) Du:=fun pins s σ H Q I h =>
 wpAny_Dict_empty ⟨.ref s.heap.objs.size,_,I.laid (a:=s.heap.objs.size) (o:=.dT []) (t':=s.toks) (fun _ _ q=>zAx _ q) (zA3 _) (xG s.heap I.big),rfl,h _ (I.hok.fresh (zA3 _))⟩
end
structure M2 (X:Cx)(o:Expr)(m:Str)(apos:Pos)(e f:Expr)(bp:Pos):Prop where
 base:attributeBase o m X.env (eval o X.env)=eval o X.env
 few:((backTo bp (starEach [e,f] X.env)).all (fun x=>!x.1) && (backToKw bp (keywordEach [] X.env)).all (fun x=>x.1.isSome)
  && decide (([e,f]:List Expr).length+([]:List Keyword).length+(if ([]:List Keyword).isEmpty then 0 else 1) < 30))=true
 line:(apos.endLine == bp.line)=true
 trees:backTo bp (starEach [e,f] X.env)=[(false,eval e X.env),(false,eval f X.env)]
def IsD (H:Hp)(a:Addr):Prop:=(∃ kvs,Rd H a (.dK kvs))\/∃ kvs,Rd H a (.dT kvs)
theorem Dv {X:Cx}{pins:List (Addr×Obj)}{σ:St}{H:Hp}{s:Shared}{a:Addr}(I:Inv X pins σ H s)(d:IsD H a) :
  s.TypeIs (.ref a) "dict" /\ (∀ b,Value.ref a=.ref b->∃ ob,s.heap.get? b=some ob/\ob.dict=none)/\(a == sysModules)=false:=by
 rcases d with ⟨kvs,e⟩ | ⟨kvs,e⟩
 ·obtain ⟨_,hd,vs,_,dd⟩:=nU I.hok e;refine ⟨dd.typeIs,fun b q=>?_,hd⟩;cases q;obtain ⟨ob,_,_,h1,h2,_⟩:=dd;exact ⟨ob,h1,h2.2.1⟩
 ·obtain ⟨_,hd,xs,_,dd⟩:=nW I.hok e;refine ⟨dd.typeIs,fun b q=>?_,hd⟩;cases q;obtain ⟨ob,_,_,h1,h2,_⟩:=dd;exact ⟨ob,h1,h2.2.1⟩
section
variable {X:Cx}{pins:List (Addr×Obj)}{σ:St}{H:Hp}{s:Shared}{a:Addr}{y d:V}{u r:Value}{o:Option V}{A:Around}{E:Value->Shared->Prop}
theorem Dw {Q:Value->Shared->Prop}(hu:A.units+1 < cLine)(I:Inv X pins σ H s)(g:DGet H a y o)(ry:RelV y u)(rd:RelV d r)(h:∀ w' s',Inv X pins σ H s'->RelV (o.getD d) w'->Q w' s') :
  wpAny (model X.prog X.w) A (call (.builtin "dict.get") [.ref a,u,r]) Q E s:=by
 rcases g with ⟨kvs,k,e,ey,l⟩ | ⟨kvs,k,b,e,ey,eb,l⟩
 ·subst ey;obtain ⟨z,hd,vs,rel,dd⟩:=nU I.hok e;refine call_meetsIn PySem.F.slot_dict_get dd.typeIs PySem.F.entry_dict_get (PySem.F.args_dict_get_3 _ _ _) (meets_dict_get_default (bJ X.prog X.w) a (qX ry) hd r) ⟨_,dd.mapOf,h _ _ (I.tok _) ?_⟩;rw [l];exact (rel.val k).getD rd
 ·subst ey;cases (show u=Value.ref b from ry);obtain ⟨z,hd,xs,rel,dd⟩:=nW I.hok e;refine call_meetsIn PySem.F.slot_dict_get dd.typeIs PySem.F.entry_dict_get (PySem.F.args_dict_get_3 _ _ _) (meetsH_dict_get_default (tupleKind (bJ X.prog X.w)) a b hd r) ⟨tupleKind_room_in1 hu,k,xs,kZ I.hok eb,dd,h _ _ (I.tok _) ?_⟩;rw [l];exact (rel.val k).getD rd
end
def Dy (td ty tx:TE):TE:=fun σ H Q=>td σ H fun x H1=>∃ a,x=.ref a/\IsD H1 a/\ty σ H1 fun y H2=>tx σ H2 fun z H3=>∃ o,DGet H3 a y o/\Q (o.getD z) H3
section
variable {X:Cx}{o e f:Expr}{apos bp:Pos}{td ty tx:TE}
theorem rm (hu:X.A.units+1 < cLine)(ho:PE X o td)(he:PE X e ty)(hf:PE X f tx)(m:M2 X o "get" apos e f bp):PE X (.Call (.Attribute o "get" apos) [e,f] [] bp) (Dy td ty tx):=by
 intro pins s σ H Q I h;refine wpAny_Call_method m.base m.few m.line PySem.F.plainAttrs_dict PySem.F.slot_dict_get PySem.F.type_dict_get (thn (ho pins s σ H _ I h) fun u s1 ⟨x,H1,I1,rx,a,ex,d,q1⟩=>?_);subst ex;obtain rfl:u=Value.ref a:=rx;obtain ⟨t1,t2,_⟩:=Dv I1 d;refine ⟨t1,t2,?_⟩;rw [m.trees]
 refine Calls.callWith_builtin rfl (Calls.evalArgs_plain (Calls.spliced_cons (thn (he pins s1 σ H1 _ I1 q1) fun iv s2 ⟨y,H2,I2,ry,q2⟩ =>
  Calls.spliced_cons (thn (hf pins s2 σ H2 _ I2 q2) fun fv s3 ⟨z,H3,I3,rz,ov,g,q3⟩=>Calls.spliced_nil ?_))))
 exact Dw hu I3 g ry rz fun w' s4 I4 eI=>⟨_,H3,I4,eI,q3⟩
end
section
variable {X:Cx}{pins:List (Addr×Obj)}{σ:St}{H:Hp}{s:Shared}{a:Addr}{kvs:List (Key×V)}{A:Around}{E:Value->Shared->Prop}
end
section
variable {X:Cx}{pins:List (Addr×Obj)}{σ:St}{H:Hp}{s:Shared}{a:Addr}{y:V}{u:Value}{A:Around}{E:Value->Shared->Prop}
end
def Ai:Key->PyData
 | .inl i=>.int i
 | .inr x=>.str x
mutual
inductive IsTh (S:Addr->Prop)(H:Hp):V->PyData->Prop
 | non:IsTh S H .non .none
 | bl (b:Bool):IsTh S H (.bl b) (.bool b)
 | int (i:Int):IsTh S H (.int i) (.int i)
 | str (x:Str):IsTh S H (.str x) (.str x)
 | lst {a:Addr} {xs:List V} {ds:List PyData} (hs:S a) (e:H a=some (.lst xs)) (r:IsThs S H xs ds):IsTh S H (.ref a) (.list ds)
 | tup {a:Addr} {xs:List V} {ds:List PyData} (e:H a=some (.tup xs)) (r:IsThs S H xs ds):IsTh S H (.ref a) (.tuple ds)
 | dct {a:Addr} {ks:List (Key×Int)} (hs:S a) (e:H a=some (.dK (ks.map fun p=>(p.1,V.int p.2)))):IsTh S H (.ref a) (.dict (ks.map fun p=>(Ai p.1,.int p.2)))
inductive IsThs (S:Addr->Prop)(H:Hp):List V->List PyData->Prop
 | nil:IsThs S H [] []
 | cons {v:V} {d:PyData} {vs:List V} {ds:List PyData} (h:IsTh S H v d) (t:IsThs S H vs ds):IsThs S H (v::vs) (d::ds)
end
section
variable {S S':Addr->Prop}{H H':Hp}
theorem IsThs.length:∀ {vs:List V} {ds:List PyData},IsThs S H vs ds->vs.length=ds.length
 | _,_,.nil=>rfl
 | _,_,.cons _ t=>by rw [zAe,zAe,IsThs.length t]
theorem IsThs.get:∀ {vs:List V} {ds:List PyData} {i:Nat} {v:V},IsThs S H vs ds->vs[i]?=some v->∃ d,ds[i]?=some d/\IsTh S H v d
 | _,_,_,_,.nil,e=>by simp at e
 | _,_,0,_,.cons h _,e=>by simp at e;subst e;exact ⟨_,rfl,h⟩
 | _,_,i+1,v,.cons _ t,e=>by
  obtain ⟨d,h1,h2⟩:=IsThs.get (i:=i) (v:=v) t (by simpa using e);exact ⟨d,by simpa using h1,h2⟩
theorem IsThs.append:∀ {vs ws:List V} {ds es:List PyData},IsThs S H vs ds->IsThs S H ws es->IsThs S H (vs++ws) (ds++es)
 | _,_,_,_,.nil,s=>s
 | _,_,_,_,.cons h t,s=>.cons h (IsThs.append t s)
theorem IsThs.ints:∀ (ns:List Int),IsThs S H (ns.map V.int) (ns.map PyData.int)
 | []=>.nil
 | n::ns=>.cons (.int n) (IsThs.ints ns)
mutual
theorem IsTh.keep (ht:∀ b xs,H b=some (.tup xs)->H' b=some (.tup xs))(hs:∀ b o,S b->H b=some o->H' b=some o)(hS:∀ b o,S b->H b=some o->S' b):∀ {v:V} {d:PyData},IsTh S H v d->IsTh S' H' v d
 | _,_,.non=>.non
 | _,_,.bl b=>.bl b
 | _,_,.int i=>.int i
 | _,_,.str x=>.str x
 | _,_,.lst s e r=>.lst (hS _ _ s e) (hs _ _ s e) (IsThs.keep ht hs hS r)
 | _,_,.tup e r=>.tup (ht _ _ e) (IsThs.keep ht hs hS r)
 | _,_,.dct s e=>.dct (hS _ _ s e) (hs _ _ s e)
theorem IsThs.keep (ht:∀ b xs,H b=some (.tup xs)->H' b=some (.tup xs))(hs:∀ b o,S b->H b=some o->H' b=some o)(hS:∀ b o,S b->H b=some o->S' b):∀ {vs:List V} {ds:List PyData},IsThs S H vs ds->IsThs S' H' vs ds
 | _,_,.nil=>.nil
 | _,_,.cons h t=>.cons (IsTh.keep ht hs hS h) (IsThs.keep ht hs hS t)
end
def tyD:PyData->String
 | .none=>"NoneType"
 | .bool _=>"bool"
 | .int _=>"int"
 | .str _=>"str"
 | .list _=>"list"
 | .tuple _=>"tuple"
 | .dict _=>"dict"
theorem IsTh.ty {K:PySem.W.Frag}{v:V}{d:PyData}(h:IsTh S H v d):TyOf K H v (.type (tyD d)):=by
 cases h with
 | non=>exact .non
 | bl b=>exact .bl b
 | int i=>exact .int i
 | str x=>exact .str x
 | lst s e r=>exact .lst e
 | tup e r=>exact .tup e
 | dct s e=>exact .dK e
def pQ:PyData->Bool
 | .int _=>true
 | .bool _=>true
 | _=>false
def pR:PyData->Bool
 | .bool _=>true
 | _=>false
def pU:PyData->Bool
 | .tuple _=>true
 | _=>false
theorem Aj {K:PySem.W.Frag}(d:PyData):PySem.W.kitOne K (.type (tyD d)) (.type "int")=some (pQ d):=by
 cases d
 ·exact ju
 ·exact pL
 ·exact qT
 ·exact qU
 ·exact pO
 ·exact mR
 ·exact pP
theorem xH {K:PySem.W.Frag}(d:PyData):PySem.W.kitOne K (.type (tyD d)) (.type "bool")=some (pR d):=by
 cases d
 ·exact iZ
 ·exact mK
 ·exact pM
 ·exact pN
 ·exact mQ
 ·exact kJ
 ·exact mU
theorem Ak {K:PySem.W.Frag}(d:PyData):PySem.W.kitOne K (.type (tyD d)) (.type "tuple")=some (pU d):=by
 cases d
 ·exact iD
 ·exact kE
 ·exact mL
 ·exact mO
 ·exact kI
 ·exact jN
 ·exact kW
end
mutual
def sz:PyData->Nat
 | .none=>1
 | .bool _=>1
 | .int _=>1
 | .str _=>1
 | .list xs=>1+szs xs
 | .tuple xs=>1+szs xs
 | .dict kvs=>1+4 * kvs.length
def szs:List PyData->Nat
 | []=>0
 | x::xs=>sz x+szs xs
end
section
variable {X:Cx}{pins:List (Addr×Obj)}{σ:St}{H:Hp}{s:Shared}{S:Addr->Prop}
theorem lq {P:Program}{w:World}:∀ {ks:List (Key×Int)} {vs:List (Key×Value)} {es:List DictEntry},KV (ks.map fun p=>(p.1,V.int p.2)) vs->Pairs (bJ P w) es vs ->
  (∃ as,ReadsAll s.heap (es.map (·.key)) ((ks.map fun p=>(Ai p.1,PyData.int p.2)).map (·.1)) as/\as=[])/\∃ as,ReadsAll s.heap (es.map (·.val)) ((ks.map fun p=>(Ai p.1,PyData.int p.2)).map (·.2)) as/\as=[]
 | [],vs,es,r,p=>by
  cases r;cases p;exact ⟨⟨_,.nil,rfl⟩,⟨_,.nil,rfl⟩⟩
 | (k,n)::ks,vs,es,r,p=>by
  cases r with
  | @cons a b l1 l2 h t =>
   cases p with
   | @cons e kv dE kR h1 h2 h3 =>
    obtain ⟨⟨_,i1,rfl⟩,⟨_,i2,rfl⟩⟩:=lq (ks:=ks) t h3;obtain ⟨q1,q2⟩:=h;have HM:jT b.1 e.key=true:=h1;rw [<- q1] at HM;obtain ⟨tv,Ki⟩:∃ t,b.2=Value.int n t:=q2;rw [Ki] at h2;refine ⟨⟨_,?_,rfl⟩,⟨_,?_,rfl⟩⟩
    ·show ReadsAll s.heap (e.key::dE.map (·.key)) (Ai k::_) ([]++[]);rcases bM HM with ⟨i,tk,ei,ev⟩ | ⟨x,tk,ei,ev⟩
     ·have ei:k=Sum.inl i:=ei;rw [ev,ei];exact .cons (.int _ _) i1
     ·have ei:k=Sum.inr x:=ei;rw [ev,ei];exact .cons (.str _ _) i1
    ·show ReadsAll s.heap (e.val::dE.map (·.val)) (PyData.int n::_) ([]++[]);rw [h2];exact .cons (.int _ _) i2
mutual
theorem IsTh.reads (I:Inv X pins σ H s):∀ {v:V} {d:PyData} {u:Value},IsTh S H v d->RelV v u->∃ as,Reads s.heap u d as/\∀ a∈as,S a
 | _,_,_,.non,r=>by cases (show _=Value.none from r);exact ⟨[],.none,fun _ h=>nomatch h⟩
 | _,_,_,.bl b,r=>by cases (show _=Value.bool b from r);exact ⟨[],.bool b,fun _ h=>nomatch h⟩
 | _,_,_,.int i,r=>by obtain ⟨t,rfl⟩:=r;exact ⟨[],.int i t,fun _ h=>nomatch h⟩
 | _,_,_,.str x,r=>by obtain ⟨t,rfl⟩:=r;exact ⟨[],.str x t,fun _ h=>nomatch h⟩
 | _,_,_,@IsTh.lst _ _ a xs ds hs e t,r=>by
  cases (show _=Value.ref a from r)
  obtain ⟨_,its,n,rv,ho⟩:=(show ObjOk X.prog X.w H s.heap a (.lst xs) from I.hok a _ e)
  obtain ⟨as,h1,h2⟩:=IsThs.reads I t rv;refine ⟨a::as,.list ho rfl rfl (by simpa using h1),fun b hb=>?_⟩;rcases zAo.mp hb with z | z
  ·rw [z];exact hs
  ·exact h2 b z
 | _,_,_,@IsTh.tup _ _ a xs ds e t,r=>by
  cases (show _=Value.ref a from r)
  obtain ⟨_,its,rv,o,ho,hc,n,hd⟩:=(show ObjOk X.prog X.w H s.heap a (.tup xs) from I.hok a _ e)
  obtain ⟨as,h1,h2⟩:=IsThs.reads I t rv;exact ⟨as,.tuple ho hc hd (by simpa using h1),h2⟩
 | _,_,_,@IsTh.dct _ _ a ks hs e,r=>by
  cases (show _=Value.ref a from r)
  obtain ⟨_,_,vs,rel,o,es,ep,ho,hx,hd,_,hp,_⟩:=(show ObjOk X.prog X.w H s.heap a (.dK _) from I.hok a _ e)
  obtain ⟨⟨_,i1,rfl⟩,⟨_,i2,rfl⟩⟩:=lq (s:=s) rel hp;refine ⟨a::[]++[],.dict ho hx.1 hd i1 i2,fun b hb=>?_⟩;rw [show b=a by simpa using hb];exact hs
theorem IsThs.reads (I:Inv X pins σ H s):∀ {vs:List V} {ds:List PyData} {us:List Value},IsThs S H vs ds->Vals vs us->∃ as,ReadsAll s.heap us ds as/\∀ a∈as,S a
 | _,_,_,.nil,r=>by cases r;exact ⟨[],.nil,fun _ h=>nomatch h⟩
 | _,_,_,.cons h t,r=>by
  cases r with
  | cons r1 r2 =>
   obtain ⟨as,h1,h2⟩:=IsTh.reads I h r1;obtain ⟨bs,h3,h4⟩:=IsThs.reads I t r2;exact ⟨as++bs,.cons h1 h3,fun b hb=>(zA6.mp hb).elim (h2 b) (h4 b)⟩
end
end
section
variable {X:Cx}
theorem vP (hu:X.A.units < cLine):OpR X (compareOp .Eq) (fun x y H Q=>∃ a b xs,x=.ref a/\y=.ref b/\SqT X.K H a xs/\SqT X.K H b []/\Q (.bl xs.isEmpty) H):=by
 intro pins s σ H x y v u Q I rx ry h;obtain ⟨a,b,xs,rfl,rfl,ha,hb,q⟩:=h;cases rx;cases ry;obtain ⟨its,r1,p1,_⟩:=I.tuple ha;obtain ⟨ba,r2,p2,_⟩:=I.tuple hb;have e2:ba=[]:=r2.zero;subst e2;refine PySem.SeqAt.eq_tupleAt (e:=fun _=>true) p1 p2 hu (fun j h1 h2=>absurd h2 (by simp)) ?_
 have e3:((List.range (min its.toArray.size ([]:List Value).toArray.size)).all (fun _=>true) && its.toArray.size == ([]:List Value).toArray.size)=xs.isEmpty:=by
  have:=r1.length
  cases its with
  | nil =>
   cases r1;rfl
  | cons a r=>cases xs with
   | nil=>simp at this
   | cons b r'=>simp
 rw [e3];exact ⟨.bl _,H,I,rfl,q⟩
end
section
variable {prog:Program}{w:World}{A:Around}{E:Value->Shared->Prop}{s:Shared}
theorem Dz {j t:Addr}{i:Nat}{its:Array Value}{x:Value}{Q:Value->Shared->Prop}(hj:s.heap.IsTupleIter j t i)(ht:s.heap.IsTuple t its)(hx:its[i]?=some x)
  (hQ:∀ h',h'.IsTupleIter j t (i+1)->Heap.SameBut j s.heap h'->Q x { s with heap:=h' }):wpAny (model prog w) A (Builtin.SmallTypes.nextOf (.ref j)) Q E s:=by
 obtain ⟨o,ho,hc,hd⟩:=id hj;obtain ⟨p,hp,_,m,hm⟩:=ht;unfold Builtin.SmallTypes.nextOf;refine wpAny_bind (wpAny_callSpecial?_slot (name:=Str.ofString "__next__") hj.typeIs F.slot_tuple_iterator_next (wpAny_call_entry F.slot_tuple_iterator_next hj.typeIs F.entry_tuple_iterator_next ?_ (F.args_tuple_iterator_next_1 _)));show wpAny _ _ (field (.ref j) 0 >>= _) _ _ s;refine wpAny_bind (wpAny_field ho hd (x:=.ref t) rfl ?_);show wpAny _ _ (if (Value.ref t == Value.none)=true then _ else _) _ _ s;rw [if_neg (show ¬ ((Value.ref t == Value.none)=true) by intro z;exact zAg z)];show wpAny _ _ (field (.ref j) 1 >>= _) _ _ s;refine wpAny_bind (wpAny_field ho hd (x:=.int i 0) rfl (wpAny_bind (wpAny_seqItems hp hm ?_)));simp only [Int.toNat_natCast,hx]
 refine wpAny_bind (wpAny_setField ho hd (by simp) (wpAny_pure ⟨x,rfl,wpAny_pure (hQ _ ⟨_,Heap.get?_update_self _ ho (Obj.isFreed_of_fields (Obj.data_mapFields hd _)),(Obj.cls_mapFields ..).trans hc,by
  rw [Obj.data_mapFields hd]
  simp [rawInt]⟩ (Heap.SameBut.update ..))⟩))
theorem lu {j t:Addr}{i:Nat}{its:Array Value}{Q:Value->Shared->Prop}(hh:A.handled=none)(hj:s.heap.IsTupleIter j t i)(ht:s.heap.IsTuple t its)(hx:its[i]?=none)
  (hE:∀ h' e,Heap.ExtBut j s.heap h'->(∃ o,h'.get? e=some o/\o.cls=.type "StopIteration")->E (.ref e) { s with heap:=h' }):wpAny (model prog w) A (Builtin.SmallTypes.nextOf (.ref j)) Q E s:=by
 obtain ⟨o,ho,hc,hd⟩:=id hj;obtain ⟨p,hp,_,m,hm⟩:=ht;unfold Builtin.SmallTypes.nextOf;refine wpAny_bind (wpAny_callSpecial?_slot (name:=Str.ofString "__next__") hj.typeIs F.slot_tuple_iterator_next (wpAny_call_entry F.slot_tuple_iterator_next hj.typeIs F.entry_tuple_iterator_next ?_ (F.args_tuple_iterator_next_1 _)));show wpAny _ _ (field (.ref j) 0 >>= _) _ _ s;refine wpAny_bind (wpAny_field ho hd (x:=.ref t) rfl ?_);show wpAny _ _ (if (Value.ref t == Value.none)=true then _ else _) _ _ s;rw [if_neg (show ¬ ((Value.ref t == Value.none)=true) by intro z;exact zAg z)];show wpAny _ _ (field (.ref j) 1 >>= _) _ _ s;refine wpAny_bind (wpAny_field ho hd (x:=.int i 0) rfl (wpAny_bind (wpAny_seqItems hp hm ?_)));simp only [Int.toNat_natCast,hx];refine wpAny_bind (wpAny_rule (wpAny_bind (wpAny_setField ho hd (by simp) ?_)));show wpAny _ _ (newExc (.type "StopIteration") [] >>= _) _ _ _;refine wpAny_bind ?_;simp only [newExc,newTuple];refine wpAny_bind (wpAny_newObj_type (wpAny_bind (m:=firstArgMember _ _) (wpAny_of_eq (a:=Value.none) (by first | rfl | (simp only [firstArgMember];rfl)) (wpAny_newObj_type ?_ (by size_fits)))) (by size_fits));simp only [raiseNew];refine wpAny_bind (wpAny_handled ?_)
 first
  | rw [show A.in1.handled=none from hh]
  | rw [hh]
 exact zAu (zAz (wpAny_throw (hE _ _ (((Heap.SameBut.update ..).extBut.push _).push _) ⟨_,zB1 _ rfl,rfl⟩)))
end
abbrev zA (h:Heap)(t:Addr):Heap:=h.push { cls:=.type "tuple_iterator",data:=.fields #[.ref t,.int 0 0] }
section
variable {X:Cx}
end
theorem IsTh.same {S:Addr->Prop}{H H':Hp}{v:V}{d:PyData}(h:IsTh S H v d)(s:Same H H'):IsTh S H' v d:=h.keep (fun b xs e=>s b _ e) (fun b o _ e=>s b o e) fun _ _ z _=>z
theorem IsThs.same {S:Addr->Prop}{H H':Hp}{v:List V}{d:List PyData}(h:IsThs S H v d)(s:Same H H'):IsThs S H' v d:=h.keep (fun b xs e=>s b _ e) (fun b o _ e=>s b o e) fun _ _ z _=>z
theorem Same.upd {H:Hp}{D:Addr}{o:HO}(h:H D=none):Same H (upd H D o):=fun b u e=>by rw [aC (aD e h)];exact e
theorem Same.updR {H H':Hp}{D:Addr}{o:HO}(s:Same H H')(h:H' D=none):Same H (L2.upd H' D o):=s.trans (Same.upd h)
theorem rA {K:PySem.W.Frag}{S:Addr->Prop}{te:TE}{a:Addr}{xs:List V}{ds:List PyData}(f:PyData->Bool){eJ:St}{j:Nat}{H0:Hp}{Fin:List V->Hp->Prop}(hT:H0 a=some (.tup xs))(th:IsThs S H0 xs ds)(hl:xs.length < sizeLine)
  (vS:∀ v d H Q,d∈ds->Same H0 H->IsTh S H v d->(∀ H',Same H H'->Q (.bl (f d)) H')->te (eJ.set j (some v)) H Q)
  (fin:∀ H',Same H0 H'->Fin (ds.map fun d=>V.bl (f d)) H'):kh (Itt K a) (bF j) vL te Fin eJ H0:=by
 have hlen:=th.length;refine ⟨fun i m ys σ H=>m=xs.length - i/\i<=xs.length/\ys=(ds.take i).map (fun d=>V.bl (f d))/\(∀ o,σ.set j o=eJ.set j o)/\Same H0 H,⟨_,rfl,zAp _,rfl,fun _=>rfl,Same.refl _⟩,?_⟩;rintro i m ys σ H ⟨rfl,hi,rfl,mN,hs⟩;have sq:SqT K H a xs:=SqT.of (hs _ _ hT);refine ⟨by rw [zA1,zAd];lia,?_⟩;by_cases ax:i < xs.length
 ·refine .inr ⟨⟨xs,xs[i],sq,by simp [ax]⟩,fun x H' y=>?_⟩;obtain ⟨e,y⟩:=y;subst e;have hx:=y xs sq;obtain ⟨d,hd,ht⟩:=(th.same hs).get hx;show te (σ.set j (some x)) H' _;rw [mN]
  refine vS x d H' _ (zB6 hd) hs ht fun H2 s2=>⟨xs.length - (i+1),by lia,rfl,ax,?_,fun o=>by rw [List.set_set],hs.trans s2⟩
  rw [zAj,hd];simp
 ·have e:i=xs.length:=by lia
  subst e;refine .inl ⟨⟨xs,sq,zA3 _⟩,?_⟩;rw [hlen,zAm];exact fin H hs
theorem xJ {ds:List PyData}{f:PyData->Bool}:ds.map (fun d=>V.bl (f d))=(ds.map f).map V.bl:=by rw [zAr];rfl
theorem DG {ds:List PyData}{f:PyData->Bool}:(ds.map f).all id=ds.all f:=by rw [List.all_map];rfl
section
variable {X:Cx}{es:List Expr}{t:TA}{pos:Pos}
end
section
variable {X:Cx}{a b c d:Expr}{ta tb tc td:TE}{pos:Pos}
def uA (r r' AN:R2)(ta tb tc td:TE):TE:=fun σ H Q=>ta σ H fun x H1=>tb σ H1 fun y H2=>r x y H2 fun z H3=>∃ k,z=.bl k /\
 (if k=true then tc σ H3 fun x2 H4=>r' y x2 H4 fun z2 H5=>∃ k2,z2=.bl k2/\(if k2=true then td σ H5 fun x3 H6=>AN x2 x3 H6 Q else Q (.bl false) H5) else Q (.bl false) H3)
theorem vQ {o1 o2 o3:CmpOp}{r r' AN:R2}(h1:OpR X (compareOp o1) r)(h2:OpR X (compareOp o2) r')(h3:OpR X (compareOp o3) AN)(ha:PE X a ta)(hb:PE X b tb)(hc:PE X c tc)(hd:PE X d td)
  (hm:lastMarks [o1,o2,o3] [b,c,d]=false:=by with_unfolding_all rfl):PE X (.Compare a [o1,o2,o3] [b,c,d] pos) (uA r r' AN ta tb tc td):=by
 intro pins s σ H Q I h
 refine Compare_chain (thn (ha pins s σ H _ I h) fun v s1 ⟨x,H1,I1,r1,q1⟩=>chain_link (thn (hb pins s1 σ H1 _ I1 q1) fun u s2 ⟨y,H2,I2,r2,q2⟩ =>
  thn (h1 pins s2 σ H2 x y v u _ I2 r1 r2 q2) fun g s3 ⟨z,H3,I3,r3,k,e,q3⟩=>?_)) hm
 subst e;cases r3;refine wpAny_truthy_bool ?_
 cases k with
 | false=>exact ite_ff ⟨.bl false,H3,I3,rfl,q3⟩
 | true =>
  refine ite_tt (chain_link (thn (hc pins s3 σ H3 _ I3 q3) fun w' s4 ⟨z',H4,I4,r4,q4⟩=>thn (h2 pins s4 σ H4 y z' u w' _ I4 r2 r4 q4) fun g2 s5 ⟨z5,H5,I5,r5,k2,e2,q5⟩=>?_));subst e2;cases r5;refine wpAny_truthy_bool ?_
  cases k2 with
  | false=>exact ite_ff ⟨.bl false,H5,I5,rfl,q5⟩
  | true=>exact ite_tt (chain_last (thn (hd pins s5 σ H5 _ I5 q5) fun w6 s6 ⟨z6,H6,I6,r6,q6⟩=>h3 pins s6 σ H6 z' z6 w' w6 Q I6 r4 r6 q6))
end
def Ev (σ:St)(H:Hp)(t:TE)(v:V):Prop:=∀ Q:VK,Q v H->t σ H Q
section
variable {σ:St}{H:Hp}{ta tb tc td:TE}
theorem gh {v:V}:Ev σ H (tC v) v:=fun _ h=>h
theorem fj {i:Nat}{v:V}(h:σ[i]?=some (some v)):Ev σ H (zP i) v:=fun _ q=>⟨v,h,q⟩
theorem cG {p q:Int->Int->Bool}{i j k:Int}(a:Ev σ H ta (.int i))(b:Ev σ H tb (.int j))(c:Ev σ H tc (.int k)) :
  Ev σ H (sW (rI0 fun i j=>.bl (p i j)) (rI0 fun i j=>.bl (q i j)) ta tb tc) (.bl (p i j && q j k)):=fun Q h=>a _ (b _ ⟨i,j,rfl,rfl,_,rfl,by
 cases e:p i j with
 | false =>
  rw [e] at h;exact bD h
 | true =>
  rw [e] at h
  exact bO (c _ ⟨j,k,rfl,rfl,h⟩)⟩)
theorem vR {p q r:Int->Int->Bool}{i j k l:Int}(a:Ev σ H ta (.int i))(b:Ev σ H tb (.int j))(c:Ev σ H tc (.int k))(d:Ev σ H td (.int l)) :
  Ev σ H (uA (rI0 fun i j=>.bl (p i j)) (rI0 fun i j=>.bl (q i j)) (rI0 fun i j=>.bl (r i j)) ta tb tc td) (.bl (p i j && (q j k && r k l))):=fun Q h=>a _ (b _ ⟨i,j,rfl,rfl,_,rfl,by
 cases e:p i j with
 | false =>
  rw [e] at h;exact bD h
 | true =>
  rw [e] at h;refine bO (c _ ⟨j,k,rfl,rfl,_,rfl,?_⟩)
  cases e2:q j k with
  | false =>
   rw [e2] at h;exact bD h
  | true =>
   rw [e2] at h
   exact bO (d _ ⟨k,l,rfl,rfl,h⟩)⟩)
theorem gM {b c:Bool}(x:Ev σ H ta (.bl b))(y:b=true->Ev σ H tb (.bl c)):Ev σ H (BP ta tb) (.bl (b && c)):=fun Q h=>x _ ⟨b,rfl,by
 cases e:b with
 | false =>
  rw [e] at h;exact bD h
 | true =>
  rw [e] at h
  exact bO (y e _ h)⟩
end
structure Plain (e:Expr):Prop where
 eq:∀ (es:List Expr) (env:Env),starEach (e::es) env=(false,eval e env)::starEach es env
theorem gO {c j p}:Plain (.Constant c j p):=⟨fun _ _=>rfl⟩
theorem iG {x p}:Plain (.Name x p):=⟨fun _ _=>rfl⟩
theorem gP {es k p}:Plain (.Tuple es k p):=⟨fun _ _=>rfl⟩
theorem iH {es p}:Plain (.List es p):=⟨fun _ _=>rfl⟩
theorem iI {ks vs p}:Plain (.Dict ks vs p):=⟨fun _ _=>rfl⟩
theorem iJ {f as ks p}:Plain (.Call f as ks p):=⟨fun _ _=>rfl⟩
theorem plain_bin {a o b p}:Plain (.BinOp a o b p):=⟨fun _ _=>rfl⟩
theorem lw {o a p}:Plain (.UnaryOp o a p):=⟨fun _ _=>rfl⟩
theorem jw {a b p}:Plain (.Subscript a b p):=⟨fun _ _=>rfl⟩
theorem iK {a b c p}:Plain (.ListComp a b c p):=⟨fun _ _=>rfl⟩
theorem jx {a b c p}:Plain (.Compare a b c p):=⟨fun _ _=>rfl⟩
section
variable {X:Cx}{e:Expr}{es:List Expr}{te:TE}{t:TA}
theorem aq (ha:PE X e te)(hr:PA X es t)(hp:Plain e:=by first | exact iG | exact gO | exact iJ | exact gP | exact iH | exact plain_bin | exact jw | exact lw | exact iI | exact iK | exact jx):PA X (e::es) (qM te t) :=
 aP ha hr (hp.eq _ _)
end
structure AA (X:Cx)(es:List Expr)(t:TA):Prop where
 run:PA X es t
section
variable {X:Cx}{e:Expr}{es:List Expr}{te:TE}{t:TA}{pos:Pos}
theorem fJ:AA X [] Dj:=⟨ao⟩
theorem Al (ha:PE X e te)(hr:AA X es t)(hp:Plain e:=by first | exact iG | exact gO | exact iJ | exact gP | exact iH | exact plain_bin | exact jw | exact lw | exact iI | exact iK | exact jx):AA X (e::es) (qM te t) :=
 ⟨aP ha hr.run (hp.eq _ _)⟩
theorem uB {x1}(h:AA X es t):PE X (.Tuple es x1 pos) (Dk t):=bA h.run
theorem Am (h:AA X es t):PE X (.List es pos) (zV t):=cQ h.run
end
inductive IsInts:List Expr->List Int->Prop
 | nil:IsInts [] []
 | cons {i:Int} {j:Nat} {p:Pos} {es:List Expr} {is:List Int}:IsInts es is->IsInts (.Constant (.int i) j p::es) (i::is)
def Ce (is:List Int):TA:=fun _ H Q=>Q (is.map V.int) H
theorem j5 {X:Cx}:∀ {es:List Expr} {is:List Int},IsInts es is->PA X es (Ce is)
 | _,_,.nil=>fun _ _ _ _ H Q I h=>Calls.spliced_nil ⟨[],H,I,.nil,h⟩
 | _,_,@IsInts.cons i j p es is r=>by
  have h:=aq (X:=X) (aB (i:=i) (j:=j) (pos:=p)) (j5 r);exact h
theorem dI {X:Cx}{es:List Expr}{k:Nat}{pos:Pos}{t:TGs}{K:PySem.W.Frag}{n:Nat}(hK:X.K=K)(hc:X.calm=true)(h:PGs X es t)(hn:(assignEach es X.env).length=n:=by rfl)(fR:(assignEach es X.env).findIdx? (·.1)=none:=by rfl) :
  PG X (.Tuple es k pos) (jL K n t):=by
 subst hK;exact bz hc h hn fR
structure BE (X:Cx)(e:Expr)(t:TE):Prop where
 run:PE X e t
section
variable {X:Cx}{e:Expr}{es:List Expr}{te:TE}{t:TA}{pos:Pos}
theorem gj (ha:BE X e te)(hr:AA X es t)(hp:Plain e:=by first | exact iG | exact gO | exact iJ | exact gP | exact iH | exact plain_bin | exact jw | exact lw | exact iI | exact iK | exact jx):AA X (e::es) (qM te t):=Al ha.run hr hp
theorem Cg (h:BE X e te):PE X e te:=h.run
theorem DK {i:Int}{j}:BE X (.Constant (.int i) j pos) (tC (.int i)):=⟨aB⟩
theorem Fx {b:Bool}{j}:BE X (.Constant (.bool b) j pos) (tC (.bl b)):=⟨gG⟩
theorem tD {x1}(h:AA X es t):BE X (.Tuple es x1 pos) (Dk t):=⟨bA h.run⟩
theorem pW (h:AA X es t):BE X (.List es pos) (zV t):=⟨cQ h.run⟩
end
structure BS (X:Cx)(st:Stmt)(t:TS):Prop where
 run:PS X st t
structure BSs (X:Cx)(BQ:List Stmt)(t:TS):Prop where
 run:PSs X BQ t
section
variable {X:Cx}{st:Stmt}{rest:List Stmt}{t u:TS}{pos:Pos}
theorem j6 (h:BSs X rest t):PSs X rest t:=h.run
theorem aN (h1:BS X st t)(h2:BSs X rest u):BSs X (st::rest) (zQ t u):=⟨aA h1.run h2.run⟩
theorem cD (h1:BS X st t):BSs X [st] t:=⟨aG h1.run⟩
theorem pZ {i:Nat}{x:Str}{e:Expr}{te:TE}{pos':Pos}(hN:X.N.Nodup)(hi:X.N[i]?=some x)(hx:Loc X.env.scope x)(he:BE X e te)(hs:swapsWith e (some (.Name x pos')) pos.line X.env=pure false:=by rfl)(hf:X.fn x=true\/X.env.scope.names.lookup x=some .local:=by first | exact .inl rfl | exact .inr rfl | assumption) :
  BS X (.Assign [.Name x pos'] e pos) (vz te (bF i)):=⟨pC hN hi hx he.run hs hf⟩
theorem tE {e:Expr}{te:TE}(he:BE X e te):BS X (.Return (some e) pos) (Dd te):=⟨aQ he.run⟩
theorem Ci {op:Operator}{r:R2}{a b:Expr}{ta tb:TE}(ho:OpR X (binaryOp op) r)(ha:BE X a ta)(hb:BE X b tb):BE X (.BinOp a op b pos) (tOp r ta tb):=⟨aV ho ha.run hb.run⟩
theorem xK {r:R2}{a b:Expr}{ta tb:TE}(hr:IxR X r)(ha:BE X a ta)(hb:BE X b tb)(hs:pH b):BE X (.Subscript a b pos) (tOp r ta tb):=⟨Ca hr ha.run hb.run hs⟩
end
theorem pgn {X:Cx}{x:Str}{pos:Pos}(i:Nat)(hN:X.N.Nodup)(hi:X.N[i]?=some x:=by rfl)(hx:Loc X.env.scope x:=by exact Or.inl rfl)(hf:X.fn x=true\/X.env.scope.names.lookup x=some .local:=by first | exact .inl rfl | exact .inr rfl):PG X (.Name x pos) (bF i):=aY hN hi hx hf
theorem pss {X:Cx}{x:Str}{pos pos':Pos}{e:Expr}{te:TE}(i:Nat)(hN:X.N.Nodup)(he:PE X e te)(hi:X.N[i]?=some x:=by rfl)(hx:Loc X.env.scope x:=by exact Or.inl rfl)(hs:swapsWith e (some (.Name x pos')) pos.line X.env=pure false:=by rfl)(hf:X.fn x=true\/X.env.scope.names.lookup x=some .local:=by first | exact .inl rfl | exact .inr rfl):PS X (.Assign [.Name x pos'] e pos) (vz te (bF i)):=pC hN hi hx he hs hf
theorem lA {X:Cx}{x:Str}{pos pos':Pos}{e:Expr}{te:TE}(i:Nat)(hN:X.N.Nodup)(he:BE X e te)(hi:X.N[i]?=some x:=by rfl)(hx:Loc X.env.scope x:=by exact Or.inl rfl)(hs:swapsWith e (some (.Name x pos')) pos.line X.env=pure false:=by rfl)(hf:X.fn x=true\/X.env.scope.names.lookup x=some .local:=by first | exact .inl rfl | exact .inr rfl):BS X (.Assign [.Name x pos'] e pos) (vz te (bF i)):=pZ hN hi hx he hs hf
theorem pX {X:Cx}{r:R2}{a b:Expr}{ta tb:TE}{pos:Pos}(hr:IxR X r)(ha:PE X a ta)(hb:PE X b tb)(hs:pH b:=by exact fun _ _=>rfl):PE X (.Subscript a b pos) (tOp r ta tb):=Ca hr ha hb hs
theorem zL {n:Nat}(h:Nat.ble n 1000=true:=by rfl):n<=sizeLine:=Nat.le_trans (Nat.le_of_ble_eq_true h) (by decide)
theorem cI {X:Cx}{aI:Env}{x:Str}{i:Nat}{N:List Str}{r:List (Option Nat)}(h:Caps X aI N r)(h1:X.N[i]?=some x:=by rfl)(h2:X.env.kindOf x=some .cell:=by rfl)(h3:aI.cells.lookup x=X.env.cells.lookup x:=by rfl)(h4:aI.kindOf x=some .cell:=by rfl):Caps X aI (x::N) (some i::r):=⟨⟨h1,.inl h2,h3,.inl h4⟩,h⟩
theorem fS {N P:List Str}{sc:Scope}(h1:sc.kind=.function:=by rfl)(h2:sc.isCoroutine=false:=by rfl)(h3:sc.isGenerator=false:=by rfl)(h4:N.Nodup:=by decide +kernel)(h5:N.take P.length=P:=by rfl)(h6:∀ x∈P,sc.names.lookup x=some .local\/sc.names.lookup x=some .cell:=by decide +kernel)(h7:∀ y∈sc.names,y.2≠.free:=by decide +kernel):FnScope N P sc:=⟨h1,h2,h3,h4,h5,h6,h7⟩
section
variable {X:Cx}{es:List Expr}{t:TA}{pos:Pos}
end
section
variable {S:Addr->Prop}{σ:St}{H:Hp}
end
section
variable {D:Ends}{σ:St}{H:Hp}{t u:TS}{te:TE}{ta:TA}{g:TG}{Q:VK}
theorem du (h:D.nx σ H):BR D σ H:=h
theorem aF (h:t { D with nx:=u D } σ H):zQ t u D σ H:=h
theorem j7 (h:∀ c:St->Hp->Prop,(∀ af H',u D af H'->c af H')->t { D with nx:=c } σ H):zQ t u D σ H:=h (u D) fun _ _ z=>z
theorem aW (h:te σ H fun x H1=>g x σ H1 D.nx):vz te g D σ H:=h
theorem iM (h:te σ H D.rt):Dd te D σ H:=h
theorem aK {i:Nat}{v:V}{R:St->Hp->Prop}(h:R (σ.set i (some v)) H):bF i v σ H R:=h
end
theorem vU {prog:Program}{w:World}{A:Around}(hh:A.handled=none)(it t:Addr)(fI:t≠it)(its:Array Value) :
  Draws prog w A it [it,t] its.size (fun i v=>its[i]?=some v) (fun i h=>h.IsTupleIter it t i/\h.IsTuple t its) where
 live:=fun _ _ st=>let ⟨o,ho,_⟩:=st.1;⟨o,ho⟩
 frame:=fun _ _ _ st hk=>by
  obtain ⟨⟨o,h1,r1⟩,⟨o2,h2,r2⟩⟩:=st;exact ⟨⟨o,hk it (by simp) o h1,r1⟩,⟨o2,hk t (by simp) o2 h2,r2⟩⟩
 item:=fun i s Q E hi st hQ=>by
  refine Dz st.1 st.2 (x:=its[i]) (by simp [hi]) fun h' h1 h2=>hQ _ h' s.toks (by simp [hi]) ⟨h1,?_⟩ h2;obtain ⟨o,e,r⟩:=st.2;exact ⟨o,h2.extBut _ _ fI e,r⟩
 done:=fun s Q E st hE=>lu hh st.1 st.2 (by simp) hE
theorem lB (t:Addr)(its:Array Value) :
  Meets (Builtin.«enumerate.__new__» ⟨[.type "enumerate",.ref t],[]⟩) (fun _ R s=>s.heap.IsTuple t its /\
   R (.ok (.ret (.ref (zA s.heap t).objs.size))) { s with heap:=(zA s.heap t).push { cls:=.type "enumerate",data:=.fields #[.none,.bool false,.ref s.heap.objs.size,rawInt 0,.none,.none] } }) :=
 .of_wp fun prog w A R s h=>by
  obtain ⟨hp,g,d,tk,os⟩:=s;obtain ⟨ht,h⟩:=h;have vT:=sub_enumerate;have hT:Heap.IsTuple (Shared.heap ⟨hp,g,d,tk,os⟩) t its:=ht
  wp_walk
  refine wpAny_stack_any fun st=>zAz ?_;split
  ·rename_i c _ _ _ _ _
   cases (c == Value.type "enumerate")
   ·wp_walk using wpAny_pyIter_tuple hT
    exact ⟨_,rfl,h⟩
   ·wp_walk using wpAny_pyIter_tuple hT
    exact ⟨_,rfl,h⟩
  ·wp_walk using wpAny_pyIter_tuple hT
   exact ⟨_,rfl,h⟩
theorem mV {prog:Program}{w:World}{A:Around}{E:Value->Shared->Prop}{s:Shared}{t:Addr}{its:Array Value}{Q:Value->Shared->Prop}(ht:s.heap.IsTuple t its)
  (h:∀ h',IsEnum h' (s.heap.objs.size+1) s.heap.objs.size 0 .none->h'.IsTupleIter s.heap.objs.size t 0->(∀ c o,s.heap.get? c=some o->h'.get? c=some o)->Q (.ref (s.heap.objs.size+1)) { s with heap:=h' }) :
  wpAny (model prog w) A (call (.type "enumerate") [.ref t]) Q E s:=by
 refine callType_new F.called_enumerate (by decide) (F.typeCall_enumerate_1 _) (F.newCall_enumerate_1 _) (fun obj=>F.args_object_init_2 obj _) F.entry_enumerate_new (lB t its) ⟨ht,?_⟩;have e1:(zA s.heap t).objs.size=s.heap.objs.size+1:=Heap.size_push ..;have g2:=zB1 (zA s.heap t) (o:={ cls:=.type "enumerate",data:=.fields #[.none,.bool false,.ref s.heap.objs.size,rawInt 0,.none,.none] }) rfl;have g1:=zAx { cls:=.type "enumerate",data:=.fields #[.none,.bool false,.ref s.heap.objs.size,rawInt 0,.none,.none] } (zB1 s.heap (o:={ cls:=.type "tuple_iterator",data:=.fields #[.ref t,.int 0 0] }) rfl);show _/\_;rw [e1] at g2 ⊢;exact ⟨⟨_,g2,rfl⟩,h _ g2 ⟨_,g1,rfl,rfl⟩ fun c o x=>zAx _ (zAx _ x)⟩
def Ite (K:PySem.W.Frag)(a:Addr):It :=
 ⟨fun i H=>∃ xs x,SqT K H a xs/\xs[i]?=some x,
  fun i H v H'=>∃ T,H T=none/\v=.ref T/\∀ xs,SqT K H a xs->∃ x,xs[i]?=some x/\H'=upd H T (.tup [.int i,x]),
  fun i H=>∃ xs,SqT K H a xs/\xs.length<=i⟩
def tne (e it a:Addr)(i:Nat)(h:Heap):Prop:=(∃ old,IsEnum h e it i old)/\h.IsTupleIter it a i
theorem jy {P:Program}{w:World}{K:PySem.W.Frag}{es:List Expr}{k:Nat}{pos:Pos}{e it a:Addr}(pS:e≠it)(CL:e≠a)(CM:a≠it) :
  Turn P w K (.Tuple es k pos) (Ite K a) [e,it] e (tne e it a) where
 mem:=by simp
 obj:=fun i h st c hc=>by
  obtain ⟨⟨old,s1⟩,⟨o4,s4,c4,d4⟩⟩:=st;simp only [List.mem_cons,List.not_mem_nil,or_false] at hc;rcases hc with z | z <;> subst z
  ·exact ⟨_,s1,fun v q=>by cases q⟩
  ·exact ⟨_,s4,fun v q=>by rw [d4] at q;cases q⟩
 keep:=fun i h h' st kp=>by
  obtain ⟨⟨old,s1⟩,s4⟩:=st;exact ⟨⟨old,kp e (by simp) _ s1⟩,s4.at fun o z=>kp it (by simp) o z⟩
 item:=by
  intro X hP hw hK hc i pins s σ H E I hf st hg;subst hP hw hK;obtain ⟨⟨old,s1⟩,s4⟩:=st;obtain ⟨xs,x,gI,hx⟩:=hg;obtain ⟨its,rv,p,_⟩:=I.tuple gI;obtain ⟨ux,pT,rx⟩:=rv.get hx
  have ax:i < its.toArray.size:=by
   have:=(zAa.mp pT).1;simpa using this
  have D:=vU (prog:=X.prog) (w:=X.w) (A:=X.A.in1) (I.ok.hd hc) it a CM its.toArray;refine wpAny_pyNext_enum_itemD D s1 ⟨s4,p⟩ ax pS (by simp [pS,CL]) fun u h1 tk hu g1 g3 g5 g6 kp=>?_
  have eu:u=ux:=by
   have hu:its.toArray[i]?=some u:=hu;rw [List.getElem?_toArray,pT] at hu;exact (zAl hu).symm
  subst eu;refine ⟨_,rfl,?_⟩;refine wpAny_letOwnedTupleGo_enum g1 fun h2 e1 sb=>?_
  have live:∀ c,c∈[e,it]->∃ o,s.heap.get? c=some o:=fun c ar=>by
   simp only [List.mem_cons,List.not_mem_nil,or_false] at ar;rcases ar with q | q <;> subst q
   ·exact ⟨_,s1⟩
   ·exact let ⟨o,h,_⟩:=s4;⟨o,h⟩
  have ne:∀ c,c∈[e,it]->c≠s.heap.objs.size:=fun c ar z=>by
   obtain ⟨o,ho⟩:=live c ar;exact absurd (zB0 ho) (by rw [z];exact Nat.lt_irrefl _)
  have hT:H s.heap.objs.size=none:=I.hok.fresh (zA3 _)
  have kept:∀ c o,c ∉ [e,it]->s.heap.get? c=some o->h2.get? c=some o:=fun c o ar z =>
   sb.extBut _ _ (fun q=>ar (by simp [q])) (kp c o (fun q=>ar (by simp [q])) (fun q=>ar (by simp [q])) z)
  have trk:∀ c o,H c=some o->c ∉ [e,it]:=fun c o z ar=>by
   have:=(hf c ar).1;rw [z] at this;cases this
  have ja:h2.get? s.heap.objs.size=some { cls:=.type "tuple",data:=.seq #[.int i tk,u] }:=sb.extBut _ _ (Ne.symm (ne e (by simp))) g5
  have js:HOk X.prog X.w (upd H s.heap.objs.size (.tup [.int i,x])) h2:=fun c o z=>by
   by_cases hb:c=s.heap.objs.size
   ·subst hb;rw [aa] at z;cases z;exact ⟨by show 2<=sizeLine;decide,[.int i tk,u],.cons ⟨tk,rfl⟩ (.cons rx .nil),_,ja,rfl,_,rfl⟩
   ·rw [aC hb] at z
    refine (I.hok c o z).stay (fun d v hd q=>kept d v ?_ q) (fun d q=>by rw [aC (aD q hT)];exact q) fun d l q=>by rw [aC (aD q hT)];exact q
    rcases hd with e' | e'
    ·rw [e'];exact trk c o z
    ·exact trk d _ e'
  have I2:Inv X pins σ (upd H s.heap.objs.size (.tup [.int i,x])) { s with heap:=h2,toks:=tk+1 }:=by
   refine I.step (g':=s.gens) (d':=s.drawn) (t':=tk+1) (ch:=[e,it]) (fun c ar=>?_) (fun c o _ _ hn z _=>kept c o hn z) (fun c o _ _ hn z _=>⟨o.slots,kept c o hn z⟩)
    (fun c o _ z n=>by rw [aC (zB8 (zB0 z))];exact n) (fun c o hn z=>⟨o,kept c o hn z⟩) (fun c l z=>by rw [aC (aD z hT)];exact z) (fun c o l z=>by rw [aC (aD z hT)];exact z)
    (fun c l z=>⟨#[],by rw [aC (aD z hT),z];simp⟩) (fun m hm=>?_) js I.bare
   ·obtain ⟨f0,f1,f2,f3,f4,f5⟩:=hf c ar;exact ⟨f3,f1,f4,f5⟩
   ·obtain ⟨o,dE,ep,ho,r⟩:=hm;refine ⟨o,dE,ep,kept _ o (fun ar=>?_) ho,r⟩;exact (hf _ ar).2.1 rfl
  refine ⟨.ref s.heap.objs.size,_,I2,rfl,⟨s.heap.objs.size,hT,rfl,fun HP wa=>⟨x,?_,rfl⟩⟩,⟨⟨u,?_⟩,?_⟩,fun c ar=>?_⟩
  ·rw [I.tuple_inj wa gI];exact hx
  ·have:=e1;rw [show (((i+1:Nat):Int))=(i:Int)+1 by lia];exact this
  ·exact g3.1.extBut sb.extBut pS.symm
  ·rw [aC (ne c ar)];exact (hf c ar).1
 done:=by
  intro X hP hw hK hc i pins s σ H E I hf st hg;subst hP hw hK;obtain ⟨⟨old,s1⟩,s4⟩:=st;obtain ⟨xs,gI,hlen⟩:=hg;obtain ⟨its,rv,p,_⟩:=I.tuple gI;have hl:=rv.length
  have hT:s.TypeIs (.ref e) "enumerate" := ⟨_,s1,rfl⟩
  have fin:∀ h',Heap.ExtBut it s.heap h'->Inv X pins σ H { s with heap:=h' }:=fun h' kp=>by
   obtain ⟨f0,f1,f2,f3,f4,f5⟩:=hf it (by simp);exact I.turned (t':=s.toks) (fun b o hb z=>kp b o hb z) f0 f1 f3 f4 f5
  unfold pyNext;refine wpAny_bind (wpAny_attempt (wpAny_callSpecial?_slot (name:=Str.ofString "__next__") hT F.slot_enumerate_next (wpAny_call_entry F.slot_enumerate_next hT F.entry_enumerate_next ?_ (F.args_enumerate_next_1 _))));show wpAny _ _ (field (.ref e) 2 >>= _) _ _ _;refine wpAny_bind (wpAny_field s1 rfl (x:=.ref it) rfl ?_);refine wpAny_bind (lu (I.ok.hd hc) s4 (show s.heap.IsTuple a its.toArray from p) (by simp;lia) fun h' x sA iN=>?_);obtain ⟨o,ho,CO⟩:=iN;refine wpAny_bind (wpAny_isInstance (T:="StopIteration") (b:=true) ⟨o,ho,CO⟩ isSubtype_stop (wpAny_pure ⟨rfl,fin h' sA⟩))
 self:=fun _ _ _ _ _ st h=>wpAny_pyIter_enum st.1.choose_spec h
section
variable {X:Cx}
def xM (K:PySem.W.Frag)(t:TA):TI:=fun σ H R=>t σ H fun vs H1=>∃ a xs,vs=[.ref a]/\SqT K H1 a xs/\R (Ite K a) H1
theorem pi_enum {es:List Expr}{k:Nat}{tp:Pos}{a:Expr}{ta:TA}{p pos:Pos}(hg:Gl X "enumerate")(hm:X.mg "enumerate" = none)(ha:PA X [a] ta)(hs:starEach [a] X.env=[(false,eval a X.env)]:=by rfl) :
  PI X (.Tuple es k tp) (.Call (.Name "enumerate" p) [a] [] pos) (xM X.K ta):=by
 intro pins s σ H R I h;refine Call_ (fG I hg hm boot_enumerate (PyProof.Rows.callWith_type1 (thn (ha pos pins s σ H _ I h) fun us s1 ⟨vs,H1,I1,r1,q1⟩=>?_) hs rfl));obtain ⟨x,xs,e,hx,q⟩:=q1;subst e;obtain ⟨u,rfl,ru⟩:=vals1 r1;cases ru;obtain ⟨its,_,p1,_⟩:=I1.tuple hx;refine mV (show s1.heap.IsTuple x its.toArray from p1) fun h' z1 z4 kp=>?_;refine wpAny_pyIter_enum z1 ?_;have lx:x < s1.heap.objs.size:=by obtain ⟨_,e,_⟩:=(show s1.heap.IsTuple x its.toArray from p1);exact zB0 e
 refine ⟨_,_,_,_,H1,rfl,I1.kept (t':=s1.toks) kp,jy (e:=s1.heap.objs.size+1) (it:=s1.heap.objs.size) (a:=x) (Nat.succ_ne_self _) (Nat.ne_of_gt (Nat.lt_succ_of_lt lx)) (zB8 lx),⟨⟨_,z1⟩,z4⟩,fun c hc=>?_,q⟩
 have hle:s1.heap.objs.size<=c:=by
  simp only [List.mem_cons,List.not_mem_nil,or_false] at hc;rcases hc with q | q <;> subst q
  ·exact Nat.le_add_right _ 1
  ·exact zA3 _
 exact I1.fpOk hle (I1.hok.fresh hle)
end
theorem j8 {K:PySem.W.Frag}{a:Addr}{xs:List V}{g:TG}{tb:TS}{D:Ends}{σ:St}{H:Hp}(Pv:Nat->St->Hp->Prop)(h0:Pv 0 σ H)(hl:∀ i σ H,i<=xs.length->Pv i σ H->SqT K H a xs)
  (hs:∀ i x σ H T,xs[i]?=some x->Pv i σ H->H T=none->g (.ref T) σ (upd H T (.tup [.int i,x])) fun ay H2=>tb { D with nx:=Pv (i+1),ct:=Pv (i+1),bk:=D.nx } ay H2) (hd:∀ σ H,Pv xs.length σ H->D.nx σ H) :
  ∃ W:Nat->Nat->St->Hp->Prop,(∃ m,W 0 m σ H)/\∀ i m σ H,W i m σ H ->
   ((Ite K a).stop i H/\D.nx σ H)\/((Ite K a).go i H/\∃ N:St->Hp->Prop,(∀ af H',N af H'->∃ m',m' < m/\W (i+1) m' af H')/\∀ x H',(Ite K a).yld i H x H'->g x σ H' fun ay H2=>tb { D with nx:=N,ct:=N,bk:=D.nx } ay H2):=by
 refine ⟨fun i m σ H=>m=xs.length - i/\i<=xs.length/\Pv i σ H,⟨xs.length,by simp,Nat.zero_le _,h0⟩,?_⟩;rintro i m σ H ⟨rfl,hi,p⟩;have q:=hl i σ H hi p;by_cases ax:i < xs.length
 ·refine .inr ⟨⟨xs,xs[i],q,by simp [ax]⟩,Pv (i+1),fun af H' p'=>⟨xs.length - (i+1),by lia,rfl,ax,p'⟩,fun x H' y=>?_⟩;obtain ⟨T,nT,rfl,y⟩:=y;obtain ⟨x,ex,rfl⟩:=y xs q;exact hs i x σ H T ex p nT
 ·have e:i=xs.length:=by lia
  subst e;exact .inl ⟨⟨xs,q,zA3 _⟩,hd σ H p⟩
section
variable {X:Cx}
theorem mW (hc:X.calm=true):dX X (.builtin "min") (fun xs H Q=>∃ (p:Addr) (ns:List Int),xs=[.ref p]/\SqL X.K H p (ns.map V.int)/\ns≠[]/\∀ M,M∈ns->(∀ a∈ns,M<=a)->Q (.int M) H):=by
 intro pins s σ H xs us Q I r h;obtain ⟨p,ns,rfl,hq,fI,q⟩:=h;obtain ⟨u,rfl,ru⟩:=vals1 r;cases ru;obtain ⟨its,rv,pl,hz⟩:=I.list hq;have hi:IntsAre its ns:=intsAre_of rv;obtain ⟨zs,ez⟩:=(hi.allInts:AllInts its.toArray).items;have en:numsOf its=ns:=hi.numsOf;have hl:s.heap.IsList p (intItems zs):=ez ▸ pl.isList
 have bo:0 < zs.size:=by
  have e1:(intItems zs).size=its.length:=by rw [<- ez,zA8]
  have e2:=rv.length;rw [zA1] at e2;have e3:0 < ns.length:=List.length_pos_iff.mpr fI;simp only [intItems,Array.size_map] at e1;lia
 have hn:numsOf (intItems zs).toList=ns:=by rw [<- ez];exact en
 refine min_intList (I.ok.hd hc) hl bo fun v h' tk hv hk=>?_;obtain ⟨t,rfl⟩:=intItems_at hv;obtain ⟨h1,h2⟩:=argBest_lt (numAt zs) (zs.size - 1);rw [nums_intItems] at hn;refine ⟨.int _,H,I.kept (t':=tk) hk,⟨t,rfl⟩,q _ ?_ fun a ha=>?_⟩
 ·rw [<- hn,numAt_eq];exact getD_mem (by rw [zA1,zA9];lia)
 ·rw [<- hn] at ha;obtain ⟨j,hj,rfl⟩:=mem_getD ha;rw [zA1,zA9] at hj;rw [<- numAt_eq];exact h2 j (by lia)
inductive RCatT0I (K:PySem.W.Frag)(x:V)(y:V)(H:Hp)(Q:VK):Prop
 | mk:∀ a b ys,(x=.ref a)->(y=.ref b)->(SqT K H a [])->(SqT K H b ys)->(Q (.ref b) H)->RCatT0I K x y H Q
def DN (K:PySem.W.Frag):R2:=fun x y H Q=>RCatT0I K x y H Q
open Builtin in
theorem xN (l b:Addr)(its:Array Value)(n m:Nat)(dd sx:Option Addr)(sl oC:Array (Option Value)) :
  Meets (Builtin.«tuple.__add__» ⟨[.ref l,.ref b],[]⟩) (fun _ R s=>s.heap.get? l=some { cls:=.type "tuple",dict:=dd,data:=.seq #[] n,slots:=sl }/\s.heap.get? b=some { cls:=.type "tuple",dict:=sx,data:=.seq its m,slots:=oC }/\R (.ok (.ret (.ref b))) s):=by
 refine .of_wp fun prog w A R s h=>?_;obtain ⟨hp,g,d,tk,os⟩:=s;obtain ⟨hl,hb,h⟩:=h;have f2:=PySem.AutoSeq1.sub_tuple_tuple
 wp_walk
 exact ⟨_,rfl,h⟩
theorem xO:OpR X (binaryOp .Add) (DN X.K):=by
 intro pins s σ H x y v u Q I rx ry h;obtain ⟨a,b,ys,rfl,rfl,ha,hb,q⟩:=h;cases rx;cases ry;obtain ⟨its,r1,p1,_⟩:=I.tuple ha;obtain ⟨ba,r2,p2,_⟩:=I.tuple hb;have e:its=[]:=r1.zero;subst e;obtain ⟨⟨cls,dd,data,sl⟩,ho,hc,n,hd⟩:=id p1;obtain ⟨⟨B8,sx,data2,oC⟩,oD,vb,n2,hd2⟩:=id p2;simp only at hc hd vb hd2;subst hc hd vb hd2;exact concat_meets ⟨_,ho,rfl⟩ ⟨_,oD,rfl⟩ noFill_tuple_add seq_tuple_add PySem.F.slot_tuple_add PySem.F.entry_tuple_add (PySem.F.args_tuple_add_2 _ _) (xN a b ba.toArray n n2 dd sx sl oC) ⟨ho,oD,.ref b,H,I,rfl,q⟩
theorem xP:OpR X (binaryOp .Add) (fun x y H Q=>∃ a b xs ys,x=.ref a/\y=.ref b/\SqT X.K H a xs/\SqT X.K H b ys/\ys≠[]/\xs.length+ys.length<=sizeLine/\(xs=[]->Q (.ref b) H)/\(xs≠[]->∀ p,H p=none->Q (.ref p) (upd H p (.tup (xs++ys))))):=by
 intro pins s σ H x y v u Q I rx ry h;obtain ⟨a,b,xs,ys,rfl,rfl,ha,hb,hy,hz,q1,q2⟩:=h;by_cases hx:xs=[]
 ·subst hx;exact xO pins s σ H _ _ v u Q I rx ry ⟨a,b,ys,rfl,rfl,ha,hb,q1 rfl⟩
 ·exact Aa pins s σ H _ _ v u Q I rx ry ⟨a,b,xs,ys,rfl,rfl,ha,hb,hx,hz,fun z=>absurd z hy,fun _=>q2 hx⟩
end
section
variable {prog:Program}{w:World}{A:Around}{E:Value->Shared->Prop}{s:Shared}
open HT in
theorem j9 {t sl:Addr}{items:Array Value}{vl vu:Value}{lo hi:Option Int}{Q:Value->Shared->Prop}(ht:IsTup s.heap t items)(hs:s.heap.IsSliceOf sl vl vu .none)(pl:IsPart vl lo)(pu:IsPart vu hi)
  (h1:sIx items.size 0 lo=0) (h2:sIx items.size items.size hi=items.size) (h:Q (.ref t) s):wpAny (model prog w) A (getItem (.ref t) (.ref sl)) Q E s:=by
 obtain ⟨os,oI,hX,vc⟩:=id hs
 have Cb:s.TypeIs (.ref sl) "slice" := ⟨os,oI,hX⟩
 unfold getItem
 try with_reducible refine wpAny_holding ?_
 first | refine zAu (zAz ?_) | skip
 refine zAu (wpAny_sequenceKey ht.typeIs (by decide) ?_)
 refine zAu (wpAny_callSpecial?_slot (name:=Str.ofString "__getitem__") ht.typeIs PyProof.Rows.slot_tuple_getitem
  (wpAny_call_entry PyProof.Rows.slot_tuple_getitem ht.typeIs entry_tuple_getitem ?_ (args_tuple_getitem _ _)))
 show wpAny _ _ (Builtin.Tuple.tupleItemsOf (.ref t) >>= _) _ _ s;refine wpAny_bind (tupleItemsOf_ ht ?_);refine wpAny_bind (wpAny_typeOf Cb ?_);rw [if_pos (by decide)];refine wpAny_bind (fO hs pl pu ?_);rw [h1,h2];show wpAny _ _ (if ((((0:Nat):Int)) == 0 && (1:Int) == 1 && (items.size - 0) == items.size)=true then _ else _) _ _ s;rw [if_pos (by simp)];unfold Builtin.Tuple.tupleIsExact;refine wpAny_bind (wpAny_bind (wpAny_typeOf ht.typeIs (wpAny_pure ?_)));rw [if_pos (by decide)];exact wpAny_bind (wpAny_rule (wpAny_pure ⟨_,rfl,wpAny_pure h⟩))
end
section
variable {X:Cx}
inductive RSlWI (K:PySem.W.Frag)(x:V)(lo:Option Int)(hi:Option Int)(H:Hp)(Q:VK):Prop
 | mk:∀ a xs,(x=.ref a)->(SqT K H a xs)->(((HT.sIx xs.length 0 lo=0/\HT.sIx xs.length xs.length hi=xs.length)->Q (.ref a) H))->((¬ (HT.sIx xs.length 0 lo=0/\HT.sIx xs.length xs.length hi=xs.length)->∀ p,H p=none->Q (.ref p) (upd H p (.tup (mH xs lo hi)))))->RSlWI K x lo hi H Q
def Hr (K:PySem.W.Frag):V->Option Int->Option Int->Hp->VK->Prop:=fun x lo hi H Q=>RSlWI K x lo hi H Q
theorem An:SlR X (Hr X.K):=by
 intro pins s σ H x v vl vu lo hi sl Q I rx hs pl pu h;obtain ⟨a,xs,rfl,hx,q1,q2⟩:=h;by_cases hw:HT.sIx xs.length 0 lo=0/\HT.sIx xs.length xs.length hi=xs.length
 ·cases rx;obtain ⟨its,r,ht,hz⟩:=I.tuple hx;have hlen:its.toArray.size=xs.length:=by rw [zA8];exact r.length.symm
  refine ⟨"tuple",_,PyProof.Rows.slot_tuple_getitem.lookup,ht.typeIs,?_⟩;exact j9 ht hs pl pu (by rw [hlen];exact hw.1) (by rw [hlen];exact hw.2) ⟨.ref a,H,I,rfl,q1 hw⟩
 ·exact Dn pins s σ H _ v vl vu lo hi sl Q I rx hs pl pu ⟨a,xs,rfl,hx,hw,q2 hw⟩
end
section
variable {prog:Program}{w:World}{A:Around}{E:Value->Shared->Prop}{s:Shared}
end
section
variable {X:Cx}{e:Expr}{te:TE}{pos p2 p3 p4:Pos}{j:Nat}
end
end L2
namespace L2.EL
open PySem PySem.Spec PyProof.Rows L2
abbrev zL (h:Heap)(l:Addr):Heap:=h.push { cls:=.type "list_iterator",data:=.fields #[.ref l,.int 0 0] }
theorem lC (t:Addr)(its:Array Value) :
  Meets (Builtin.«enumerate.__new__» ⟨[.type "enumerate",.ref t],[]⟩) (fun _ R s=>s.heap.IsList t its /\
   R (.ok (.ret (.ref (zL s.heap t).objs.size))) { s with heap:=(zL s.heap t).push { cls:=.type "enumerate",data:=.fields #[.none,.bool false,.ref s.heap.objs.size,rawInt 0,.none,.none] } }) :=
 .of_wp fun prog w A R s h=>by
  obtain ⟨hp,g,d,tk,os⟩:=s;obtain ⟨ht,h⟩:=h;have vT:=sub_enumerate;have hT:Heap.IsList (Shared.heap ⟨hp,g,d,tk,os⟩) t its:=ht
  wp_walk
  refine wpAny_stack_any fun st=>zAz ?_;split
  ·rename_i c _ _ _ _ _
   cases (c == Value.type "enumerate")
   ·wp_walk using wpAny_pyIter_list hT
    exact ⟨_,rfl,h⟩
   ·wp_walk using wpAny_pyIter_list hT
    exact ⟨_,rfl,h⟩
  ·wp_walk using wpAny_pyIter_list hT
   exact ⟨_,rfl,h⟩
theorem mX {prog:Program}{w:World}{A:Around}{E:Value->Shared->Prop}{s:Shared}{t:Addr}{its:Array Value}{Q:Value->Shared->Prop}(ht:s.heap.IsList t its)
  (h:∀ h',IsEnum h' (s.heap.objs.size+1) s.heap.objs.size 0 .none->h'.IsListIter s.heap.objs.size t 0->(∀ c o,s.heap.get? c=some o->h'.get? c=some o)->Q (.ref (s.heap.objs.size+1)) { s with heap:=h' }) :
  wpAny (model prog w) A (call (.type "enumerate") [.ref t]) Q E s:=by
 refine callType_new F.called_enumerate (by decide) (F.typeCall_enumerate_1 _) (F.newCall_enumerate_1 _) (fun obj=>F.args_object_init_2 obj _) F.entry_enumerate_new (lC t its) ⟨ht,?_⟩;have e1:(zL s.heap t).objs.size=s.heap.objs.size+1:=Heap.size_push ..;have g2:=zB1 (zL s.heap t) (o:={ cls:=.type "enumerate",data:=.fields #[.none,.bool false,.ref s.heap.objs.size,rawInt 0,.none,.none] }) rfl;have g1:=zAx { cls:=.type "enumerate",data:=.fields #[.none,.bool false,.ref s.heap.objs.size,rawInt 0,.none,.none] } (zB1 s.heap (o:={ cls:=.type "list_iterator",data:=.fields #[.ref t,.int 0 0] }) rfl);show _/\_;rw [e1] at g2 ⊢;exact ⟨⟨_,g2,rfl⟩,h _ g2 ⟨_,g1,rfl,rfl⟩ fun c o x=>zAx _ (zAx _ x)⟩
def Ite (K:PySem.W.Frag)(a:Addr):It :=
 ⟨fun i H=>∃ xs x,SqL K H a xs/\xs[i]?=some x,
  fun i H v H'=>∃ T,H T=none/\v=.ref T/\∀ xs,SqL K H a xs->∃ x,xs[i]?=some x/\H'=upd H T (.tup [.int i,x]),
  fun i H=>∃ xs,SqL K H a xs/\xs.length<=i⟩
def tne (e it a:Addr)(i:Nat)(h:Heap):Prop:=(∃ old,IsEnum h e it i old)/\h.IsListIter it a i
theorem jy {P:Program}{w:World}{K:PySem.W.Frag}{es:List Expr}{k:Nat}{pos:Pos}{e it a:Addr}(pS:e≠it)(CL:e≠a)(CM:a≠it) :
  Turn P w K (.Tuple es k pos) (Ite K a) [e,it] e (tne e it a) where
 mem:=by simp
 obj:=fun i h st c hc=>by
  obtain ⟨⟨old,s1⟩,⟨o4,s4,c4,d4⟩⟩:=st;simp only [List.mem_cons,List.not_mem_nil,or_false] at hc;rcases hc with z | z <;> subst z
  ·exact ⟨_,s1,fun v q=>by cases q⟩
  ·exact ⟨_,s4,fun v q=>by rw [d4] at q;cases q⟩
 keep:=fun i h h' st kp=>by
  obtain ⟨⟨old,s1⟩,s4⟩:=st;exact ⟨⟨old,kp e (by simp) _ s1⟩,s4.at fun o z=>kp it (by simp) o z⟩
 item:=by
  intro X hP hw hK hc i pins s σ H E I hf st hg;subst hP hw hK;obtain ⟨⟨old,s1⟩,s4⟩:=st;obtain ⟨xs,x,gI,hx⟩:=hg;obtain ⟨its,rv,p,_⟩:=I.list gI;obtain ⟨ux,pT,rx⟩:=rv.get hx
  have ax:i < its.toArray.size:=by
   have:=(zAa.mp pT).1;simpa using this
  have D:=Draws.list (prog:=X.prog) (w:=X.w) (A:=X.A.in1) (I.ok.hd hc) it a CM its.toArray;refine wpAny_pyNext_enum_itemD D s1 ⟨s4,p.isList⟩ ax pS (by simp [pS,CL]) fun u h1 tk hu g1 g3 g5 g6 kp=>?_
  have eu:u=ux:=by
   have hu:its.toArray[i]?=some u:=hu;rw [List.getElem?_toArray,pT] at hu;exact (zAl hu).symm
  subst eu;refine ⟨_,rfl,?_⟩;refine wpAny_letOwnedTupleGo_enum g1 fun h2 e1 sb=>?_
  have live:∀ c,c∈[e,it]->∃ o,s.heap.get? c=some o:=fun c ar=>by
   simp only [List.mem_cons,List.not_mem_nil,or_false] at ar;rcases ar with q | q <;> subst q
   ·exact ⟨_,s1⟩
   ·exact let ⟨o,h,_⟩:=s4;⟨o,h⟩
  have ne:∀ c,c∈[e,it]->c≠s.heap.objs.size:=fun c ar z=>by
   obtain ⟨o,ho⟩:=live c ar;exact absurd (zB0 ho) (by rw [z];exact Nat.lt_irrefl _)
  have hT:H s.heap.objs.size=none:=I.hok.fresh (zA3 _)
  have kept:∀ c o,c ∉ [e,it]->s.heap.get? c=some o->h2.get? c=some o:=fun c o ar z =>
   sb.extBut _ _ (fun q=>ar (by simp [q])) (kp c o (fun q=>ar (by simp [q])) (fun q=>ar (by simp [q])) z)
  have trk:∀ c o,H c=some o->c ∉ [e,it]:=fun c o z ar=>by
   have:=(hf c ar).1;rw [z] at this;cases this
  have ja:h2.get? s.heap.objs.size=some { cls:=.type "tuple",data:=.seq #[.int i tk,u] }:=sb.extBut _ _ (Ne.symm (ne e (by simp))) g5
  have js:HOk X.prog X.w (upd H s.heap.objs.size (.tup [.int i,x])) h2:=fun c o z=>by
   by_cases hb:c=s.heap.objs.size
   ·subst hb;rw [aa] at z;cases z;exact ⟨by show 2<=sizeLine;decide,[.int i tk,u],.cons ⟨tk,rfl⟩ (.cons rx .nil),_,ja,rfl,_,rfl⟩
   ·rw [aC hb] at z
    refine (I.hok c o z).stay (fun d v hd q=>kept d v ?_ q) (fun d q=>by rw [aC (aD q hT)];exact q) fun d l q=>by rw [aC (aD q hT)];exact q
    rcases hd with e' | e'
    ·rw [e'];exact trk c o z
    ·exact trk d _ e'
  have I2:Inv X pins σ (upd H s.heap.objs.size (.tup [.int i,x])) { s with heap:=h2,toks:=tk+1 }:=by
   refine I.step (g':=s.gens) (d':=s.drawn) (t':=tk+1) (ch:=[e,it]) (fun c ar=>?_) (fun c o _ _ hn z _=>kept c o hn z) (fun c o _ _ hn z _=>⟨o.slots,kept c o hn z⟩)
    (fun c o _ z n=>by rw [aC (zB8 (zB0 z))];exact n) (fun c o hn z=>⟨o,kept c o hn z⟩) (fun c l z=>by rw [aC (aD z hT)];exact z) (fun c o l z=>by rw [aC (aD z hT)];exact z)
    (fun c l z=>⟨#[],by rw [aC (aD z hT),z];simp⟩) (fun m hm=>?_) js I.bare
   ·obtain ⟨f0,f1,f2,f3,f4,f5⟩:=hf c ar;exact ⟨f3,f1,f4,f5⟩
   ·obtain ⟨o,dE,ep,ho,r⟩:=hm;refine ⟨o,dE,ep,kept _ o (fun ar=>?_) ho,r⟩;exact (hf _ ar).2.1 rfl
  refine ⟨.ref s.heap.objs.size,_,I2,rfl,⟨s.heap.objs.size,hT,rfl,fun HP wa=>⟨x,?_,rfl⟩⟩,⟨⟨u,?_⟩,?_⟩,fun c ar=>?_⟩
  ·rw [I.list_inj wa gI];exact hx
  ·have:=e1;rw [show (((i+1:Nat):Int))=(i:Int)+1 by lia];exact this
  ·exact g3.1.extBut sb.extBut pS.symm
  ·rw [aC (ne c ar)];exact (hf c ar).1
 done:=by
  intro X hP hw hK hc i pins s σ H E I hf st hg;subst hP hw hK;obtain ⟨⟨old,s1⟩,s4⟩:=st;obtain ⟨xs,gI,hlen⟩:=hg;obtain ⟨its,rv,p,_⟩:=I.list gI;have hl:=rv.length
  have hT:s.TypeIs (.ref e) "enumerate" := ⟨_,s1,rfl⟩
  have fin:∀ h',Heap.ExtBut it s.heap h'->Inv X pins σ H { s with heap:=h' }:=fun h' kp=>by
   obtain ⟨f0,f1,f2,f3,f4,f5⟩:=hf it (by simp);exact I.turned (t':=s.toks) (fun b o hb z=>kp b o hb z) f0 f1 f3 f4 f5
  unfold pyNext;refine wpAny_bind (wpAny_attempt (wpAny_callSpecial?_slot (name:=Str.ofString "__next__") hT F.slot_enumerate_next (wpAny_call_entry F.slot_enumerate_next hT F.entry_enumerate_next ?_ (F.args_enumerate_next_1 _))));show wpAny _ _ (field (.ref e) 2 >>= _) _ _ _;refine wpAny_bind (wpAny_field s1 rfl (x:=.ref it) rfl ?_);refine wpAny_bind (wpAny_nextOf_list_end (I.ok.hd hc) s4 p.isList (by simp;lia) fun h' x sA iN=>?_);obtain ⟨o,ho,CO⟩:=iN;refine wpAny_bind (wpAny_isInstance (T:="StopIteration") (b:=true) ⟨o,ho,CO⟩ isSubtype_stop (wpAny_pure ⟨rfl,fin h' sA⟩))
 self:=fun _ _ _ _ _ st h=>wpAny_pyIter_enum st.1.choose_spec h
section
variable {X:Cx}
def xM (K:PySem.W.Frag)(t:TA):TI:=fun σ H R=>t σ H fun vs H1=>∃ a xs,vs=[.ref a]/\SqL K H1 a xs/\R (Ite K a) H1
theorem pi_enum {es:List Expr}{k:Nat}{tp:Pos}{a:Expr}{ta:TA}{p pos:Pos}(hg:Gl X "enumerate")(hm:X.mg "enumerate" = none)(ha:PA X [a] ta)(hs:starEach [a] X.env=[(false,eval a X.env)]:=by rfl) :
  PI X (.Tuple es k tp) (.Call (.Name "enumerate" p) [a] [] pos) (xM X.K ta):=by
 intro pins s σ H R I h;refine Call_ (fG I hg hm boot_enumerate (PyProof.Rows.callWith_type1 (thn (ha pos pins s σ H _ I h) fun us s1 ⟨vs,H1,I1,r1,q1⟩=>?_) hs rfl));obtain ⟨x,xs,e,hx,q⟩:=q1;subst e;obtain ⟨u,rfl,ru⟩:=vals1 r1;cases ru;obtain ⟨its,_,p1,_⟩:=I1.list hx;refine mX p1.isList fun h' z1 z4 kp=>?_;refine wpAny_pyIter_enum z1 ?_;have lx:x < s1.heap.objs.size:=by obtain ⟨_,e,_⟩:=p1.isList;exact zB0 e
 refine ⟨_,_,_,_,H1,rfl,I1.kept (t':=s1.toks) kp,jy (e:=s1.heap.objs.size+1) (it:=s1.heap.objs.size) (a:=x) (Nat.succ_ne_self _) (Nat.ne_of_gt (Nat.lt_succ_of_lt lx)) (zB8 lx),⟨⟨_,z1⟩,z4⟩,fun c hc=>?_,q⟩
 have hle:s1.heap.objs.size<=c:=by
  simp only [List.mem_cons,List.not_mem_nil,or_false] at hc;rcases hc with q | q <;> subst q
  ·exact Nat.le_add_right _ 1
  ·exact zA3 _
 exact I1.fpOk hle (I1.hok.fresh hle)
end
end L2.EL
namespace L2
open PySem PySem.Spec PyProof.Rows PySem.Calls
section
variable {X:Cx}
theorem d9 (hc:X.calm=true):dX X (.builtin "sum") (fun xs H Q=>∃ (p:Addr) (ns:List Int),xs=[.ref p]/\(SqL X.K H p (ns.map V.int)\/SqT X.K H p (ns.map V.int))/\Q (.int ns.sum) H):=by
 intro pins s σ H xs us Q I r h;obtain ⟨p,ns,rfl,hq,q⟩:=h;obtain ⟨u,rfl,ru⟩:=vals1 r;cases ru
 have go:∀ its:List Value,Vals (ns.map V.int) its->∃ zs:Array (Int×Tok),its.toArray=intItems zs/\preSum (numAt zs) zs.size=ns.sum:=fun its rv=>by
  have hi:IntsAre its ns:=intsAre_of rv;obtain ⟨zs,ez⟩:=(hi.allInts:AllInts its.toArray).items;refine ⟨zs,ez,?_⟩;have en:numsOf its.toArray.toList=ns:=hi.numsOf;rw [ez,nums_intItems] at en;rw [preSum_eq,List.take_of_length_le (by simp),en]
 rcases hq with hq | hq
 ·obtain ⟨its,rv,pl,hz⟩:=I.list hq;obtain ⟨zs,ez,es⟩:=go its rv;refine sum_intListG (I.ok.hd hc) (ez ▸ pl.isList) fun h' tk t' hk=>?_;rw [es];exact ⟨.int _,H,I.kept (t':=tk) hk,⟨t',rfl⟩,q⟩
 ·obtain ⟨its,rv,pl,hz⟩:=I.tuple hq;obtain ⟨zs,ez,es⟩:=go its rv;have ht:s.heap.IsTuple p its.toArray:=pl;refine PySem.W.ktm_sumG (I.ok.hd hc) (ez ▸ ht) fun h' tk t' hk=>?_;rw [es];exact ⟨.int _,H,I.kept (t':=tk) hk,⟨t',rfl⟩,q⟩
end
section
open PySem.W
variable {prog:Program}{w:World}{A:Around}{E:Value->Shared->Prop}{s:Shared}
end
section
variable {X:Cx}
end
end L2
namespace Srt
open PySem PyProof.Rows
def fD:Bool->Keyed->Array Keyed->Nat->Nat->Nat->StateT SortSt Sem (Option Nat):=sortPriv% PySem.Builtin.gallop
section
variable {prog:Program}{w:World}{A:Around}{E:Value->Shared->Prop}{s:Shared}{κ:PyProof.Rows.KeyKind}
def Fy (prog:Program)(w:World)(A:Around)(E:Value->Shared->Prop)(s:Shared)(κ:PyProof.Rows.KeyKind)(st:SortSt):Prop :=
 ∀ (x y:Keyed) (a b:κ.α) (Q:Option Bool->SortSt->Prop),κ.keyOf x.1=some a->κ.keyOf y.1=some b->Q (some (κ.blt a b)) st->wpS (model prog w) A E s (lt' x y) Q st
theorem aX {arr:Array Keyed}{i:Nat}{p:Keyed}{Q:Keyed->SortSt->Prop}{st:SortSt}(e:arr[i]?=some p)(h:Q p st):wpS (model prog w) A E s (elem' arr i) Q st:=by
 rw [elem'_eq,e];exact wpS_pure h
def bey (κ:PyProof.Rows.KeyKind)(left:Bool)(k:κ.α)(x:κ.α):Bool:=if left then κ.blt x k else !(κ.blt k x)
theorem dB {left:Bool}{key:Keyed}{arr:Array Keyed}{b n h:Nat}{Q:Option Nat->SortSt->Prop}{st:SortSt}{kk:κ.α}(hL:Fy prog w A E s κ st)(hk:κ.keyOf key.1=some kk)(hn:h < n)
  (mP:∀ i,i < n->∃ p a,arr[b+i]?=some p/\κ.keyOf p.1=some a/\KK κ arr (b+i)=a) (hm:∀ i j,i<=j->j < n->bey κ left kk (KK κ arr (b+j))=true->bey κ left kk (KK κ arr (b+i))=true)
  (q:∀ k,k<=n->(∀ i,i < k->bey κ left kk (KK κ arr (b+i))=true)->(∀ i,k<=i->i < n->bey κ left kk (KK κ arr (b+i))=false)->Q (some k) st) :
  wpS (model prog w) A E s (fD left key arr b n h) Q st:=by
 have ij:∀ (i:Nat) (R:Option Bool->SortSt->Prop),i < n->R (some (bey κ left kk (KK κ arr (b+i)))) st->wpS (model prog w) A E s (do
   let x <- elem' arr (b+i)
   if left=true then lt' x key else do
    let r <- lt' key x
    pure (Option.map (fun x=>!x) r)) R st:=fun i R hi hR=>by
  obtain ⟨p,a,e1,e2,e3⟩:=mP i hi;refine wpS_bind (aX e1 ?_);unfold bey at hR;rw [e3] at hR
  cases left with
  | true =>
   rw [zAw rfl];exact hL _ _ _ _ _ e2 hk hR
  | false =>
   rw [zAv (by decide)];exact wpS_bind (hL _ _ _ _ _ hk e2 (wpS_pure hR))
 generalize Kj:(fun i=>bey κ left kk (KK κ arr (b+i)))=β
 have CS:∀ i,bey κ left kk (KK κ arr (b+i))=β i:=fun i=>by rw [<- Kj]
 simp only [CS] at ij hm q
 delta fD
 refine wpS_bind (ij h _ hn ?_)
 cases e0:β h with
 | true =>
  dsimp only;rw [if_pos rfl]
  refine wpS_bind (wpS_mono (wpS_forRange (I:=fun x c st'=>st'=st/\c.1=none/\c.2.1 < c.2.2/\c.2.1 < n - h/\x < c.2.2/\β (h+c.2.1)=true)
   (Q:=fun c st'=>st'=st/\c.1=none/\c.2.1 < c.2.2/\c.2.1 < n - h/\β (h+c.2.1)=true/\(c.2.2 ≥ n - h\/(c.2.2 < n - h/\β (h+c.2.2)=false))) ?_ ?_ ⟨rfl,rfl,(by show 0 < 1;decide),(by show 0 < n - h;lia),(by show 0 < 1;decide),(show β (h+0)=true from e0)⟩) ?_)
  ·rintro x ⟨c0,l,o⟩ st' _ hx ⟨rfl,rfl,g1,g2,g3,g4⟩;dsimp only at g1 g2 g3 g4 ⊢;by_cases ho:o ≥ n - h
   ·rw [zAw ho];exact wpS_pure ⟨rfl,rfl,g1,g2,g4,.inl ho⟩
   ·rw [zAv ho];refine wpS_bind (ij (h+o) _ (by lia) ?_)
    cases eb:β (h+o) with
    | true =>
     dsimp only;rw [if_neg (by decide)];exact wpS_pure ⟨rfl,rfl,by dsimp only;lia,by dsimp only;lia,by dsimp only;lia,eb⟩
    | false =>
     dsimp only;rw [if_pos (by decide)];exact wpS_pure ⟨rfl,rfl,g1,g2,g4,.inr ⟨by dsimp only;lia,eb⟩⟩
  ·rintro ⟨c0,l,o⟩ st' ⟨rfl,rfl,g1,g2,g3,g4⟩;dsimp only at g1 g2 g3 g4 ⊢;exact ⟨rfl,rfl,g1,g2,g4,.inl (by lia)⟩
  ·rintro ⟨c0,l,o⟩ st' ⟨rfl,rfl,g1,g2,g4,g5⟩;dsimp only at g1 g2 g4 g5 ⊢
   have w4:∀ i,h+min o (n - h)<=i->i < n->β i=false:=fun i hi f6=>by
    rcases g5 with g5 | ⟨g5,g6⟩
    ·lia
    ·cases e2:β i with
     | false=>rfl
     | true =>
      have:=hm (h+o) i (by lia) f6 e2;rw [g6] at this;cases this
   obtain ⟨lo,dP⟩:∃ lo,lo=h+l+1:=⟨_,rfl⟩
   obtain ⟨hi,iE⟩:∃ hi,hi=h+min o (n - h):=⟨_,rfl⟩
   have w1:lo<=hi:=by lia
   have w2:hi<=n:=by lia
   have w3:∀ i,i < lo->β i=true:=fun i hi=>hm i (h+l) (by lia) (by lia) g4;have w4:∀ i,hi<=i->i < n->β i=false:=by rw [iE];exact w4
   rw [<- dP,<- iE]
   refine wpS_bind (wpS_mono (wpS_forRange (I:=fun x c ck=>ck=st'/\c.1=none/\c.2.1<=c.2.2/\c.2.2<=n/\c.2.2 - c.2.1<=n - x/\(∀ i,i < c.2.1->β i=true)/\(∀ i,c.2.2<=i->i < n->β i=false))
    (Q:=fun c ck=>ck=st'/\c.1=none/\c.2.2<=n/\(∀ i,i < c.2.2->β i=true)/\(∀ i,c.2.2<=i->i < n->β i=false)) ?_ ?_ ⟨rfl,rfl,w1,w2,(by show hi - lo<=n - 0;lia),w3,w4⟩) ?_)
   ·rintro x ⟨c0,l,r⟩ ck _ hx ⟨rfl,rfl,g1,g2,g3,g4,g5⟩;dsimp only at g1 g2 g3 g4 g5 ⊢;by_cases ip:l ≥ r
    ·rw [zAw ip];have e:l=r:=by lia
     exact wpS_pure ⟨rfl,rfl,g2,by rw [<- e];exact g4,g5⟩
    ·rw [zAv ip];refine wpS_bind (ij (l+(r - l) / 2) _ (by lia) ?_)
     cases eb:β (l+(r - l) / 2) with
     | true =>
      dsimp only;rw [if_pos rfl];exact wpS_pure ⟨rfl,rfl,by dsimp only;lia,g2,by dsimp only;lia,fun i hi=>hm i _ (by dsimp only at hi;lia) (by lia) eb,g5⟩
     | false =>
      dsimp only;rw [if_neg (by decide)];refine wpS_pure ⟨rfl,rfl,by dsimp only;lia,by dsimp only;lia,by dsimp only;lia,g4,fun i hi f6=>?_⟩
      cases e2:β i with
      | false=>rfl
      | true =>
       have:=hm (l+(r - l) / 2) i hi f6 e2;rw [eb] at this;cases this
   ·rintro ⟨c0,l,r⟩ ck ⟨rfl,rfl,g1,g2,g3,g4,g5⟩;dsimp only at g1 g2 g3 g4 g5 ⊢;have e:l=r:=by lia
    exact ⟨rfl,rfl,g2,by rw [<- e];exact g4,g5⟩
   ·rintro ⟨c0,l,r⟩ ck ⟨rfl,rfl,g1,g2,g3⟩;exact wpS_pure (q _ g1 g2 g3)
 | false =>
  dsimp only;rw [if_neg (by decide)]
  refine wpS_bind (wpS_mono (wpS_forRange (I:=fun x c st'=>st'=st/\c.1=none/\c.2.1 < c.2.2/\c.2.1 < h+1/\x < c.2.2/\β (h - c.2.1)=false)
   (Q:=fun c st'=>st'=st/\c.1=none/\c.2.1 < c.2.2/\c.2.1 < h+1/\β (h - c.2.1)=false/\(c.2.2 ≥ h+1\/(c.2.2 < h+1/\β (h - c.2.2)=true))) ?_ ?_ ⟨rfl,rfl,(by show 0 < 1;decide),(by show 0 < h+1;lia),(by show 0 < 1;decide),(show β (h - 0)=false from e0)⟩) ?_)
  ·rintro x ⟨c0,l,o⟩ st' _ hx ⟨rfl,rfl,g1,g2,g3,g4⟩;dsimp only at g1 g2 g3 g4 ⊢;by_cases ho:o ≥ h+1
   ·rw [zAw ho];exact wpS_pure ⟨rfl,rfl,g1,g2,g4,.inl ho⟩
   ·rw [zAv ho];refine wpS_bind (ij (h - o) _ (by lia) ?_)
    cases eb:β (h - o) with
    | false =>
     dsimp only;rw [if_neg (by decide)];exact wpS_pure ⟨rfl,rfl,by dsimp only;lia,by dsimp only;lia,by dsimp only;lia,eb⟩
    | true =>
     dsimp only;rw [if_pos rfl];exact wpS_pure ⟨rfl,rfl,g1,g2,g4,.inr ⟨by dsimp only;lia,eb⟩⟩
  ·rintro ⟨c0,l,o⟩ st' ⟨rfl,rfl,g1,g2,g3,g4⟩;dsimp only at g1 g2 g3 g4 ⊢;exact ⟨rfl,rfl,g1,g2,g4,.inl (by lia)⟩
  ·rintro ⟨c0,l,o⟩ st' ⟨rfl,rfl,g1,g2,g4,g5⟩;dsimp only at g1 g2 g4 g5 ⊢
   have w3:∀ i,i < h+1 - min o (h+1)->β i=true:=fun i hi=>by
    rcases g5 with g5 | ⟨g5,g6⟩
    ·lia
    ·exact hm i (h - o) (by lia) (by lia) g6
   have w4:∀ i,h - l<=i->i < n->β i=false:=fun i hi f6=>by
    cases e2:β i with
    | false=>rfl
    | true =>
     have:=hm (h - l) i hi f6 e2;rw [g4] at this;cases this
   obtain ⟨lo,dP⟩:∃ lo,lo=h+1 - min o (h+1):=⟨_,rfl⟩
   obtain ⟨hi,iE⟩:∃ hi,hi=h - l:=⟨_,rfl⟩
   have w1:lo<=hi:=by lia
   have w2:hi<=n:=by lia
   have w3:∀ i,i < lo->β i=true:=by rw [dP];exact w3
   have w4:∀ i,hi<=i->i < n->β i=false:=by rw [iE];exact w4
   rw [<- dP,<- iE]
   refine wpS_bind (wpS_mono (wpS_forRange (I:=fun x c ck=>ck=st'/\c.1=none/\c.2.1<=c.2.2/\c.2.2<=n/\c.2.2 - c.2.1<=n - x/\(∀ i,i < c.2.1->β i=true)/\(∀ i,c.2.2<=i->i < n->β i=false))
    (Q:=fun c ck=>ck=st'/\c.1=none/\c.2.2<=n/\(∀ i,i < c.2.2->β i=true)/\(∀ i,c.2.2<=i->i < n->β i=false)) ?_ ?_ ⟨rfl,rfl,w1,w2,(by show hi - lo<=n - 0;lia),w3,w4⟩) ?_)
   ·rintro x ⟨c0,l,r⟩ ck _ hx ⟨rfl,rfl,g1,g2,g3,g4,g5⟩;dsimp only at g1 g2 g3 g4 g5 ⊢;by_cases ip:l ≥ r
    ·rw [zAw ip];have e:l=r:=by lia
     exact wpS_pure ⟨rfl,rfl,g2,by rw [<- e];exact g4,g5⟩
    ·rw [zAv ip];refine wpS_bind (ij (l+(r - l) / 2) _ (by lia) ?_)
     cases eb:β (l+(r - l) / 2) with
     | true =>
      dsimp only;rw [if_pos rfl];exact wpS_pure ⟨rfl,rfl,by dsimp only;lia,g2,by dsimp only;lia,fun i hi=>hm i _ (by dsimp only at hi;lia) (by lia) eb,g5⟩
     | false =>
      dsimp only;rw [if_neg (by decide)];refine wpS_pure ⟨rfl,rfl,by dsimp only;lia,by dsimp only;lia,by dsimp only;lia,g4,fun i hi f6=>?_⟩
      cases e2:β i with
      | false=>rfl
      | true =>
       have:=hm (l+(r - l) / 2) i hi f6 e2;rw [eb] at this;cases this
   ·rintro ⟨c0,l,r⟩ ck ⟨rfl,rfl,g1,g2,g3,g4,g5⟩;dsimp only at g1 g2 g3 g4 g5 ⊢;have e:l=r:=by lia
    exact ⟨rfl,rfl,g2,by rw [<- e];exact g4,g5⟩
   ·rintro ⟨c0,l,r⟩ ck ⟨rfl,rfl,g1,g2,g3⟩;exact wpS_pure (q _ g1 g2 g3)
end
abbrev Sm:=StateT SortSt Sem
def vV (lo a m:Nat):Sm AscSt :=
 forIn [a:m] ((none,a):AscSt) fun _ c=>do
  let x <- ltAt' (lo+c.snd) (lo+c.snd - 1)
  match x with
  | some b=>if b=true then pure (ForInStep.done (none,c.snd)) else pure (ForInStep.yield (none,c.snd+1))
  | _=>pure (ForInStep.done (some none,c.snd))
def nY (lo n m:Nat):Sm (Option Nat):=do
 reverseSlice' lo (lo+n)
 let c <- vV lo n m
 match c.fst with
 | some r=>pure r
 | none=>pure (some c.snd)
def uC (lo n m:Nat):Sm DescSt :=
 forIn [n:m] ((none,n,0):DescSt) fun _ c=>do
  let x <- ltAt' (lo+c.snd.fst) (lo+c.snd.fst - 1)
  match x with
  | some b =>
   if b=true then
    if c.snd.snd > 0 then do
     reverseSlice' (lo+c.snd.fst - (c.snd.snd+1)) (lo+c.snd.fst)
     pure (ForInStep.yield (none,c.snd.fst+1,0))
    else pure (ForInStep.yield (none,c.snd.fst+1,0))
   else do
    let y <- ltAt' (lo+c.snd.fst - 1) (lo+c.snd.fst)
    match y with
    | some d =>
     if d=true then pure (ForInStep.done (none,c.snd.fst,c.snd.snd))
     else pure (ForInStep.yield (none,c.snd.fst+1,c.snd.snd+1))
    | _=>pure (ForInStep.done (some none,c.snd.fst,c.snd.snd))
  | _=>pure (ForInStep.done (some none,c.snd.fst,c.snd.snd))
def nZ (lo n m:Nat):Sm (Option Nat):=do
 liftM (rule "list.sort.descending-run")
 let c <- uC lo (n+1) m
 match c.fst with
 | some r=>pure r
 | none =>
  if c.snd.snd > 0 then do
   reverseSlice' (lo+c.snd.fst - (c.snd.snd+1)) (lo+c.snd.fst)
   nY lo c.snd.fst m
  else nY lo c.snd.fst m
theorem bc {α β:Type}{m m':Sm α}{f f':α->Sm β}(h:m=m')(h':f=f'):(m >>= f)=(m' >>= f'):=by rw [h,h']
theorem vW (lo m:Nat):countRun' lo m=(do
  let c <- vV lo 1 m
  match c.fst with
  | some r=>pure r
  | none =>
   if (c.snd == m)=true then pure (some c.snd)
   else if c.snd > 1 then do
    let x <- ltAt' lo (lo+c.snd - 1)
    match x with
    | some b=>if b=true then pure (some c.snd) else do
      reverseSlice' lo (lo+c.snd)
      nZ lo c.snd m
    | _=>pure none
   else nZ lo c.snd m):=by
 rw [countRun'_eq]
 have tl:∀ n:Nat,((do
   reverseSlice' lo (lo+n)
   let mut n:=n
   for _ in [n:m] do
    let some smaller <- ltAt' (lo+n) (lo+n - 1) | return none
    if smaller then break
    n:=n+1
   return some n):Sm (Option Nat))=nY lo n m:=fun n=>by
  unfold nY vV;refine bc rfl (funext fun u=>bc rfl (funext fun c=>?_));obtain ⟨r,n⟩:=c;cases r <;> rfl
 have pl:∀ n:Nat,((do
   rule "list.sort.descending-run"
   let mut n:=n+1
   let mut neq:=0
   for _ in [n:m] do
    let some smaller <- ltAt' (lo+n) (lo+n - 1) | return none
    if smaller then
     if neq > 0 then reverseSlice' (lo+n - (neq+1)) (lo+n)
     neq:=0
    else
     let some larger <- ltAt' (lo+n - 1) (lo+n) | return none
     if larger then break
     neq:=neq+1
    n:=n+1
   if neq > 0 then reverseSlice' (lo+n - (neq+1)) (lo+n)
   reverseSlice' lo (lo+n)
   for _ in [n:m] do
    let some smaller <- ltAt' (lo+n) (lo+n - 1) | return none
    if smaller then break
    n:=n+1
   return some n):Sm (Option Nat))=nZ lo n m:=fun n=>by
  unfold nZ uC;refine bc rfl (funext fun u=>bc rfl (funext fun c=>?_));obtain ⟨r,n2,q2⟩:=c
  cases r with
  | some r=>rfl
  | none =>
   dsimp only;split
   ·exact bc rfl (funext fun u=>tl n2)
   ·exact tl n2
 unfold vV;refine bc rfl (funext fun c=>?_);obtain ⟨r,n⟩:=c
 cases r with
 | some r=>rfl
 | none =>
  dsimp only;split
  ·rfl
  ·split
   ·refine bc rfl (funext fun x=>?_)
    cases x with
    | none=>rfl
    | some b =>
     dsimp only;split
     ·rfl
     ·exact bc rfl (funext fun u=>pl n)
   ·exact pl n
structure SB (ks:SortKind)(ab:Array Keyed)(st:SortSt):Prop where
 kind:kindOf st=ks
 ok:failedOf st=none
 pm:(arrOf st).Perm ab
def Seg (κ:PyProof.Rows.KeyKind)(xs:Array Keyed)(a b:Nat):Prop:=∀ i j,a<=i->i<=j->j < b->κ.kle (KK κ xs i) (KK κ xs j)
def Non (κ:PyProof.Rows.KeyKind)(xs:Array Keyed)(a b:Nat):Prop:=∀ i j,a<=i->i<=j->j < b->κ.kle (KK κ xs j) (KK κ xs i)
structure Out (st st':SortSt)(a b:Nat):Prop where
 out:∀ k,(k < a\/b<=k)->(arrOf st')[k]?=(arrOf st)[k]?
 pend:pendingOf st'=pendingOf st
theorem Out.refl (st:SortSt)(a b:Nat):Out st st a b:=⟨fun _ _=>rfl,rfl⟩
theorem Out.trans {st fx st2:SortSt}{a b:Nat}(h:Out st fx a b)(h':Out fx st2 a b):Out st st2 a b:=⟨fun k hk=>(h'.out k hk).trans (h.out k hk),h'.pend.trans h.pend⟩
section
variable {prog:Program}{w:World}{A:Around}{E:Value->Shared->Prop}{s:Shared}{κ:PyProof.Rows.KeyKind}{ks:SortKind}{ab:Array Keyed}
def LtAll (prog:Program)(w:World)(A:Around)(E:Value->Shared->Prop)(s:Shared)(κ:PyProof.Rows.KeyKind)(ks:SortKind):Prop:=∀ st,kindOf st=ks->Fy prog w A E s κ st
theorem SB.size {st:SortSt}(B:SB ks ab st):(arrOf st).size=ab.size:=B.pm.size_eq
theorem SB.item {st:SortSt}(B:SB ks ab st)(h0:KeysOf κ ab){i:Nat}(hi:i < ab.size):∃ p a,(arrOf st)[i]?=some p/\κ.keyOf p.1=some a/\KK κ (arrOf st) i=a:=by
 have fw:i < (arrOf st).size:=by rw [B.size];exact hi
 have e:(arrOf st)[i]?=some (arrOf st)[i]:=Array.getElem?_eq_getElem fw;have hm:(arrOf st)[i]∈ab.toList:=(Array.perm_iff_toList_perm.mp B.pm).mem_iff.mp (Array.mem_toList_iff.mpr (Array.getElem_mem fw));obtain ⟨a,ha⟩:=h0 _ hm;refine ⟨_,a,e,ha,?_⟩;unfold KK;rw [e];dsimp only;rw [ha];rfl
theorem SB.arr {st:SortSt}(B:SB ks ab st){xs:Array Keyed}(h:xs.Perm (arrOf st)):SB ks ab (setArr st xs):=⟨B.kind,B.ok,h.trans B.pm⟩
theorem ltA (hL:LtAll prog w A E s κ ks){st:SortSt}{i j:Nat}{Q:Option Bool->SortSt->Prop}(B:SB ks ab st)(h0:KeysOf κ ab)(hi:i < ab.size)(hj:j < ab.size)(h:Q (some (κ.blt (KK κ (arrOf st) i) (KK κ (arrOf st) j))) st) :
  wpS (model prog w) A E s (ltAt' i j) Q st:=by
 obtain ⟨p,a,e1,ka,ea⟩:=B.item (κ:=κ) h0 hi;obtain ⟨q,b,e2,kb,eb⟩:=B.item (κ:=κ) h0 hj;rw [ea,eb] at h;rw [ltAt'_eq];refine wpS_bind (wpS_get (wpS_bind (aX e1 (wpS_bind (aX e2 ?_)))));exact hL st B.kind p q a b Q ka kb h
theorem q8 {st:SortSt}{i j:Nat}{Q:Unit->SortSt->Prop}(h:Q () (setArr st (mirror (arrOf st) i j ((j - i) / 2)))):wpS (model prog w) A E s (reverseSlice' i j) Q st:=wpS_reverse h
theorem Out.rev {st:SortSt}{i j a b:Nat}(hj:j<=(arrOf st).size)(h1:a<=i)(h2:j<=b):Out st (setArr st (mirror (arrOf st) i j ((j - i) / 2))) a b:=by
 refine ⟨fun k hk=>?_,rfl⟩;show (mirror (arrOf st) i j ((j - i) / 2))[k]?=_;rw [getElem?_mirror_all hj,zAv (by lia)]
theorem uD (hL:LtAll prog w A E s κ ks)(h0:KeysOf κ ab){st:SortSt}{lo a m:Nat}{Q:AscSt->SortSt->Prop}(hn:lo+m<=ab.size)(ha:1<=a)(Kk:a<=m)(B:SB ks ab st)(hs:Seg κ (arrOf st) lo (lo+a))
  (h:∀ n,a<=n->n<=m->Seg κ (arrOf st) lo (lo+n)->(n=m\/κ.klt (KK κ (arrOf st) (lo+n)) (KK κ (arrOf st) (lo+n - 1)))->Q (none,n) st):wpS (model prog w) A E s (vV lo a m) Q st:=by
 unfold vV;refine wpS_forRange (I:=fun x c st'=>st'=st/\c=(none,x)/\Seg κ (arrOf st) lo (lo+x)) ?_ ?_ ⟨rfl,rfl,hs⟩
 ·rintro x c st' CU Kl ⟨rfl,rfl,bP⟩;dsimp only;refine wpS_bind (ltA hL B h0 (by lia) (by lia) ?_)
  cases e:κ.blt (KK κ (arrOf st') (lo+x)) (KK κ (arrOf st') (lo+x - 1)) with
  | true =>
   dsimp only;rw [if_pos rfl];exact wpS_pure (h x CU (by lia) bP (.inr e))
  | false =>
   dsimp only;rw [if_neg (by decide)];refine wpS_pure ⟨rfl,rfl,fun i j hi bE hj=>?_⟩;by_cases wb:j < lo+x
   ·exact bP i j hi bE wb
   ·have ej:j=lo+x:=by lia
    subst ej;by_cases ei:i=lo+x
    ·rw [ei];exact KeyOrd.kle_refl _
    ·exact KeyOrd.kle_trans (bP i (lo+x - 1) hi (by lia) (by lia)) e
 ·rintro c st' ⟨rfl,rfl,bP⟩;rw [show max a m=m by lia] at bP ⊢;exact h m Kk (zA3 _) bP (.inl rfl)
theorem rB (hL:LtAll prog w A E s κ ks)(h0:KeysOf κ ab){st:SortSt}{lo n m:Nat}{Q:Option Nat->SortSt->Prop}(hn:lo+m<=ab.size)(h1:1<=n)(kS:n<=m)(B:SB ks ab st)(hs:Non κ (arrOf st) lo (lo+n))
  (h:∀ k st',SB ks ab st'->Out st st' lo (lo+m)->1<=k->k<=m->Seg κ (arrOf st') lo (lo+k)->Q (some k) st'):wpS (model prog w) A E s (nY lo n m) Q st:=by
 unfold nY;have hsz:lo+n<=(arrOf st).size:=by rw [B.size];lia
 refine wpS_bind (q8 ?_);have B':=B.arr (mirror_perm (arrOf st) lo (lo+n) ((lo+n - lo) / 2));refine wpS_bind (uD hL h0 hn h1 kS B' ?_ fun k Py wc Km _=>wpS_pure (h k _ B' (Out.rev hsz (zA3 _) (by lia)) (by lia) wc Km));intro i j hi bE hj;show κ.kle (KK κ (mirror (arrOf st) lo (lo+n) ((lo+n - lo) / 2)) i) (KK κ (mirror (arrOf st) lo (lo+n) ((lo+n - lo) / 2)) j);rw [KK_mirror hsz,KK_mirror hsz,zAw (by lia),zAw (by lia)];exact hs _ _ (by lia) (by lia) (by lia)
theorem xQ (hL:LtAll prog w A E s κ ks)(h0:KeysOf κ ab){st:SortSt}{lo n m:Nat}{Q:DescSt->SortSt->Prop}(hn:lo+m<=ab.size)(h1:1<=n)(kS:n<=m)(B:SB ks ab st)(hs:Non κ (arrOf st) lo (lo+n))
  (h:∀ k q st',SB ks ab st'->Out st st' lo (lo+m)->n<=k->k<=m->Non κ (arrOf st') lo (lo+k)->q+1<=k->(∀ i,lo+k - (q+1)<=i->i < lo+k->KK κ (arrOf st') i=KK κ (arrOf st') (lo+k - 1))->Q (none,k,q) st') :
  wpS (model prog w) A E s (uC lo n m) Q st:=by
 unfold uC
 refine wpS_forRange (I:=fun x c st'=>∃ q,c=(none,x,q)/\SB ks ab st'/\Out st st' lo (lo+m)/\Non κ (arrOf st') lo (lo+x)/\q+1<=x/\(∀ i,lo+x - (q+1)<=i->i < lo+x->KK κ (arrOf st') i=KK κ (arrOf st') (lo+x - 1))) ?_ ?_
  ⟨0,rfl,B,Out.refl _ _ _,hs,by lia,fun i z1 z2=>by congr 1;lia⟩
 ·rintro x c st' CU Kl ⟨q,rfl,B',O',bP,hq,he⟩;dsimp only;have hsz:lo+x<=(arrOf st').size:=by rw [B'.size];lia
  refine wpS_bind (ltA hL B' h0 (by lia) (by lia) ?_)
  cases e:κ.blt (KK κ (arrOf st') (lo+x)) (KK κ (arrOf st') (lo+x - 1)) with
  | true =>
   dsimp only;rw [if_pos rfl]
   have more:∀ xs:Array Keyed,(∀ k,KK κ xs k=KK κ (arrOf st') k)->Non κ xs lo (lo+(x+1)):=fun xs hk i j hi bE hj=>by
    rw [hk,hk];by_cases wb:j < lo+x
    ·exact bP i j hi bE wb
    ·have ej:j=lo+x:=by lia
     subst ej;by_cases ei:i=lo+x
     ·rw [ei];exact KeyOrd.kle_refl _
     ·exact KeyOrd.kle_trans (KeyOrd.kle_of_klt e) (bP i (lo+x - 1) hi (by lia) (by lia))
   by_cases we:q > 0
   ·rw [zAw we];refine wpS_bind (q8 (wpS_pure ⟨0,rfl,B'.arr (mirror_perm _ _ _ _),O'.trans (Out.rev hsz (by lia) (by lia)),more _ (KK_mirror_equal hsz he),by lia,fun i z1 z2=>by congr 1;lia⟩))
   ·rw [zAv we];exact wpS_pure ⟨0,rfl,B',O',more _ (fun _=>rfl),by lia,fun i z1 z2=>by congr 1;lia⟩
  | false =>
   dsimp only;rw [if_neg (by decide)];refine wpS_bind (ltA hL B' h0 (by lia) (by lia) ?_)
   cases e2:κ.blt (KK κ (arrOf st') (lo+x - 1)) (KK κ (arrOf st') (lo+x)) with
   | true =>
    dsimp only;rw [if_pos rfl];exact wpS_pure (h x q st' B' O' CU (by lia) bP hq he)
   | false =>
    dsimp only;rw [if_neg (by decide)];have ex:KK κ (arrOf st') (lo+x)=KK κ (arrOf st') (lo+x - 1):=KeyOrd.kle_antisymm e2 e;refine wpS_pure ⟨q+1,rfl,B',O',fun i j hi bE hj=>?_,by lia,fun i z1 z2=>?_⟩
    ·by_cases wb:j < lo+x
     ·exact bP i j hi bE wb
     ·have ej:j=lo+x:=by lia
      subst ej;by_cases ei:i=lo+x
      ·rw [ei];exact KeyOrd.kle_refl _
      ·rw [ex];exact bP i (lo+x - 1) hi (by lia) (by lia)
    ·rw [show lo+(x+1) - 1=lo+x by lia];by_cases ei:i=lo+x
     ·rw [ei]
     ·rw [ex];exact he i (by lia) (by lia)
 ·rintro c st' ⟨q,rfl,B',O',bP,hq,he⟩;rw [show max n m=m by lia] at bP hq he ⊢;exact h m q st' B' O' kS (zA3 _) bP hq he
theorem rC (hL:LtAll prog w A E s κ ks)(h0:KeysOf κ ab){st:SortSt}{lo n m:Nat}{Q:Option Nat->SortSt->Prop}(hn:lo+m<=ab.size)(kS:n+1<=m)(B:SB ks ab st)(hs:Non κ (arrOf st) lo (lo+(n+1)))
  (h:∀ k st',SB ks ab st'->Out st st' lo (lo+m)->1<=k->k<=m->Seg κ (arrOf st') lo (lo+k)->Q (some k) st'):wpS (model prog w) A E s (nZ lo n m) Q st:=by
 unfold nZ;refine wpS_bind (wpS_lift (wpAny_rule ⟨rfl,?_⟩));refine wpS_bind (xQ hL h0 hn (by lia) kS B hs fun k q st' B' O' k1 k2 bP hq he=>?_);dsimp only;have hsz:lo+k<=(arrOf st').size:=by rw [B'.size];lia
 by_cases we:q > 0
 ·rw [zAw we];refine wpS_bind (q8 (rB hL h0 hn (by lia) k2 (B'.arr (mirror_perm _ _ _ _)) ?_ fun k' st2 B2 O2=>h k' st2 B2 ((O'.trans (Out.rev hsz (by lia) (by lia))).trans O2)));intro i j hi bE hj;show κ.kle (KK κ (mirror (arrOf st') _ _ _) j) (KK κ (mirror (arrOf st') _ _ _) i);rw [KK_mirror_equal hsz he,KK_mirror_equal hsz he];exact bP i j hi bE hj
 ·rw [zAv we];exact rB hL h0 hn (by lia) k2 B' bP fun k' st2 B2 O2=>h k' st2 B2 (O'.trans O2)
theorem xR (hL:LtAll prog w A E s κ ks)(h0:KeysOf κ ab){st:SortSt}{lo m:Nat}{Q:Option Nat->SortSt->Prop}(hn:lo+m<=ab.size)(h1:1<=m)(B:SB ks ab st)
  (h:∀ k st',SB ks ab st'->Out st st' lo (lo+m)->1<=k->k<=m->Seg κ (arrOf st') lo (lo+k)->Q (some k) st'):wpS (model prog w) A E s (countRun' lo m) Q st:=by
 rw [vW];refine wpS_bind (uD hL h0 hn (zA3 1) h1 B (fun i j hi bE hj=>by have:i=j:=(by lia);rw [this];exact KeyOrd.kle_refl _) fun n n1 n2 AO Kn=>?_);dsimp only;by_cases kS:n=m
 ·rw [if_pos (by simpa using kS)];exact wpS_pure (h n st B (Out.refl _ _ _) n1 n2 AO)
 ·rw [if_neg (by simpa using kS)];have ax:=Kn.resolve_left kS;by_cases HU:n > 1
  ·rw [zAw HU];refine wpS_bind (ltA hL B h0 (by lia) (by lia) ?_)
   cases e:κ.blt (KK κ (arrOf st) lo) (KK κ (arrOf st) (lo+n - 1)) with
   | true =>
    dsimp only;rw [if_pos rfl];exact wpS_pure (h n st B (Out.refl _ _ _) n1 n2 AO)
   | false =>
    dsimp only;rw [if_neg (by decide)];have hsz:lo+n<=(arrOf st).size:=by rw [B.size];lia
    have fT:∀ k,lo<=k->k < lo+n->KK κ (arrOf st) k=KK κ (arrOf st) (lo+n - 1):=fun k sC hk=>by
     have a1:=AO lo k (zA3 _) sC hk;have a2:=AO k (lo+n - 1) sC (by lia) (by lia);exact KeyOrd.kle_antisymm a2 (KeyOrd.kle_trans e a1)
    refine wpS_bind (q8 (rC hL h0 hn (by lia) (B.arr (mirror_perm _ _ _ _)) ?_ fun k st2 B2 O2=>h k st2 B2 ((Out.rev hsz (zA3 _) (by lia)).trans O2)));intro i j hi bE hj;show κ.kle (KK κ (mirror (arrOf st) _ _ _) j) (KK κ (mirror (arrOf st) _ _ _) i);rw [KK_mirror_equal hsz fT,KK_mirror_equal hsz fT];by_cases Ko:j < lo+n
    ·rw [fT i hi (by lia),fT j (by lia) Ko];exact KeyOrd.kle_refl _
    ·have ej:j=lo+n:=by lia
     subst ej;by_cases ei:i=lo+n
     ·rw [ei];exact KeyOrd.kle_refl _
     ·rw [fT i hi (by lia)];exact KeyOrd.kle_of_klt ax
  ·rw [zAv HU];have e1:n=1:=by lia
   subst e1;refine rC hL h0 hn (by lia) B ?_ h;intro i j hi bE hj;by_cases ei:i=j
   ·rw [ei];exact KeyOrd.kle_refl _
   ·have i0:i=lo:=by lia
    have j1:j=lo+1:=by lia
    rw [i0,j1];exact KeyOrd.kle_of_klt ax
theorem DP (hL:LtAll prog w A E s κ ks)(h0:KeysOf κ ab){st:SortSt}{lo n ok:Nat}{Q:Bool->SortSt->Prop}(hn:lo+n<=ab.size)(hok:ok<=n)(B:SB ks ab st)(hs:Seg κ (arrOf st) lo (lo+ok))
  (h:∀ st',SB ks ab st'->Out st st' lo (lo+n)->Seg κ (arrOf st') lo (lo+n)->Q true st'):wpS (model prog w) A E s (binarySort' lo n ok) Q st:=by
 rw [binarySort'_eq]
 refine wpS_bind (wpS_mono (wpS_forRange (I:=fun k c st'=>c=(none,())/\SB ks ab st'/\Out st st' lo (lo+n)/\Seg κ (arrOf st') lo (lo+min k n))
  (Q:=fun c st'=>c=(none,())/\SB ks ab st'/\Out st st' lo (lo+n)/\Seg κ (arrOf st') lo (lo+n)) ?_ ?_ ?_) ?_)
 ·rintro k c st' sC Pz ⟨rfl,B',O',bP⟩;rw [show min k n=k by lia] at bP
  refine wpS_bind (wpS_mono (wpS_forRange (I:=fun x c st2=>st2=st'/\∃ l r,c=(none,l,r)/\l<=r/\r<=k/\r - l<=k - x/\(∀ i,i < l->κ.kle (KK κ (arrOf st') (lo+i)) (KK κ (arrOf st') (lo+k)))/\(∀ i,r<=i->i < k->κ.klt (KK κ (arrOf st') (lo+k)) (KK κ (arrOf st') (lo+i))))
   (Q:=fun c st2=>st2=st'/\∃ l r,c=(none,l,r)/\l<=k/\(∀ i,i < l->κ.kle (KK κ (arrOf st') (lo+i)) (KK κ (arrOf st') (lo+k)))/\(∀ i,l<=i->i < k->κ.klt (KK κ (arrOf st') (lo+k)) (KK κ (arrOf st') (lo+i)))) ?_ ?_ ?_) ?_)
  ·rintro x c st2 _ PB ⟨rfl,l,r,rfl,ip,sL,hm,dP,iE⟩;dsimp only;by_cases pV:l ≥ r
   ·rw [zAw pV];have e:l=r:=by lia
    subst e;exact wpS_pure ⟨rfl,l,l,rfl,sL,dP,iE⟩
   ·rw [zAv pV];refine wpS_bind (ltA hL B' h0 (by lia) (by lia) ?_)
    cases e:κ.blt (KK κ (arrOf st2) (lo+k)) (KK κ (arrOf st2) (lo+(l+r) / 2)) with
    | true =>
     dsimp only;rw [if_pos rfl];exact wpS_pure ⟨rfl,l,(l+r) / 2,rfl,by lia,by lia,by lia,dP,fun i z1 z2=>KeyOrd.klt_of_klt_of_kle e (bP (lo+(l+r) / 2) (lo+i) (by lia) (by lia) (by lia))⟩
    | false =>
     dsimp only;rw [if_neg (by decide)];exact wpS_pure ⟨rfl,(l+r) / 2+1,r,rfl,by lia,by lia,by lia,fun i z1=>KeyOrd.kle_trans (bP (lo+i) (lo+(l+r) / 2) (by lia) (by lia) (by lia)) (show κ.kle _ _ from e),iE⟩
  ·rintro c st2 ⟨rfl,l,r,rfl,ip,sL,hm,dP,iE⟩;have e:l=r:=by lia
   subst e;exact ⟨rfl,l,l,rfl,sL,dP,iE⟩
  ·exact ⟨rfl,0,k,rfl,by lia,by lia,by lia,fun i hi=>by lia,fun i z1 z2=>by lia⟩
  ·rintro c st2 ⟨rfl,l,r,rfl,sM,dP,iE⟩;show wpS _ _ _ _ (do moveDown' (lo+k) (lo+l);pure (ForInStep.yield (none,()))) _ _;rw [moveDown'_eq];have CY:lo+k < (arrOf st2).size:=by rw [B'.size];lia
   refine wpS_bind (wpS_modify (wpS_pure ⟨rfl,B'.arr (bubble_perm _ _ _),O'.trans ⟨fun z hz=>?_,rfl⟩,?_⟩))
   ·show (bubble (arrOf st2) (lo+k) (lo+k - (lo+l)))[z]?=_;rw [getElem?_bubble CY _ (by lia),zAv (by lia),zAv (by lia)]
   ·rw [show min (k+1) n=k+1 by lia];intro i j hi bE hj;show κ.kle (KK κ (bubble (arrOf st2) (lo+k) (lo+k - (lo+l))) i) (KK κ (bubble (arrOf st2) (lo+k) (lo+k - (lo+l))) j);rw [KK_bubble CY (by lia),KK_bubble CY (by lia),show lo+k - (lo+k - (lo+l))=lo+l by lia]
    have C3:∀ z,lo<=z->z < lo+l->κ.kle (KK κ (arrOf st2) z) (KK κ (arrOf st2) (lo+k)):=fun z z1 z2=>by
     have:=dP (z - lo) (by lia);rw [show lo+(z - lo)=z by lia] at this;exact this
    have C4:∀ z,lo+l<=z->z < lo+k->κ.kle (KK κ (arrOf st2) (lo+k)) (KK κ (arrOf st2) z):=fun z z1 z2=>by
     have:=iE (z - lo) (by lia) (by lia);rw [show lo+(z - lo)=z by lia] at this;exact KeyOrd.kle_of_klt this
    repeat' split
    all_goals first
     | (exfalso;lia)
     | exact KeyOrd.kle_refl _
     | exact C3 _ (by lia) (by lia)
     | exact C4 _ (by lia) (by lia)
     | exact bP _ _ (by lia) (by lia) (by lia)
 ·rintro c st' ⟨hc,B',O',bP⟩;refine ⟨hc,B',O',?_⟩
  rwa [show min (max (max ok 1) n) n=n by lia] at bP
 ·refine ⟨rfl,B,Out.refl _ _ _,fun i j hi bE hj=>?_⟩;by_cases z:ok=0
  ·have e:i=j:=by lia
   rw [e];exact KeyOrd.kle_refl _
  ·exact hs i j hi bE (by lia)
 ·rintro c st' ⟨rfl,B',O',bP⟩;exact wpS_pure (h st' B' O' bP)
end
section
variable {α:Type}{le:α->α->Prop}
structure MI (le:α->α->Prop)(la lb lo:List α)(ia ib:Nat):Prop where
 pm:lo.Perm (la.take ia++lb.take ib)
 sr:lo.Pairwise le
 be:∀ x∈lo,∀ y,y∈la.drop ia\/y∈lb.drop ib->le x y
theorem gQ {l:List α}{i j:Nat}{y:α}(bE:i<=j)(h:y∈l.drop j):y∈l.drop i:=by
 have:l.drop j=(l.drop i).drop (j - i):=by rw [List.drop_drop];congr 1;lia
 rw [this] at h;exact List.mem_of_mem_drop h
theorem uE {l:List α}(h:l.Pairwise le){i j:Nat}(bE:i<=j):∀ x∈(l.drop i).take (j - i),∀ y∈l.drop j,le x y:=by
 have e:l.drop i=(l.drop i).take (j - i)++l.drop j:=by
  have:=zBa (j - i) (l.drop i);rw [List.drop_drop] at this;rw [show i+(j - i)=j by lia] at this;exact this.symm
 have hp:(l.drop i).Pairwise le:=h.sublist (List.drop_sublist _ _);rw [e] at hp;exact fun x hx y hy=>(List.pairwise_append.mp hp).2.2 x hx y hy
theorem o8 (l:List α)(i k:Nat):l.take (i+k)=l.take i++(l.drop i).take k:=List.take_add
theorem MI.segA {la lb lo:List α}{ia ib k:Nat}(m:MI le la lb lo ia ib)(sa:la.Pairwise le)(h:∀ x∈(la.drop ia).take k,∀ y∈lb.drop ib,le x y):MI le la lb (lo++(la.drop ia).take k) (ia+k) ib:=by
 refine ⟨?_,List.pairwise_append.mpr ⟨m.sr,(sa.sublist (List.drop_sublist _ _)).sublist (List.take_sublist _ _),fun x hx y hy=>m.be x hx y (.inl (List.mem_of_mem_take hy))⟩,fun x hx y hy=>?_⟩
 ·rw [o8];refine (m.pm.append_right _).trans ?_;rw [zAf,zAf];exact List.Perm.append_left _ (List.perm_append_comm)
 ·rcases zA6.mp hx with z | z
  ·exact m.be x z y (hy.imp (gQ (by lia)) id)
  ·rcases hy with hy | hy
   ·have:=uE sa (i:=ia) (j:=ia+k) (by lia) x (by rw [show ia+k - ia=k by lia];exact z) y hy;exact this
   ·exact h x z y hy
theorem MI.segB {la lb lo:List α}{ia ib k:Nat}(m:MI le la lb lo ia ib)(sb:lb.Pairwise le)(h:∀ x∈(lb.drop ib).take k,∀ y∈la.drop ia,le x y):MI le la lb (lo++(lb.drop ib).take k) ia (ib+k):=by
 refine ⟨?_,List.pairwise_append.mpr ⟨m.sr,(sb.sublist (List.drop_sublist _ _)).sublist (List.take_sublist _ _),fun x hx y hy=>m.be x hx y (.inr (List.mem_of_mem_take hy))⟩,fun x hx y hy=>?_⟩
 ·rw [o8];refine (m.pm.append_right _).trans ?_;rw [zAf]
 ·rcases zA6.mp hx with z | z
  ·exact m.be x z y (hy.imp id (gQ (by lia)))
  ·rcases hy with hy | hy
   ·exact h x z y hy
   ·have:=uE sb (i:=ib) (j:=ib+k) (by lia) x (by rw [show ib+k - ib=k by lia];exact z) y hy;exact this
structure Done (le:α->α->Prop)(la lb lo:List α):Prop where
 pm:lo.Perm (la++lb)
 sr:lo.Pairwise le
theorem MI.endB {la lb lo:List α}{ia ib:Nat}(m:MI le la lb lo ia ib)(sa:la.Pairwise le)(hb:lb.length<=ib):Done le la lb (lo++la.drop ia++lb.drop ib):=by
 have e:lb.drop ib=[]:=List.drop_of_length_le hb;have e2:lb.take ib=lb:=List.take_of_length_le hb;rw [e,zAn];refine ⟨?_,List.pairwise_append.mpr ⟨m.sr,sa.sublist (List.drop_sublist _ _),fun x hx y hy=>m.be x hx y (.inl hy)⟩⟩;have:=m.pm;rw [e2] at this;refine (this.append_right _).trans ?_;rw [zAf];refine (List.Perm.append_left _ List.perm_append_comm).trans ?_;rw [<- zAf,zBa]
theorem MI.endA {la lb lo:List α}{ia ib:Nat}(m:MI le la lb lo ia ib)(sb:lb.Pairwise le)(ha:la.length<=ia):Done le la lb (lo++la.drop ia++lb.drop ib):=by
 have e:la.drop ia=[]:=List.drop_of_length_le ha;have e2:la.take ia=la:=List.take_of_length_le ha;rw [e,zAn];refine ⟨?_,List.pairwise_append.mpr ⟨m.sr,sb.sublist (List.drop_sublist _ _),fun x hx y hy=>m.be x hx y (.inr hy)⟩⟩;have:=m.pm;rw [e2] at this;refine (this.append_right _).trans ?_;rw [zAf,zBa]
theorem MI.last {la lb lo:List α}{ia ib:Nat}(m:MI le la lb lo ia ib)(sa:la.Pairwise le)(sb:lb.Pairwise le)(h:∀ y∈lb.drop ib,∀ x∈la.drop ia,le y x):Done le la lb (lo++lb.drop ib++la.drop ia):=by
 refine ⟨?_,List.pairwise_append.mpr ⟨List.pairwise_append.mpr ⟨m.sr,sb.sublist (List.drop_sublist _ _),fun x hx y hy=>m.be x hx y (.inr hy)⟩,sa.sublist (List.drop_sublist _ _),fun x hx y hy=>?_⟩⟩
 ·refine ((m.pm.append_right _).append_right _).trans ?_
  have e:(la.take ia++lb.take ib++lb.drop ib++la.drop ia)=la.take ia++(lb++la.drop ia):=by
   rw [zAf (la.take ia),zBa,zAf]
  rw [e];refine (List.Perm.append_left _ List.perm_append_comm).trans ?_;rw [<- zAf,zBa]
 ·rcases zA6.mp hx with z | z
  ·exact m.be x z y (.inl hy)
  ·exact h x z y hy
end
def jb:Array Keyed->Array Keyed->Sm (Array Keyed):=sortPriv% PySem.Builtin.mergeLo
def jc:Nat->Sm Unit:=sortPriv% PySem.Builtin.setMinGallop
abbrev C1:=Option (Array Keyed)×Array Keyed×Nat×Nat×Nat×Nat
abbrev C2:=Option (Array Keyed)×Array Keyed×Nat×Nat×Nat×Nat×Nat
abbrev C0:=Option (Array Keyed)×Array Keyed×Nat×Nat×Nat
def one (a b:Array Keyed)(g:Nat)(out:Array Keyed)(ia ib ac bc:Nat):Sm (ForInStep C1):=do
 let y <- elem' b ib
 let x <- elem' a ia
 let r <- lt' y x
 match r with
 | some w =>
  if w=true then do
   let y <- elem' b ib
   if (ib+1 == b.size)=true then pure (ForInStep.done (some (out.push y++a.extract ia a.size++b.extract (ib+1) b.size),out.push y,ia,ib+1,0,bc+1))
   else if bc+1 ≥ g then pure (ForInStep.done (none,out.push y,ia,ib+1,0,bc+1)) else pure (ForInStep.yield (none,out.push y,ia,ib+1,0,bc+1))
  else do
   let x <- elem' a ia
   if (ia+1+1 == a.size)=true then pure (ForInStep.done (some (out.push x++b.extract ib b.size++a.extract (ia+1) a.size),out.push x,ia+1,ib,ac+1,0))
   else if ac+1 ≥ g then pure (ForInStep.done (none,out.push x,ia+1,ib,ac+1,0)) else pure (ForInStep.yield (none,out.push x,ia+1,ib,ac+1,0))
 | _=>pure (ForInStep.done (some (out++a.extract ia a.size++b.extract ib b.size),out,ia,ib,ac,bc))
def gl4 (a b:Array Keyed)(out:Array Keyed)(ia ib g k k1:Nat):Sm (ForInStep C2):=do
 let x <- elem' a ia
 if (ia+1+1 == a.size)=true then pure (ForInStep.done (some (out.push x++b.extract ib b.size++a.extract (ia+1) a.size),out.push x,ia+1,ib,g,k,k1))
 else if (decide (k < 7) && decide (k1 < 7))=true then pure (ForInStep.done (none,out.push x,ia+1,ib,g,k,k1)) else pure (ForInStep.yield (none,out.push x,ia+1,ib,g,k,k1))
def gl3 (a b:Array Keyed)(out:Array Keyed)(ia ib g k bc:Nat):Sm (ForInStep C2):=do
 let x <- elem' a ia
 let r <- fD true x b ib (b.size - ib) 0
 match r with
 | some k1 =>
  if k1 > 0 then
   if (ib+k1 == b.size)=true then pure (ForInStep.done (some (out++b.extract ib (ib+k1)++a.extract ia a.size++b.extract (ib+k1) b.size),out++b.extract ib (ib+k1),ia,ib+k1,g,k,k1))
   else gl4 a b (out++b.extract ib (ib+k1)) ia (ib+k1) g k k1
  else gl4 a b out ia ib g k k1
 | _=>pure (ForInStep.done (some (out++a.extract ia a.size++b.extract ib b.size),out,ia,ib,g,k,bc))
def gl2 (a b:Array Keyed)(out:Array Keyed)(ia ib g k bc:Nat):Sm (ForInStep C2):=do
 let y <- elem' b ib
 if (ib+1 == b.size)=true then pure (ForInStep.done (some (out.push y++a.extract ia a.size++b.extract (ib+1) b.size),out.push y,ia,ib+1,g,k,bc))
 else gl3 a b (out.push y) ia (ib+1) g k bc
def gl1 (a b:Array Keyed)(out:Array Keyed)(ia ib g ac bc:Nat):Sm (ForInStep C2):=do
 jc g
 let y <- elem' b ib
 let r <- fD false y a ia (a.size - ia) 0
 match r with
 | some k =>
  if k > 0 then
   if (ia+k+1 == a.size)=true then pure (ForInStep.done (some (out++a.extract ia (ia+k)++b.extract ib b.size++a.extract (ia+k) a.size),out++a.extract ia (ia+k),ia+k,ib,g,k,bc))
   else if (ia+k == a.size)=true then pure (ForInStep.done (some (out++a.extract ia (ia+k)++a.extract (ia+k) a.size++b.extract ib b.size),out++a.extract ia (ia+k),ia+k,ib,g,k,bc))
   else gl2 a b (out++a.extract ia (ia+k)) (ia+k) ib g k bc
  else gl2 a b out ia ib g k bc
 | _=>pure (ForInStep.done (some (out++a.extract ia a.size++b.extract ib b.size),out,ia,ib,g,ac,bc))
def gal (a b:Array Keyed)(out:Array Keyed)(ia ib g ac bc:Nat):Sm (ForInStep C2):=if g > 1 then gl1 a b out ia ib (g - 1) ac bc else gl1 a b out ia ib g ac bc
def round (a b:Array Keyed)(out:Array Keyed)(ia ib g:Nat):Sm (ForInStep C0):=do
 let c <- forIn [0:a.size+b.size] ((none,out,ia,ib,0,0):C1) fun _ c=>one a b g c.2.1 c.2.2.1 c.2.2.2.1 c.2.2.2.2.1 c.2.2.2.2.2
 match c.1 with
 | some r=>pure (ForInStep.done (some r,c.2.1,c.2.2.1,c.2.2.2.1,g))
 | none=>do
  liftM (rule "list.sort.gallop")
  let d <- forIn [0:a.size+b.size] ((none,c.2.1,c.2.2.1,c.2.2.2.1,g+1,c.2.2.2.2.1,c.2.2.2.2.2):C2) fun _ d=>gal a b d.2.1 d.2.2.1 d.2.2.2.1 d.2.2.2.2.1 d.2.2.2.2.2.1 d.2.2.2.2.2.2
  match d.1 with
  | some r=>pure (ForInStep.done (some r,d.2.1,d.2.2.1,d.2.2.2.1,d.2.2.2.2.1))
  | none=>do
   jc (d.2.2.2.2.1+1)
   pure (ForInStep.yield (none,d.2.1,d.2.2.1,d.2.2.2.1,d.2.2.2.2.1+1))
theorem fi {β:Type}{r:Std.Legacy.Range}{c:β}{f f':Nat->β->Sm (ForInStep β)}(h:f=f'):(forIn r c f:Sm β)=forIn r c f':=by rw [h]
theorem ic {α:Type}{c:Prop}[Decidable c]{x x' y y':α}(h:x=x')(h':y=y'):(if c then x else y)=if c then x' else y':=by rw [h,h']
theorem Fz (a b:Array Keyed):jb a b=(do
  liftM (rule "list.sort.merge-lo")
  let e <- elem' b 0
  if (1 == b.size)=true then pure (#[e]++a.extract 0 a.size++b.extract 1 b.size)
  else if (0+1 == a.size)=true then pure (#[e]++b.extract 1 b.size++a.extract 0 a.size)
  else do
   let s <- get
   let c <- forIn [0:a.size+b.size] ((none,#[e],0,1,gallopOf s):C0) fun _ c=>round a b c.2.1 c.2.2.1 c.2.2.2.1 c.2.2.2.2
   match c.1 with
   | some r=>pure r
   | none=>liftM (unsupported "internal:list.sort.merge-bound")):=by
 delta jb
 refine bc rfl (funext fun u=>bc rfl (funext fun e=>ic rfl (ic rfl (bc rfl (funext fun s=>bc (fi (funext fun x=>funext fun c=>?_)) (funext fun c=>?_))))))
 ·unfold round;refine bc (fi (funext fun x=>funext fun c1=>?_)) (funext fun c1=>?_)
  ·unfold one;refine bc rfl (funext fun y=>bc rfl (funext fun x=>bc rfl (funext fun r=>?_)))
   cases r with
   | none=>rfl
   | some w=>exact ic (bc rfl (funext fun y=>ic rfl (ic rfl rfl))) (bc rfl (funext fun y=>ic rfl (ic rfl rfl)))
  ·obtain ⟨r,c1⟩:=c1
   cases r with
   | some r=>rfl
   | none =>
    refine bc rfl (funext fun u=>bc (fi (funext fun x=>funext fun d=>?_)) (funext fun d=>?_))
    ·unfold gal;refine ic ?_ ?_
     ·unfold gl1;exact bc rfl (funext fun u=>bc rfl (funext fun y=>bc rfl (funext fun r=>by cases r with | none=>rfl | some k=>exact ic (ic rfl (ic rfl (by unfold gl2;exact bc rfl (funext fun y=>ic rfl (by unfold gl3;exact bc rfl (funext fun x=>bc rfl (funext fun r=>by cases r with | none=>rfl | some k1=>exact ic (ic rfl (by unfold gl4;exact bc rfl (funext fun x=>ic rfl (ic rfl rfl)))) (by unfold gl4;exact bc rfl (funext fun x=>ic rfl (ic rfl rfl)))))))))) (by unfold gl2;exact bc rfl (funext fun y=>ic rfl (by unfold gl3;exact bc rfl (funext fun x=>bc rfl (funext fun r=>by cases r with | none=>rfl | some k1=>exact ic (ic rfl (by unfold gl4;exact bc rfl (funext fun x=>ic rfl (ic rfl rfl)))) (by unfold gl4;exact bc rfl (funext fun x=>ic rfl (ic rfl rfl)))))))))))
     ·unfold gl1;exact bc rfl (funext fun u=>bc rfl (funext fun y=>bc rfl (funext fun r=>by cases r with | none=>rfl | some k=>exact ic (ic rfl (ic rfl (by unfold gl2;exact bc rfl (funext fun y=>ic rfl (by unfold gl3;exact bc rfl (funext fun x=>bc rfl (funext fun r=>by cases r with | none=>rfl | some k1=>exact ic (ic rfl (by unfold gl4;exact bc rfl (funext fun x=>ic rfl (ic rfl rfl)))) (by unfold gl4;exact bc rfl (funext fun x=>ic rfl (ic rfl rfl)))))))))) (by unfold gl2;exact bc rfl (funext fun y=>ic rfl (by unfold gl3;exact bc rfl (funext fun x=>bc rfl (funext fun r=>by cases r with | none=>rfl | some k1=>exact ic (ic rfl (by unfold gl4;exact bc rfl (funext fun x=>ic rfl (ic rfl rfl)))) (by unfold gl4;exact bc rfl (funext fun x=>ic rfl (ic rfl rfl)))))))))))
    ·obtain ⟨r,d⟩:=d;cases r <;> rfl
 ·obtain ⟨r,c⟩:=c;cases r <;> rfl
def key (κ:PyProof.Rows.KeyKind)(p:Keyed):κ.α:=(κ.keyOf p.1).getD κ.dflt
def leK (κ:PyProof.Rows.KeyKind)(x y:Keyed):Prop:=κ.kle (key κ x) (key κ y)
theorem dh {κ:PyProof.Rows.KeyKind}{x y z:Keyed}(h:leK κ x y)(h':leK κ y z):leK κ x z:=KeyOrd.kle_trans h h'
structure SG (st st':SortSt):Prop where
 kind:kindOf st'=kindOf st
 arr:arrOf st'=arrOf st
 pend:pendingOf st'=pendingOf st
 fail:failedOf st'=failedOf st
theorem SG.refl (st:SortSt):SG st st:=⟨rfl,rfl,rfl,rfl⟩
structure Two (κ:PyProof.Rows.KeyKind)(a b:Array Keyed):Prop where
 ka:KeysOf κ a
 kb:KeysOf κ b
 sa:a.toList.Pairwise (leK κ)
 sb:b.toList.Pairwise (leK κ)
theorem item {κ:PyProof.Rows.KeyKind}{a:Array Keyed}(ka:KeysOf κ a){i:Nat}(hi:i < a.size):∃ p,a[i]?=some p/\κ.keyOf p.1=some (key κ p)/\KK κ a i=key κ p/\a.toList.drop i=p::a.toList.drop (i+1):=by
 have e:a[i]?=some a[i]:=Array.getElem?_eq_getElem hi;obtain ⟨k,hk⟩:=ka a[i] (Array.mem_toList_iff.mpr (Array.getElem_mem hi))
 have ek:key κ a[i]=k:=by
  unfold key;rw [hk];rfl
 refine ⟨a[i],e,by rw [ek];exact hk,?_,?_⟩
 ·unfold KK;rw [e,ek];dsimp only;rw [hk];rfl
 ·have:=List.drop_eq_getElem_cons (l:=a.toList) (i:=i) (by simpa using hi);rw [this];simp
theorem jd {κ:PyProof.Rows.KeyKind}{l r:List Keyed}{p:Keyed}{i:Nat}(h:l.Pairwise (leK κ))(e:l.drop i=p::r):∀ y∈l.drop i,leK κ p y:=by
 have hp:=h.sublist (List.drop_sublist i l);rw [e] at hp ⊢;intro y hy;rcases zAo.mp hy with z | z
 ·rw [z];exact KeyOrd.kle_refl _
 ·exact (List.pairwise_cons.mp hp).1 y z
theorem fU (a:Array Keyed)(i j:Nat):(a.extract i j).toList=(a.toList.drop i).take (j - i):=by
 rw [Array.toList_extract]
theorem iu (a:Array Keyed)(i:Nat):(a.extract i a.size).toList=a.toList.drop i:=by
 rw [fU];refine List.take_of_length_le ?_;rw [List.length_drop,zA9];exact zA3 _
theorem je {κ:PyProof.Rows.KeyKind}{a:Array Keyed}(ka:KeysOf κ a){i k:Nat}{x:Keyed}(h:x∈(a.toList.drop i).take k):∃ j,j < k/\i+j < a.size/\KK κ a (i+j)=key κ x:=by
 obtain ⟨j,hj,rfl⟩:=List.getElem_of_mem h;rw [zAd,List.length_drop,zA9] at hj;refine ⟨j,by lia,by lia,?_⟩;obtain ⟨p,e1,e2,e3,e4⟩:=item ka (i:=i+j) (by lia);rw [e3,List.getElem_take,List.getElem_drop]
 have:a.toList[i+j]?=some p:=by
  rw [Array.getElem?_toList];exact e1
 rw [zA0 (by rw [zA9];lia)] at this;rw [zAl this]
theorem lD {κ:PyProof.Rows.KeyKind}{a:Array Keyed}(ka:KeysOf κ a){i:Nat}{x:Keyed}(h:x∈a.toList.drop i):∃ j,i<=j/\j < a.size/\KK κ a j=key κ x:=by
 have h':x∈(a.toList.drop i).take (a.toList.drop i).length:=by rw [zAm];exact h
 obtain ⟨j,_,h2,h3⟩:=je ka h';exact ⟨i+j,by lia,h2,h3⟩
theorem jf {κ:PyProof.Rows.KeyKind}{a:Array Keyed}(ka:KeysOf κ a)(sa:a.toList.Pairwise (leK κ)){i j:Nat}(bE:i<=j)(hj:j < a.size):κ.kle (KK κ a i) (KK κ a j):=by
 obtain ⟨p,_,_,e3,e4⟩:=item ka (i:=i) (by lia);obtain ⟨q,_,_,f3,f4⟩:=item ka (i:=j) hj;rw [e3,f3];refine jd sa e4 q ?_;have:q∈a.toList.drop j:=by rw [f4];exact List.mem_cons_self
 exact gQ bE this
section
variable {prog:Program}{w:World}{A:Around}{E:Value->Shared->Prop}{s:Shared}{κ:PyProof.Rows.KeyKind}{ks:SortKind}{a b:Array Keyed}
theorem iw {g:Nat}{Q:Unit->SortSt->Prop}{st:SortSt}(h:∀ st',SG st st'->Q () st'):wpS (model prog w) A E s (jc g) Q st:=wpS_modify (h _ ⟨rfl,rfl,rfl,rfl⟩)
structure At (κ:PyProof.Rows.KeyKind)(a b out:Array Keyed)(ia ib:Nat):Prop where
 mi:MI (leK κ) a.toList b.toList out.toList ia ib
 ha:ia+1 < a.size
 hb:ib < b.size
theorem At.pushA {out:Array Keyed}{ia ib:Nat}{x:Keyed}(T:Two κ a b)(m:MI (leK κ) a.toList b.toList out.toList ia ib)(e:a.toList.drop ia=x::a.toList.drop (ia+1))(h:∀ y∈b.toList.drop ib,leK κ x y) :
  MI (leK κ) a.toList b.toList (out.push x).toList (ia+1) ib:=by
 have:=m.segA (k:=1) T.sa fun z hz y hy=>by
  rw [e] at hz;have:z=x:=by simpa using hz
  rw [this];exact h y hy
 rw [e] at this;rw [Array.toList_push];exact this
theorem At.pushB {out:Array Keyed}{ia ib:Nat}{x:Keyed}(T:Two κ a b)(m:MI (leK κ) a.toList b.toList out.toList ia ib)(e:b.toList.drop ib=x::b.toList.drop (ib+1))(h:∀ y∈a.toList.drop ia,leK κ x y) :
  MI (leK κ) a.toList b.toList (out.push x).toList ia (ib+1):=by
 have:=m.segB (k:=1) T.sb fun z hz y hy=>by
  rw [e] at hz;have:z=x:=by simpa using hz
  rw [this];exact h y hy
 rw [e] at this;rw [Array.toList_push];exact this
theorem At.segA {out:Array Keyed}{ia ib k:Nat}(T:Two κ a b)(m:MI (leK κ) a.toList b.toList out.toList ia ib)(h:∀ x∈(a.toList.drop ia).take k,∀ y∈b.toList.drop ib,leK κ x y):MI (leK κ) a.toList b.toList (out++a.extract ia (ia+k)).toList (ia+k) ib:=by
 have:=m.segA (k:=k) T.sa h;rw [Array.toList_append,fU,show ia+k - ia=k by lia];exact this
theorem At.segB {out:Array Keyed}{ia ib k:Nat}(T:Two κ a b)(m:MI (leK κ) a.toList b.toList out.toList ia ib)(h:∀ x∈(b.toList.drop ib).take k,∀ y∈a.toList.drop ia,leK κ x y):MI (leK κ) a.toList b.toList (out++b.extract ib (ib+k)).toList ia (ib+k):=by
 have:=m.segB (k:=k) T.sb h;rw [Array.toList_append,fU,show ib+k - ib=k by lia];exact this
abbrev Rs (κ:PyProof.Rows.KeyKind)(a b:Array Keyed)(r:Array Keyed):Prop:=Done (leK κ) a.toList b.toList r.toList
def iy (κ:PyProof.Rows.KeyKind)(a b:Array Keyed):Prop:=∀ y∈b.toList,∀ x∈a.toList.drop (a.size - 1),leK κ y x
theorem uF {out:Array Keyed}{ia ib:Nat}(T:Two κ a b)(m:MI (leK κ) a.toList b.toList out.toList ia ib)(h:ib=b.size):Rs κ a b (out++a.extract ia a.size++b.extract ib b.size):=by
 have:=m.endB T.sa (by rw [zA9];lia);unfold Rs;rw [Array.toList_append,Array.toList_append,iu,iu];exact this
theorem FJ {out:Array Keyed}{ia ib:Nat}(T:Two κ a b)(m:MI (leK κ) a.toList b.toList out.toList ia ib)(h:ia=a.size):Rs κ a b (out++a.extract ia a.size++b.extract ib b.size):=by
 have:=m.endA T.sb (by rw [zA9];lia);unfold Rs;rw [Array.toList_append,Array.toList_append,iu,iu];exact this
theorem uG {out:Array Keyed}{ia ib:Nat}(T:Two κ a b)(L:iy κ a b)(m:MI (leK κ) a.toList b.toList out.toList ia ib)(h:ia+1=a.size):Rs κ a b (out++b.extract ib b.size++a.extract ia a.size):=by
 have:=m.last T.sa T.sb fun y hy x hx=>L y (List.mem_of_mem_drop hy) x (by rw [show a.size - 1=ia by lia];exact hx);unfold Rs;rw [Array.toList_append,Array.toList_append,iu,iu];exact this
theorem tG (hL:LtAll prog w A E s κ ks)(T:Two κ a b)(L:iy κ a b){g ia ib ac bc:Nat}{out:Array Keyed}{st:SortSt}(hk:kindOf st=ks)(m:At κ a b out ia ib) :
  wpS (model prog w) A E s (one a b g out ia ib ac bc) (fun r st'=>st'=st/\match r with
   | .done c=>(∃ z,c.1=some z/\Rs κ a b z)\/(c.1=none/\At κ a b c.2.1 c.2.2.1 c.2.2.2.1/\ia+ib+1=c.2.2.1+c.2.2.2.1)
   | .yield c=>c.1=none/\At κ a b c.2.1 c.2.2.1 c.2.2.2.1/\ia+ib+1=c.2.2.1+c.2.2.2.1) st:=by
 obtain ⟨x,x1,x2,x3,x4⟩:=item T.ka (i:=ia) (by have:=m.ha;lia);obtain ⟨y,y1,y2,y3,y4⟩:=item T.kb m.hb;unfold one;refine wpS_bind (aX y1 (wpS_bind (aX x1 (wpS_bind (hL st hk _ _ _ _ _ y2 x2 ?_)))))
 cases e:κ.blt (key κ y) (key κ x) with
 | true =>
  dsimp only;rw [if_pos rfl];refine wpS_bind (aX y1 ?_);have m':=At.pushB T m.mi y4 fun z hz=>dh (KeyOrd.kle_of_klt e) (jd T.sa x4 z hz);by_cases hb:ib+1=b.size
  ·rw [if_pos (by simpa using hb)];exact wpS_pure ⟨rfl,.inl ⟨_,rfl,uF T m' hb⟩⟩
  ·rw [if_neg (by simpa using hb)]
   have at':At κ a b (out.push y) ia (ib+1):=⟨m',m.ha,by have:=m.hb;lia⟩
   split
   ·exact wpS_pure ⟨rfl,.inr ⟨rfl,at',by dsimp only;lia⟩⟩
   ·exact wpS_pure ⟨rfl,rfl,at',by dsimp only;lia⟩
 | false =>
  dsimp only;rw [if_neg (by decide)];refine wpS_bind (aX x1 ?_);have m':=At.pushA T m.mi x4 fun z hz=>dh (show leK κ x y from e) (jd T.sb y4 z hz);by_cases ha:ia+1+1=a.size
  ·rw [if_pos (by simpa using ha)];exact wpS_pure ⟨rfl,.inl ⟨_,rfl,uG T L m' ha⟩⟩
  ·rw [if_neg (by simpa using ha)]
   have at':At κ a b (out.push x) (ia+1) ib:=⟨m',by have:=m.ha;lia,m.hb⟩
   split
   ·exact wpS_pure ⟨rfl,.inr ⟨rfl,at',by dsimp only;lia⟩⟩
   ·exact wpS_pure ⟨rfl,rfl,at',by dsimp only;lia⟩
def G2 (κ:PyProof.Rows.KeyKind)(a b:Array Keyed)(n:Nat)(st:SortSt)(r:ForInStep C2)(st':SortSt):Prop:=SG st st'/\match r with
 | .done c=>(∃ z,c.1=some z/\Rs κ a b z)\/(c.1=none/\At κ a b c.2.1 c.2.2.1 c.2.2.2.1/\n<=c.2.2.1+c.2.2.2.1)
 | .yield c=>c.1=none/\At κ a b c.2.1 c.2.2.1 c.2.2.2.1/\n<=c.2.2.1+c.2.2.2.1
theorem lE (T:Two κ a b)(L:iy κ a b){g ia ib k k1 n:Nat}{out:Array Keyed}{aT st:SortSt}(sg:SG aT st)(m:At κ a b out ia ib)(hn:n<=ia+ib+1)(h:∀ y∈b.toList.drop ib,∀ x,a[ia]?=some x->leK κ x y) :
  wpS (model prog w) A E s (gl4 a b out ia ib g k k1) (G2 κ a b n aT) st:=by
 obtain ⟨x,x1,x2,x3,x4⟩:=item T.ka (i:=ia) (by have:=m.ha;lia);unfold gl4;refine wpS_bind (aX x1 ?_);have m':=At.pushA T m.mi x4 fun z hz=>h z hz x x1;by_cases ha:ia+1+1=a.size
 ·rw [if_pos (by simpa using ha)];exact wpS_pure ⟨sg,.inl ⟨_,rfl,uG T L m' ha⟩⟩
 ·rw [if_neg (by simpa using ha)]
  have at':At κ a b (out.push x) (ia+1) ib:=⟨m',by have:=m.ha;lia,m.hb⟩
  split
  ·exact wpS_pure ⟨sg,.inr ⟨rfl,at',by dsimp only;lia⟩⟩
  ·exact wpS_pure ⟨sg,rfl,at',by dsimp only;lia⟩
theorem tH (hL:LtAll prog w A E s κ ks)(T:Two κ a b)(L:iy κ a b){g ia ib k bc n:Nat}{out:Array Keyed}{aT st:SortSt}(hk:kindOf st=ks)(sg:SG aT st)(m:At κ a b out ia ib)(hn:n<=ia+ib+1) :
  wpS (model prog w) A E s (gl3 a b out ia ib g k bc) (G2 κ a b n aT) st:=by
 obtain ⟨x,x1,x2,x3,x4⟩:=item T.ka (i:=ia) (by have:=m.ha;lia);have hb:=m.hb;unfold gl3;refine wpS_bind (aX x1 ?_);refine wpS_bind (dB (κ:=κ) (kk:=key κ x) (hL st hk) x2 (by lia) (fun i hi=>?_) (fun i j bE hj iq=>?_) fun k1 kn kt kf=>?_)
 ·obtain ⟨p,p1,p2,p3,_⟩:=item T.kb (i:=ib+i) (by lia);exact ⟨p,_,p1,p2,p3⟩
 ·have mono:=jf T.kb T.sb (i:=ib+i) (j:=ib+j) (by lia) (by lia);exact KeyOrd.klt_of_kle_of_klt mono iq
 ·have f7:∀ y∈b.toList.drop (ib+k1),∀ z,a[ia]?=some z->leK κ z y:=fun y hy z hz=>by
   rw [x1] at hz;cases hz;obtain ⟨j,j1,j2,j3⟩:=lD T.kb hy;have:=kf (j - ib) (by lia) (by lia);rw [show ib+(j - ib)=j by lia,j3] at this;exact this
  by_cases h0:k1 > 0
  ·dsimp only;rw [if_pos h0]
   have m':=At.segB (k:=k1) T m.mi fun z hz y hy=>by
    obtain ⟨j,j1,j2,j3⟩:=je T.kb hz;have:=kt j j1;rw [j3] at this;exact dh (KeyOrd.kle_of_klt this) (jd T.sa x4 y hy)
   by_cases e:ib+k1=b.size
   ·rw [if_pos (by simpa using e)];exact wpS_pure ⟨sg,.inl ⟨_,rfl,uF T m' e⟩⟩
   ·rw [if_neg (by simpa using e)];exact lE T L sg ⟨m',m.ha,by lia⟩ (by lia) f7
  ·dsimp only;rw [if_neg h0];have e:k1=0:=by lia
   rw [e] at f7;exact lE T L sg m hn f7
theorem lF (hL:LtAll prog w A E s κ ks)(T:Two κ a b)(L:iy κ a b){g ia ib k bc n:Nat}{out:Array Keyed}{aT st:SortSt}(hk:kindOf st=ks)(sg:SG aT st)(m:At κ a b out ia ib)(hn:n<=ia+ib+1)(h:∀ x∈a.toList.drop ia,∀ y,b[ib]?=some y->leK κ y x) :
  wpS (model prog w) A E s (gl2 a b out ia ib g k bc) (G2 κ a b n aT) st:=by
 obtain ⟨y,y1,y2,y3,y4⟩:=item T.kb m.hb;unfold gl2;refine wpS_bind (aX y1 ?_);have m':=At.pushB T m.mi y4 fun z hz=>h z hz y y1;by_cases hb:ib+1=b.size
 ·rw [if_pos (by simpa using hb)];exact wpS_pure ⟨sg,.inl ⟨_,rfl,uF T m' hb⟩⟩
 ·rw [if_neg (by simpa using hb)];exact tH hL T L hk sg ⟨m',m.ha,by have:=m.hb;lia⟩ (by lia)
theorem tK (hL:LtAll prog w A E s κ ks)(T:Two κ a b)(L:iy κ a b){g ia ib ac bc n:Nat}{out:Array Keyed}{aT st:SortSt}(hk:kindOf st=ks)(sg:SG aT st)(m:At κ a b out ia ib)(hn:n<=ia+ib+1) :
  wpS (model prog w) A E s (gl1 a b out ia ib g ac bc) (G2 κ a b n aT) st:=by
 obtain ⟨y,y1,y2,y3,y4⟩:=item T.kb m.hb;have ha:=m.ha;unfold gl1;refine wpS_bind (iw fun st' fy=>?_);have cq:kindOf st'=ks:=fy.kind.trans hk
 have bg:SG aT st':=⟨fy.kind.trans sg.kind,fy.arr.trans sg.arr,fy.pend.trans sg.pend,fy.fail.trans sg.fail⟩
 refine wpS_bind (aX y1 ?_);refine wpS_bind (dB (κ:=κ) (kk:=key κ y) (hL st' cq) y2 (by lia) (fun i hi=>?_) (fun i j bE hj iq=>?_) fun k kn kt kf=>?_)
 ·obtain ⟨p,p1,p2,p3,_⟩:=item T.ka (i:=ia+i) (by lia);exact ⟨p,_,p1,p2,p3⟩
 ·have mono:=jf T.ka T.sa (i:=ia+i) (j:=ia+j) (by lia) (by lia);have iq:(!κ.blt (key κ y) (KK κ a (ia+j)))=true:=iq;show (!κ.blt (key κ y) (KK κ a (ia+i)))=true;rw [Bool.not_eq_true'] at iq ⊢;exact KeyOrd.kle_trans mono iq
 ·have f7:∀ x∈a.toList.drop (ia+k),∀ z,b[ib]?=some z->leK κ z x:=fun x hx z hz=>by
   rw [y1] at hz;cases hz;obtain ⟨j,j1,j2,j3⟩:=lD T.ka hx;have:=kf (j - ia) (by lia) (by lia);rw [show ia+(j - ia)=j by lia,j3] at this;have this:(!κ.blt (key κ y) (key κ x))=false:=this;rw [Bool.not_eq_false'] at this;exact KeyOrd.kle_of_klt this
  by_cases h0:k > 0
  ·dsimp only;rw [if_pos h0]
   have m':=At.segA (k:=k) T m.mi fun z hz x hx=>by
    obtain ⟨j,j1,j2,j3⟩:=je T.ka hz;have:=kt j j1;rw [j3] at this;have this:(!κ.blt (key κ y) (key κ z))=true:=this;rw [Bool.not_eq_true'] at this;exact dh (show leK κ z y from this) (jd T.sb y4 x hx)
   by_cases e:ia+k+1=a.size
   ·rw [if_pos (by simpa using e)];exact wpS_pure ⟨bg,.inl ⟨_,rfl,uG T L m' e⟩⟩
   ·rw [if_neg (by simpa using e)];by_cases e2:ia+k=a.size
    ·rw [if_pos (by simpa using e2)];exact wpS_pure ⟨bg,.inl ⟨_,rfl,FJ T m' e2⟩⟩
    ·rw [if_neg (by simpa using e2)];exact lF hL T L cq bg ⟨m',by lia,m.hb⟩ (by lia) f7
  ·dsimp only;rw [if_neg h0];have e:k=0:=by lia
   rw [e] at f7;exact lF hL T L cq bg m hn f7
theorem lG (hL:LtAll prog w A E s κ ks)(T:Two κ a b)(L:iy κ a b){g ia ib:Nat}{out:Array Keyed}{aT st:SortSt}(hk:kindOf st=ks)(sg:SG aT st)(m:At κ a b out ia ib) :
  wpS (model prog w) A E s (round a b out ia ib g) (fun r st'=>SG aT st'/\match r with
   | .done c=>∃ z,c.1=some z/\Rs κ a b z
   | .yield c=>c.1=none/\At κ a b c.2.1 c.2.2.1 c.2.2.2.1/\ia+ib+1<=c.2.2.1+c.2.2.2.1) st:=by
 unfold round;have Kp:0 < a.size+b.size:=by have:=m.ha;lia
 refine wpS_bind (wpS_mono (wpS_forRange (I:=fun x c st'=>st'=st/\c.1=none/\At κ a b c.2.1 c.2.2.1 c.2.2.2.1/\ia+ib+x=c.2.2.1+c.2.2.2.1)
  (Q:=fun c st'=>st'=st/\((∃ z,c.1=some z/\Rs κ a b z)\/(c.1=none/\At κ a b c.2.1 c.2.2.1 c.2.2.2.1/\ia+ib+1<=c.2.2.1+c.2.2.2.1))) ?_ ?_ ⟨rfl,rfl,m,rfl⟩) ?_)
 ·rintro x ⟨c0,o,i,j,ac,bc⟩ st' _ hx ⟨rfl,rfl,m',e⟩;dsimp only at m' e ⊢;refine wpS_mono (tG hL T L hk m') fun r st2 h2=>?_;obtain ⟨rfl,h2⟩:=h2
  cases r with
  | done c =>
   rcases h2 with h2 | ⟨h2,h3,h4⟩
   ·exact ⟨rfl,.inl h2⟩
   ·exact ⟨rfl,.inr ⟨h2,h3,by lia⟩⟩
  | yield c =>
   obtain ⟨h2,h3,h4⟩:=h2;exact ⟨rfl,h2,h3,by lia⟩
 ·rintro c st' ⟨rfl,h1,h2,h3⟩;exact ⟨rfl,.inr ⟨h1,h2,by lia⟩⟩
 ·rintro ⟨c0,o,i,j,ac,bc⟩ st' ⟨rfl,h⟩;dsimp only at h ⊢;rcases h with ⟨z,rfl,hz⟩ | ⟨rfl,m',bE⟩
  ·exact wpS_pure ⟨sg,z,rfl,hz⟩
  ·dsimp only;refine wpS_bind (wpS_lift (wpAny_rule ⟨rfl,?_⟩))
   refine wpS_bind (wpS_mono (wpS_forRange (I:=fun x c st2=>SG aT st2/\c.1=none/\At κ a b c.2.1 c.2.2.1 c.2.2.2.1/\ia+ib+1<=c.2.2.1+c.2.2.2.1)
    (Q:=fun c st2=>SG aT st2/\((∃ z,c.1=some z/\Rs κ a b z)\/(c.1=none/\At κ a b c.2.1 c.2.2.1 c.2.2.2.1/\ia+ib+1<=c.2.2.1+c.2.2.2.1))) ?_ ?_ ⟨sg,rfl,m',bE⟩) ?_)
   ·rintro x ⟨c0,o,i,j,g2,ac,bc⟩ st2 _ hx ⟨bg,rfl,m2,e2⟩;dsimp only at m2 e2 ⊢;have wc:kindOf st2=ks:=bg.kind.trans (sg.kind.symm.trans hk);have go:∀ g',wpS (model prog w) A E s (gl1 a b o i j g' ac bc) (G2 κ a b (ia+ib+1) aT) st2:=fun g'=>tK hL T L wc bg m2 (by lia);unfold gal;split
    ·refine wpS_mono (go _) fun r gy h3=>?_;obtain ⟨h3,h4⟩:=h3
     cases r with
     | done c=>exact ⟨h3,h4⟩
     | yield c=>exact ⟨h3,h4⟩
    ·refine wpS_mono (go _) fun r gy h3=>?_;obtain ⟨h3,h4⟩:=h3
     cases r with
     | done c=>exact ⟨h3,h4⟩
     | yield c=>exact ⟨h3,h4⟩
   ·rintro c st2 ⟨h0,h1,h2,h3⟩;exact ⟨h0,.inr ⟨h1,h2,h3⟩⟩
   ·rintro ⟨c0,o,i,j,g2,ac,bc⟩ st2 ⟨bg,h⟩;dsimp only at h ⊢;rcases h with ⟨z,rfl,hz⟩ | ⟨rfl,m2,p9⟩
    ·exact wpS_pure ⟨bg,z,rfl,hz⟩
    ·dsimp only;refine wpS_bind (iw fun gy kU=>wpS_pure ⟨⟨kU.kind.trans bg.kind,kU.arr.trans bg.arr,kU.pend.trans bg.pend,kU.fail.trans bg.fail⟩,rfl,m2,p9⟩)
theorem FN (hL:LtAll prog w A E s κ ks)(T:Two κ a b)(L:iy κ a b)(ha:0 < a.size)(hb:0 < b.size)(F:∀ x∈a.toList,∀ y,b[0]?=some y->leK κ y x){st:SortSt}(hk:kindOf st=ks){Q:Array Keyed->SortSt->Prop}
  (h:∀ r st',SG st st'->Rs κ a b r->Q r st'):wpS (model prog w) A E s (jb a b) Q st:=by
 rw [Fz];obtain ⟨y,y1,y2,y3,y4⟩:=item T.kb hb;refine wpS_bind (wpS_lift (wpAny_rule ⟨rfl,?_⟩));refine wpS_bind (aX y1 ?_)
 have m0:MI (leK κ) a.toList b.toList ([]:List Keyed) 0 0:=⟨by simp,.nil,fun x hx=>absurd hx (by simp)⟩
 have m:MI (leK κ) a.toList b.toList (#[y]:Array Keyed).toList 0 1:=by
  have:=At.pushB (out:=#[]) T m0 y4 fun z hz=>F z hz y y1;exact this
 by_cases e1:1=b.size
 ·rw [if_pos (by simpa using e1)];exact wpS_pure (h _ st (SG.refl _) (uF T m e1))
 ·rw [if_neg (by simpa using e1)];by_cases e2:0+1=a.size
  ·rw [if_pos (by simpa using e2)];exact wpS_pure (h _ st (SG.refl _) (uG T L m e2))
  ·rw [if_neg (by simpa using e2)];refine wpS_bind (wpS_get ?_)
   refine wpS_bind (wpS_mono (wpS_forRange (I:=fun x c st'=>SG st st'/\c.1=none/\At κ a b c.2.1 c.2.2.1 c.2.2.2.1/\1+x<=c.2.2.1+c.2.2.2.1)
    (Q:=fun c st'=>SG st st'/\∃ z,c.1=some z/\Rs κ a b z) ?_ ?_ ⟨SG.refl _,rfl,⟨m,by dsimp only;lia,by dsimp only;lia⟩,by dsimp only;lia⟩) ?_)
   ·rintro x ⟨c0,o,i,j,g⟩ st' _ hx ⟨sg,rfl,m',e⟩;dsimp only at m' e ⊢;refine wpS_mono (lG hL T L (sg.kind.trans hk) sg m') fun r st2 h2=>?_;obtain ⟨bg,h2⟩:=h2
    cases r with
    | done c=>exact ⟨bg,h2⟩
    | yield c =>
     obtain ⟨h2,h3,h4⟩:=h2;exact ⟨bg,h2,h3,by lia⟩
   ·rintro c st' ⟨sg,h1,m',e⟩;have:=m'.ha;have:=m'.hb;exact absurd e (by lia)
   ·rintro ⟨c0,o,i,j,g⟩ st' ⟨sg,z,e,hz⟩;dsimp only at e;rw [e];exact wpS_pure (h z st' sg hz)
end
def jg:Array Keyed->Array Keyed->Sm (Array Keyed):=sortPriv% PySem.Builtin.mergeHi
namespace Hi
abbrev dn (a b out:Array Keyed)(na nb:Nat):Array Keyed:=a.extract 0 na++b.extract 0 nb++out.reverse
abbrev fb (a b out:Array Keyed)(na nb:Nat):Array Keyed:=b.extract 0 nb++a.extract 0 na++out.reverse
abbrev H1:=Option (Array Keyed)×Nat×Nat×Array Keyed×Nat×Nat
abbrev H2:=Option (Array Keyed)×Nat×Nat×Array Keyed×Nat×Nat×Nat
abbrev H0:=Option (Array Keyed)×Nat×Nat×Array Keyed×Nat
def one (a b:Array Keyed)(g:Nat)(na nb:Nat)(out:Array Keyed)(ac bc:Nat):Sm (ForInStep H1):=do
 let y <- elem' b (nb - 1)
 let x <- elem' a (na - 1)
 let r <- lt' y x
 match r with
 | some w =>
  if w=true then do
   let x <- elem' a (na - 1)
   if (na - 1 == 0)=true then pure (ForInStep.done (some (dn a b (out.push x) (na - 1) nb),na - 1,nb,out.push x,ac+1,0))
   else if ac+1 ≥ g then pure (ForInStep.done (none,na - 1,nb,out.push x,ac+1,0)) else pure (ForInStep.yield (none,na - 1,nb,out.push x,ac+1,0))
  else do
   let y <- elem' b (nb - 1)
   if (nb - 1 == 1)=true then pure (ForInStep.done (some (fb a b (out.push y) na (nb - 1)),na,nb - 1,out.push y,0,bc+1))
   else if bc+1 ≥ g then pure (ForInStep.done (none,na,nb - 1,out.push y,0,bc+1)) else pure (ForInStep.yield (none,na,nb - 1,out.push y,0,bc+1))
 | _=>pure (ForInStep.done (some (dn a b out na nb),na,nb,out,ac,bc))
def gl4 (a b:Array Keyed)(na nb:Nat)(out:Array Keyed)(g k k1:Nat):Sm (ForInStep H2):=do
 let x <- elem' a (na - 1)
 if (na - 1 == 0)=true then pure (ForInStep.done (some (dn a b (out.push x) (na - 1) nb),na - 1,nb,out.push x,g,k,k1))
 else if (decide (k < 7) && decide (k1 < 7))=true then pure (ForInStep.done (none,na - 1,nb,out.push x,g,k,k1)) else pure (ForInStep.yield (none,na - 1,nb,out.push x,g,k,k1))
def gl3 (a b:Array Keyed)(na nb:Nat)(out:Array Keyed)(g k bc:Nat):Sm (ForInStep H2):=do
 let x <- elem' a (na - 1)
 let r <- fD true x b 0 nb (nb - 1)
 match r with
 | some t =>
  if nb - t > 0 then
   if (t == 1)=true then pure (ForInStep.done (some (fb a b (out++(b.extract t nb).reverse) na t),na,t,out++(b.extract t nb).reverse,g,k,nb - t))
   else if (t == 0)=true then pure (ForInStep.done (some (dn a b (out++(b.extract t nb).reverse) na t),na,t,out++(b.extract t nb).reverse,g,k,nb - t))
   else gl4 a b na t (out++(b.extract t nb).reverse) g k (nb - t)
  else gl4 a b na nb out g k (nb - t)
 | _=>pure (ForInStep.done (some (dn a b out na nb),na,nb,out,g,k,bc))
def gl2 (a b:Array Keyed)(na nb:Nat)(out:Array Keyed)(g k bc:Nat):Sm (ForInStep H2):=do
 let y <- elem' b (nb - 1)
 if (nb - 1 == 1)=true then pure (ForInStep.done (some (fb a b (out.push y) na (nb - 1)),na,nb - 1,out.push y,g,k,bc))
 else gl3 a b na (nb - 1) (out.push y) g k bc
def gl1 (a b:Array Keyed)(na nb:Nat)(out:Array Keyed)(g ac bc:Nat):Sm (ForInStep H2):=do
 jc g
 let y <- elem' b (nb - 1)
 let r <- fD false y a 0 na (na - 1)
 match r with
 | some t =>
  if na - t > 0 then
   if (t == 0)=true then pure (ForInStep.done (some (dn a b (out++(a.extract t na).reverse) t nb),t,nb,out++(a.extract t na).reverse,g,na - t,bc))
   else gl2 a b t nb (out++(a.extract t na).reverse) g (na - t) bc
  else gl2 a b na nb out g (na - t) bc
 | _=>pure (ForInStep.done (some (dn a b out na nb),na,nb,out,g,ac,bc))
def gal (a b:Array Keyed)(na nb:Nat)(out:Array Keyed)(g ac bc:Nat):Sm (ForInStep H2):=if g > 1 then gl1 a b na nb out (g - 1) ac bc else gl1 a b na nb out g ac bc
def round (a b:Array Keyed)(na nb:Nat)(out:Array Keyed)(g:Nat):Sm (ForInStep H0):=do
 let c <- forIn [0:a.size+b.size] ((none,na,nb,out,0,0):H1) fun _ c=>one a b g c.2.1 c.2.2.1 c.2.2.2.1 c.2.2.2.2.1 c.2.2.2.2.2
 match c.1 with
 | some r=>pure (ForInStep.done (some r,c.2.1,c.2.2.1,c.2.2.2.1,g))
 | none=>do
  liftM (rule "list.sort.gallop")
  let d <- forIn [0:a.size+b.size] ((none,c.2.1,c.2.2.1,c.2.2.2.1,g+1,c.2.2.2.2.1,c.2.2.2.2.2):H2) fun _ d=>gal a b d.2.1 d.2.2.1 d.2.2.2.1 d.2.2.2.2.1 d.2.2.2.2.2.1 d.2.2.2.2.2.2
  match d.1 with
  | some r=>pure (ForInStep.done (some r,d.2.1,d.2.2.1,d.2.2.2.1,d.2.2.2.2.1))
  | none=>do
   jc (d.2.2.2.2.1+1)
   pure (ForInStep.yield (none,d.2.1,d.2.2.1,d.2.2.2.1,d.2.2.2.2.1+1))
theorem FP (a b:Array Keyed):jg a b=(do
  liftM (rule "list.sort.merge-hi")
  let e <- elem' a (a.size - 1)
  if (a.size - 1 == 0)=true then pure (dn a b #[e] (a.size - 1) b.size)
  else if (b.size == 1)=true then pure (fb a b #[e] (a.size - 1) b.size)
  else do
   let s <- get
   let c <- forIn [0:a.size+b.size] ((none,a.size - 1,b.size,#[e],gallopOf s):H0) fun _ c=>round a b c.2.1 c.2.2.1 c.2.2.2.1 c.2.2.2.2
   match c.1 with
   | some r=>pure r
   | none=>liftM (unsupported "internal:list.sort.merge-bound")):=by
 delta jg
 refine bc rfl (funext fun u=>bc rfl (funext fun e=>ic rfl (ic rfl (bc rfl (funext fun s=>bc (fi (funext fun x=>funext fun c=>?_)) (funext fun c=>?_))))))
 ·unfold round;refine bc (fi (funext fun x=>funext fun c1=>?_)) (funext fun c1=>?_)
  ·unfold one;refine bc rfl (funext fun y=>bc rfl (funext fun x=>bc rfl (funext fun r=>?_)))
   cases r with
   | none=>rfl
   | some w=>exact ic (bc rfl (funext fun y=>ic rfl (ic rfl rfl))) (bc rfl (funext fun y=>ic rfl (ic rfl rfl)))
  ·obtain ⟨r,c1⟩:=c1
   cases r with
   | some r=>rfl
   | none =>
    refine bc rfl (funext fun u=>bc (fi (funext fun x=>funext fun d=>?_)) (funext fun d=>?_))
    ·unfold gal;refine ic ?_ ?_
     ·unfold gl1;exact bc rfl (funext fun u=>bc rfl (funext fun y=>bc rfl (funext fun r=>by cases r with | none=>rfl | some k=>exact ic (ic rfl (by unfold gl2;exact bc rfl (funext fun y=>ic rfl (by unfold gl3;exact bc rfl (funext fun x=>bc rfl (funext fun r=>by cases r with | none=>rfl | some k1=>exact ic (ic rfl (ic rfl (by unfold gl4;exact bc rfl (funext fun x=>ic rfl (ic rfl rfl))))) (by unfold gl4;exact bc rfl (funext fun x=>ic rfl (ic rfl rfl))))))))) (by unfold gl2;exact bc rfl (funext fun y=>ic rfl (by unfold gl3;exact bc rfl (funext fun x=>bc rfl (funext fun r=>by cases r with | none=>rfl | some k1=>exact ic (ic rfl (ic rfl (by unfold gl4;exact bc rfl (funext fun x=>ic rfl (ic rfl rfl))))) (by unfold gl4;exact bc rfl (funext fun x=>ic rfl (ic rfl rfl)))))))))))
     ·unfold gl1;exact bc rfl (funext fun u=>bc rfl (funext fun y=>bc rfl (funext fun r=>by cases r with | none=>rfl | some k=>exact ic (ic rfl (by unfold gl2;exact bc rfl (funext fun y=>ic rfl (by unfold gl3;exact bc rfl (funext fun x=>bc rfl (funext fun r=>by cases r with | none=>rfl | some k1=>exact ic (ic rfl (ic rfl (by unfold gl4;exact bc rfl (funext fun x=>ic rfl (ic rfl rfl))))) (by unfold gl4;exact bc rfl (funext fun x=>ic rfl (ic rfl rfl))))))))) (by unfold gl2;exact bc rfl (funext fun y=>ic rfl (by unfold gl3;exact bc rfl (funext fun x=>bc rfl (funext fun r=>by cases r with | none=>rfl | some k1=>exact ic (ic rfl (ic rfl (by unfold gl4;exact bc rfl (funext fun x=>ic rfl (ic rfl rfl))))) (by unfold gl4;exact bc rfl (funext fun x=>ic rfl (ic rfl rfl)))))))))))
    ·obtain ⟨r,d⟩:=d;cases r <;> rfl
 ·obtain ⟨r,c⟩:=c;cases r <;> rfl
section
variable {α:Type}{le:α->α->Prop}
structure MH (le:α->α->Prop)(la lb lo:List α)(na nb:Nat):Prop where
 pm:lo.Perm (la.drop na++lb.drop nb)
 sr:lo.Pairwise le
 be:∀ x∈lo,∀ y,y∈la.take na\/y∈lb.take nb->le y x
theorem uH {l:List α}{i j:Nat}{y:α}(h:i<=j)(hy:y∈l.take i):y∈l.take j:=by
 rw [show i=min i j by lia,<- List.take_take] at hy;exact List.mem_of_mem_take hy
theorem cut_drop {l:List α}{t n:Nat}(h:t<=n)(hn:n<=l.length):(l.take n).drop t++l.drop n=l.drop t:=by
 have e:=zBa n l;have:(l.take n++l.drop n).drop t=(l.take n).drop t++l.drop n:=List.drop_append_of_le_length (by rw [zAd];lia);rw [e] at this;exact this.symm
theorem xT {l:List α}(hp:l.Pairwise le){t n:Nat}(h:t<=n):∀ y∈l.take t,∀ x∈(l.take n).drop t,le y x:=by
 have h2:(l.take n).Pairwise le:=hp.sublist (List.take_sublist _ _);have e:=zBa t (l.take n);rw [<- e] at h2;rw [List.take_take,show min t n=t by lia] at h2;exact fun y hy x hx=>(List.pairwise_append.mp h2).2.2 y hy x hx
theorem MH.segA {la lb lo:List α}{na nb t:Nat}(m:MH le la lb lo na nb)(sa:la.Pairwise le)(ht:t<=na)(hn:na<=la.length)(h:∀ x∈(la.take na).drop t,∀ y∈lb.take nb,le y x):MH le la lb ((la.take na).drop t++lo) t nb:=by
 refine ⟨?_,List.pairwise_append.mpr ⟨(sa.sublist (List.take_sublist _ _)).sublist (List.drop_sublist _ _),m.sr,fun x hx y hy=>m.be y hy x (.inl (List.mem_of_mem_drop hx))⟩,fun x hx y hy=>?_⟩
 ·refine (List.Perm.append_left _ m.pm).trans ?_;rw [<- zAf,cut_drop ht hn]
 ·rcases zA6.mp hx with z | z
  ·rcases hy with hy | hy
   ·exact xT sa ht y hy x z
   ·exact h x z y hy
  ·exact m.be x z y (hy.imp (uH ht) id)
theorem MH.segB {la lb lo:List α}{na nb t:Nat}(m:MH le la lb lo na nb)(sb:lb.Pairwise le)(ht:t<=nb)(hn:nb<=lb.length)(h:∀ x∈(lb.take nb).drop t,∀ y∈la.take na,le y x):MH le la lb ((lb.take nb).drop t++lo) na t:=by
 refine ⟨?_,List.pairwise_append.mpr ⟨(sb.sublist (List.take_sublist _ _)).sublist (List.drop_sublist _ _),m.sr,fun x hx y hy=>m.be y hy x (.inr (List.mem_of_mem_drop hx))⟩,fun x hx y hy=>?_⟩
 ·refine (List.Perm.append_left _ m.pm).trans ?_;refine (List.perm_append_comm_assoc _ _ _).trans ?_;rw [cut_drop ht hn]
 ·rcases zA6.mp hx with z | z
  ·rcases hy with hy | hy
   ·exact h x z y hy
   ·exact xT sb ht y hy x z
  ·exact m.be x z y (hy.imp id (uH ht))
theorem MH.first {la lb lo:List α}{na nb:Nat}(m:MH le la lb lo na nb)(sa:la.Pairwise le)(sb:lb.Pairwise le)(h:∀ y∈lb.take nb,∀ x∈la.take na,le y x):Done le la lb (lb.take nb++la.take na++lo):=by
 refine ⟨?_,List.pairwise_append.mpr ⟨List.pairwise_append.mpr ⟨sb.sublist (List.take_sublist _ _),sa.sublist (List.take_sublist _ _),h⟩,m.sr,fun x hx y hy=>m.be y hy x ((zA6.mp hx).symm)⟩⟩;refine (List.Perm.append_left _ m.pm).trans ?_
 have e:lb.take nb++la.take na++(la.drop na++lb.drop nb)=lb.take nb++(la++lb.drop nb):=by
  rw [zAf,<- zAf (la.take na),zBa]
 rw [e];refine (List.perm_append_comm_assoc _ _ _).trans ?_;rw [zBa]
theorem MH.endA {la lb lo:List α}{nb:Nat}(m:MH le la lb lo 0 nb)(sa:la.Pairwise le)(sb:lb.Pairwise le):Done le la lb (la.take 0++lb.take nb++lo):=by
 have:=m.first sa sb fun y _ x hx=>absurd hx (by simp)
 rw [List.take_zero,zAn] at this;rw [List.take_zero,List.nil_append];exact this
theorem MH.endB {la lb lo:List α}{na:Nat}(m:MH le la lb lo na 0)(sa:la.Pairwise le)(sb:lb.Pairwise le):Done le la lb (la.take na++lb.take 0++lo):=by
 have:=m.first sa sb fun y hy x _=>absurd hy (by simp)
 rw [List.take_zero,List.nil_append] at this;rw [List.take_zero,zAn];exact this
end
section
variable {prog:Program}{w:World}{A:Around}{E:Value->Shared->Prop}{s:Shared}{κ:PyProof.Rows.KeyKind}{ks:SortKind}{a b:Array Keyed}
theorem vX (a:Array Keyed)(n:Nat):(a.extract 0 n).toList=a.toList.take n:=by
 rw [fU];simp
theorem ext_cut (a:Array Keyed)(t n:Nat):(a.extract t n).toList=(a.toList.take n).drop t:=by
 rw [fU,List.drop_take]
theorem rD (out:Array Keyed)(x:Keyed):(out.push x).reverse.toList=x::out.reverse.toList:=by simp
theorem uI (out seg:Array Keyed):(out++seg.reverse).reverse.toList=seg.toList++out.reverse.toList:=by simp
abbrev Mh (κ:PyProof.Rows.KeyKind)(a b out:Array Keyed)(na nb:Nat):Prop:=MH (leK κ) a.toList b.toList out.reverse.toList na nb
structure At (κ:PyProof.Rows.KeyKind)(a b out:Array Keyed)(na nb:Nat):Prop where
 mi:Mh κ a b out na nb
 a1:1<=na
 a2:na<=a.size
 b1:2<=nb
 b2:nb<=b.size
theorem gn {κ:PyProof.Rows.KeyKind}{a:Array Keyed}(ka:KeysOf κ a){n:Nat}(h1:1<=n)(h2:n<=a.size):∃ p,a[n - 1]?=some p/\κ.keyOf p.1=some (key κ p)/\KK κ a (n - 1)=key κ p/\(a.toList.take n).drop (n - 1)=[p]:=by
 obtain ⟨p,p1,p2,p3,p4⟩:=item ka (i:=n - 1) (by lia);refine ⟨p,p1,p2,p3,?_⟩;rw [List.drop_take,p4,show n - (n - 1)=1 by lia];rfl
theorem take_key {κ:PyProof.Rows.KeyKind}{a:Array Keyed}(ka:KeysOf κ a){n t:Nat}{x:Keyed}(h:x∈(a.toList.take n).drop t):∃ j,t<=j/\j < n/\j < a.size/\KK κ a j=key κ x:=by
 rw [List.drop_take] at h;obtain ⟨j,j1,j2,j3⟩:=je ka h;exact ⟨t+j,by lia,by lia,j2,j3⟩
theorem take_key0 {κ:PyProof.Rows.KeyKind}{a:Array Keyed}(ka:KeysOf κ a){n:Nat}{x:Keyed}(h:x∈a.toList.take n):∃ j,j < n/\j < a.size/\KK κ a j=key κ x:=by
 have h':x∈(a.toList.take n).drop 0:=by rw [List.drop_zero];exact h
 obtain ⟨j,_,j1,j2,j3⟩:=take_key ka h';exact ⟨j,j1,j2,j3⟩
theorem uJ {κ:PyProof.Rows.KeyKind}{a:Array Keyed}(ka:KeysOf κ a)(sa:a.toList.Pairwise (leK κ)){n:Nat}{p:Keyed}(h1:1<=n)(h2:n<=a.size)(e:KK κ a (n - 1)=key κ p):∀ y∈a.toList.take n,leK κ y p:=fun y hy=>by
 obtain ⟨j,j1,j2,j3⟩:=take_key0 ka hy;have:=jf ka sa (i:=j) (j:=n - 1) (by lia) (by lia);rw [j3,e] at this;exact this
theorem pushA {out:Array Keyed}{na nb:Nat}{x:Keyed}(T:Two κ a b)(m:Mh κ a b out na nb)(h1:1<=na)(h2:na<=a.size)(e:(a.toList.take na).drop (na - 1)=[x])(h:∀ y∈b.toList.take nb,leK κ y x):Mh κ a b (out.push x) (na - 1) nb:=by
 have:=MH.segA (t:=na - 1) m T.sa (by lia) (by rw [zA9];exact h2) fun z hz y hy=>by
  rw [e] at hz;rw [List.mem_singleton.mp hz];exact h y hy
 rw [e] at this;unfold Mh;rw [rD];exact this
theorem pushB {out:Array Keyed}{na nb:Nat}{x:Keyed}(T:Two κ a b)(m:Mh κ a b out na nb)(h1:1<=nb)(h2:nb<=b.size)(e:(b.toList.take nb).drop (nb - 1)=[x])(h:∀ y∈a.toList.take na,leK κ y x):Mh κ a b (out.push x) na (nb - 1):=by
 have:=MH.segB (t:=nb - 1) m T.sb (by lia) (by rw [zA9];exact h2) fun z hz y hy=>by
  rw [e] at hz;rw [List.mem_singleton.mp hz];exact h y hy
 rw [e] at this;unfold Mh;rw [rD];exact this
theorem FQ {out:Array Keyed}{na nb t:Nat}(T:Two κ a b)(m:Mh κ a b out na nb)(ht:t<=na)(h2:na<=a.size)(h:∀ x∈(a.toList.take na).drop t,∀ y∈b.toList.take nb,leK κ y x):Mh κ a b (out++(a.extract t na).reverse) t nb:=by
 have:=MH.segA m T.sa ht (by rw [zA9];exact h2) h;unfold Mh;rw [uI,ext_cut];exact this
theorem FT {out:Array Keyed}{na nb t:Nat}(T:Two κ a b)(m:Mh κ a b out na nb)(ht:t<=nb)(h2:nb<=b.size)(h:∀ x∈(b.toList.take nb).drop t,∀ y∈a.toList.take na,leK κ y x):Mh κ a b (out++(b.extract t nb).reverse) na t:=by
 have:=MH.segB m T.sb ht (by rw [zA9];exact h2) h;unfold Mh;rw [uI,ext_cut];exact this
def FirstB (κ:PyProof.Rows.KeyKind)(a b:Array Keyed):Prop:=∀ y∈b.toList.take 1,∀ x∈a.toList,leK κ y x
theorem e_a {out:Array Keyed}{na nb:Nat}(T:Two κ a b)(m:Mh κ a b out na nb)(h:na=0):Rs κ a b (dn a b out na nb):=by
 subst h;have:=MH.endA m T.sa T.sb;unfold Rs dn;rw [Array.toList_append,Array.toList_append,vX,vX];exact this
theorem e_b {out:Array Keyed}{na nb:Nat}(T:Two κ a b)(m:Mh κ a b out na nb)(h:nb=0):Rs κ a b (dn a b out na nb):=by
 subst h;have:=MH.endB m T.sa T.sb;unfold Rs dn;rw [Array.toList_append,Array.toList_append,vX,vX];exact this
theorem e_f {out:Array Keyed}{na nb:Nat}(T:Two κ a b)(F:FirstB κ a b)(m:Mh κ a b out na nb)(h:nb=1):Rs κ a b (fb a b out na nb):=by
 subst h
 have:=MH.first m T.sa T.sb fun y hy x hx=>F y hy x (List.mem_of_mem_take hx)
 unfold Rs fb;rw [Array.toList_append,Array.toList_append,vX,vX];exact this
theorem tG (hL:LtAll prog w A E s κ ks)(T:Two κ a b)(F:FirstB κ a b){g na nb ac bc:Nat}{out:Array Keyed}{st:SortSt}(hk:kindOf st=ks)(m:At κ a b out na nb) :
  wpS (model prog w) A E s (one a b g na nb out ac bc) (fun r st'=>st'=st/\match r with
   | .done c=>(∃ z,c.1=some z/\Rs κ a b z)\/(c.1=none/\At κ a b c.2.2.2.1 c.2.1 c.2.2.1/\c.2.1+c.2.2.1+1=na+nb)
   | .yield c=>c.1=none/\At κ a b c.2.2.2.1 c.2.1 c.2.2.1/\c.2.1+c.2.2.1+1=na+nb) st:=by
 obtain ⟨mi,a1,a2,b1,b2⟩:=m;obtain ⟨x,x1,x2,x3,x4⟩:=gn T.ka a1 a2;obtain ⟨y,y1,y2,y3,y4⟩:=gn T.kb (show 1<=nb by lia) b2;unfold one;refine wpS_bind (aX y1 (wpS_bind (aX x1 (wpS_bind (hL st hk _ _ _ _ _ y2 x2 ?_)))))
 cases e:κ.blt (key κ y) (key κ x) with
 | true =>
  dsimp only;rw [if_pos rfl];refine wpS_bind (aX x1 ?_);have m':=pushA T mi a1 a2 x4 fun z hz=>dh (uJ T.kb T.sb (by lia) b2 y3 z hz) (KeyOrd.kle_of_klt e);by_cases h0:na - 1=0
  ·rw [if_pos (by simpa using h0)];exact wpS_pure ⟨rfl,.inl ⟨_,rfl,e_a T m' h0⟩⟩
  ·rw [if_neg (by simpa using h0)]
   have at':At κ a b (out.push x) (na - 1) nb:=⟨m',by lia,by lia,b1,b2⟩
   split
   ·exact wpS_pure ⟨rfl,.inr ⟨rfl,at',by dsimp only;lia⟩⟩
   ·exact wpS_pure ⟨rfl,rfl,at',by dsimp only;lia⟩
 | false =>
  dsimp only;rw [if_neg (by decide)];refine wpS_bind (aX y1 ?_);have m':=pushB T mi (by lia) b2 y4 fun z hz=>dh (uJ T.ka T.sa a1 a2 x3 z hz) (show leK κ x y from e);by_cases h0:nb - 1=1
  ·rw [if_pos (by simpa using h0)];exact wpS_pure ⟨rfl,.inl ⟨_,rfl,e_f T F m' h0⟩⟩
  ·rw [if_neg (by simpa using h0)]
   have at':At κ a b (out.push y) na (nb - 1):=⟨m',a1,a2,by lia,by lia⟩
   split
   ·exact wpS_pure ⟨rfl,.inr ⟨rfl,at',by dsimp only;lia⟩⟩
   ·exact wpS_pure ⟨rfl,rfl,at',by dsimp only;lia⟩
def G2 (κ:PyProof.Rows.KeyKind)(a b:Array Keyed)(n:Nat)(st:SortSt)(r:ForInStep H2)(st':SortSt):Prop:=SG st st'/\match r with
 | .done c=>(∃ z,c.1=some z/\Rs κ a b z)\/(c.1=none/\At κ a b c.2.2.2.1 c.2.1 c.2.2.1/\c.2.1+c.2.2.1 < n)
 | .yield c=>c.1=none/\At κ a b c.2.2.2.1 c.2.1 c.2.2.1/\c.2.1+c.2.2.1 < n
theorem lE (T:Two κ a b){g na nb k k1 n:Nat}{out:Array Keyed}{aT st:SortSt}(sg:SG aT st)(m:At κ a b out na nb)(hn:na+nb<=n)(h:∀ y∈b.toList.take nb,∀ x,a[na - 1]?=some x->leK κ y x) :
  wpS (model prog w) A E s (gl4 a b na nb out g k k1) (G2 κ a b n aT) st:=by
 obtain ⟨mi,a1,a2,b1,b2⟩:=m;obtain ⟨x,x1,x2,x3,x4⟩:=gn T.ka a1 a2;unfold gl4;refine wpS_bind (aX x1 ?_);have m':=pushA T mi a1 a2 x4 fun z hz=>h z hz x x1;by_cases h0:na - 1=0
 ·rw [if_pos (by simpa using h0)];exact wpS_pure ⟨sg,.inl ⟨_,rfl,e_a T m' h0⟩⟩
 ·rw [if_neg (by simpa using h0)]
  have at':At κ a b (out.push x) (na - 1) nb:=⟨m',by lia,by lia,b1,b2⟩
  split
  ·exact wpS_pure ⟨sg,.inr ⟨rfl,at',by dsimp only;lia⟩⟩
  ·exact wpS_pure ⟨sg,rfl,at',by dsimp only;lia⟩
theorem tH (hL:LtAll prog w A E s κ ks)(T:Two κ a b)(F:FirstB κ a b){g na nb k bc n:Nat}{out:Array Keyed}{aT st:SortSt}(hk:kindOf st=ks)(sg:SG aT st)(m:At κ a b out na nb)(hn:na+nb<=n) :
  wpS (model prog w) A E s (gl3 a b na nb out g k bc) (G2 κ a b n aT) st:=by
 obtain ⟨mi,a1,a2,b1,b2⟩:=id m;obtain ⟨x,x1,x2,x3,x4⟩:=gn T.ka a1 a2;unfold gl3;refine wpS_bind (aX x1 ?_);refine wpS_bind (dB (κ:=κ) (kk:=key κ x) (hL st hk) x2 (by lia) (fun i hi=>?_) (fun i j bE hj iq=>?_) fun t kn kt kf=>?_)
 ·obtain ⟨p,p1,p2,p3,_⟩:=item T.kb (i:=0+i) (by lia);exact ⟨p,_,p1,p2,p3⟩
 ·have mono:=jf T.kb T.sb (i:=0+i) (j:=0+j) (by lia) (by lia);exact KeyOrd.klt_of_kle_of_klt mono iq
 ·have early:∀ y∈b.toList.take t,∀ z,a[na - 1]?=some z->leK κ y z:=fun y hy z hz=>by
   rw [x1] at hz;cases hz;obtain ⟨j,j1,j2,j3⟩:=take_key0 T.kb hy;have:=kt j j1;rw [Nat.zero_add,j3] at this;exact KeyOrd.kle_of_klt this
  by_cases h0:nb - t > 0
  ·dsimp only;rw [if_pos h0]
   have m':=FT T mi (show t<=nb by lia) b2 fun z hz y hy=>by
    obtain ⟨j,j1,j2,j3,j4⟩:=take_key T.kb hz;have:=kf j j1 j2;rw [Nat.zero_add,j4] at this;exact dh (uJ T.ka T.sa a1 a2 x3 y hy) (show leK κ x z from this)
   by_cases e:t=1
   ·rw [if_pos (by simpa using e)];exact wpS_pure ⟨sg,.inl ⟨_,rfl,e_f T F m' e⟩⟩
   ·rw [if_neg (by simpa using e)];by_cases e2:t=0
    ·rw [if_pos (by simpa using e2)];exact wpS_pure ⟨sg,.inl ⟨_,rfl,e_b T m' e2⟩⟩
    ·rw [if_neg (by simpa using e2)];exact lE T sg ⟨m',a1,a2,by lia,by lia⟩ (by lia) early
  ·dsimp only;rw [if_neg h0];have e:t=nb:=by lia
   rw [e] at early;exact lE T sg m hn early
theorem lF (hL:LtAll prog w A E s κ ks)(T:Two κ a b)(F:FirstB κ a b){g na nb k bc n:Nat}{out:Array Keyed}{aT st:SortSt}(hk:kindOf st=ks)(sg:SG aT st)(m:At κ a b out na nb)(hn:na+nb<=n)(h:∀ x∈a.toList.take na,∀ y,b[nb - 1]?=some y->leK κ x y) :
  wpS (model prog w) A E s (gl2 a b na nb out g k bc) (G2 κ a b n aT) st:=by
 obtain ⟨mi,a1,a2,b1,b2⟩:=m;obtain ⟨y,y1,y2,y3,y4⟩:=gn T.kb (show 1<=nb by lia) b2;unfold gl2;refine wpS_bind (aX y1 ?_);have m':=pushB T mi (by lia) b2 y4 fun z hz=>h z hz y y1;by_cases h0:nb - 1=1
 ·rw [if_pos (by simpa using h0)];exact wpS_pure ⟨sg,.inl ⟨_,rfl,e_f T F m' h0⟩⟩
 ·rw [if_neg (by simpa using h0)];exact tH hL T F hk sg ⟨m',a1,a2,by lia,by lia⟩ (by lia)
theorem tK (hL:LtAll prog w A E s κ ks)(T:Two κ a b)(F:FirstB κ a b){g na nb ac bc n:Nat}{out:Array Keyed}{aT st:SortSt}(hk:kindOf st=ks)(sg:SG aT st)(m:At κ a b out na nb)(hn:na+nb<=n) :
  wpS (model prog w) A E s (gl1 a b na nb out g ac bc) (G2 κ a b n aT) st:=by
 obtain ⟨mi,a1,a2,b1,b2⟩:=id m;obtain ⟨y,y1,y2,y3,y4⟩:=gn T.kb (show 1<=nb by lia) b2;unfold gl1;refine wpS_bind (iw fun st' fy=>?_);have cq:kindOf st'=ks:=fy.kind.trans hk
 have bg:SG aT st':=⟨fy.kind.trans sg.kind,fy.arr.trans sg.arr,fy.pend.trans sg.pend,fy.fail.trans sg.fail⟩
 refine wpS_bind (aX y1 ?_);refine wpS_bind (dB (κ:=κ) (kk:=key κ y) (hL st' cq) y2 (by lia) (fun i hi=>?_) (fun i j bE hj iq=>?_) fun t kn kt kf=>?_)
 ·obtain ⟨p,p1,p2,p3,_⟩:=item T.ka (i:=0+i) (by lia);exact ⟨p,_,p1,p2,p3⟩
 ·have mono:=jf T.ka T.sa (i:=0+i) (j:=0+j) (by lia) (by lia);have iq:(!κ.blt (key κ y) (KK κ a (0+j)))=true:=iq;show (!κ.blt (key κ y) (KK κ a (0+i)))=true;rw [Bool.not_eq_true'] at iq ⊢;exact KeyOrd.kle_trans mono iq
 ·have early:∀ x∈a.toList.take t,∀ z,b[nb - 1]?=some z->leK κ x z:=fun x hx z hz=>by
   rw [y1] at hz;cases hz;obtain ⟨j,j1,j2,j3⟩:=take_key0 T.ka hx;have:=kt j j1;rw [Nat.zero_add,j3] at this;have this:(!κ.blt (key κ y) (key κ x))=true:=this;rw [Bool.not_eq_true'] at this;exact this
  by_cases h0:na - t > 0
  ·dsimp only;rw [if_pos h0]
   have m':=FQ T mi (show t<=na by lia) a2 fun z hz x hx=>by
    obtain ⟨j,j1,j2,j3,j4⟩:=take_key T.ka hz;have:=kf j j1 j2;rw [Nat.zero_add,j4] at this;have this:(!κ.blt (key κ y) (key κ z))=false:=this;rw [Bool.not_eq_false'] at this;exact dh (uJ T.kb T.sb (by lia) b2 y3 x hx) (KeyOrd.kle_of_klt this)
   by_cases e:t=0
   ·rw [if_pos (by simpa using e)];exact wpS_pure ⟨bg,.inl ⟨_,rfl,e_a T m' e⟩⟩
   ·rw [if_neg (by simpa using e)];exact lF hL T F cq bg ⟨m',by lia,by lia,b1,b2⟩ (by lia) early
  ·dsimp only;rw [if_neg h0];have e:t=na:=by lia
   rw [e] at early;exact lF hL T F cq bg m hn early
theorem lG (hL:LtAll prog w A E s κ ks)(T:Two κ a b)(F:FirstB κ a b){g na nb:Nat}{out:Array Keyed}{aT st:SortSt}(hk:kindOf st=ks)(sg:SG aT st)(m:At κ a b out na nb) :
  wpS (model prog w) A E s (round a b na nb out g) (fun r st'=>SG aT st'/\match r with
   | .done c=>∃ z,c.1=some z/\Rs κ a b z
   | .yield c=>c.1=none/\At κ a b c.2.2.2.1 c.2.1 c.2.2.1/\c.2.1+c.2.2.1 < na+nb) st:=by
 unfold round
 have Kp:0 < a.size+b.size:=by
  have:=m.a1;have:=m.a2;lia
 refine wpS_bind (wpS_mono (wpS_forRange (I:=fun x c st'=>st'=st/\c.1=none/\At κ a b c.2.2.2.1 c.2.1 c.2.2.1/\c.2.1+c.2.2.1+x=na+nb)
  (Q:=fun c st'=>st'=st/\((∃ z,c.1=some z/\Rs κ a b z)\/(c.1=none/\At κ a b c.2.2.2.1 c.2.1 c.2.2.1/\c.2.1+c.2.2.1 < na+nb))) ?_ ?_ ⟨rfl,rfl,m,rfl⟩) ?_)
 ·rintro x ⟨c0,i,j,o,ac,bc⟩ st' _ hx ⟨rfl,rfl,m',e⟩;dsimp only at m' e ⊢;refine wpS_mono (tG hL T F hk m') fun r st2 h2=>?_;obtain ⟨rfl,h2⟩:=h2
  cases r with
  | done c =>
   rcases h2 with h2 | ⟨h2,h3,h4⟩
   ·exact ⟨rfl,.inl h2⟩
   ·exact ⟨rfl,.inr ⟨h2,h3,by lia⟩⟩
  | yield c =>
   obtain ⟨h2,h3,h4⟩:=h2;exact ⟨rfl,h2,h3,by lia⟩
 ·rintro c st' ⟨rfl,h1,h2,h3⟩;exact ⟨rfl,.inr ⟨h1,h2,by lia⟩⟩
 ·rintro ⟨c0,i,j,o,ac,bc⟩ st' ⟨rfl,h⟩;dsimp only at h ⊢;rcases h with ⟨z,rfl,hz⟩ | ⟨rfl,m',bE⟩
  ·exact wpS_pure ⟨sg,z,rfl,hz⟩
  ·dsimp only;refine wpS_bind (wpS_lift (wpAny_rule ⟨rfl,?_⟩))
   refine wpS_bind (wpS_mono (wpS_forRange (I:=fun x c st2=>SG aT st2/\c.1=none/\At κ a b c.2.2.2.1 c.2.1 c.2.2.1/\c.2.1+c.2.2.1 < na+nb)
    (Q:=fun c st2=>SG aT st2/\((∃ z,c.1=some z/\Rs κ a b z)\/(c.1=none/\At κ a b c.2.2.2.1 c.2.1 c.2.2.1/\c.2.1+c.2.2.1 < na+nb))) ?_ ?_ ⟨sg,rfl,m',bE⟩) ?_)
   ·rintro x ⟨c0,i,j,o,g2,ac,bc⟩ st2 _ hx ⟨bg,rfl,m2,e2⟩;dsimp only at m2 e2 ⊢;have wc:kindOf st2=ks:=bg.kind.trans (sg.kind.symm.trans hk);have go:∀ g',wpS (model prog w) A E s (gl1 a b i j o g' ac bc) (G2 κ a b (na+nb) aT) st2:=fun g'=>tK hL T F wc bg m2 (by lia);unfold gal;split
    ·refine wpS_mono (go _) fun r gy h3=>?_;obtain ⟨h3,h4⟩:=h3
     cases r with
     | done c=>exact ⟨h3,h4⟩
     | yield c=>exact ⟨h3,h4⟩
    ·refine wpS_mono (go _) fun r gy h3=>?_;obtain ⟨h3,h4⟩:=h3
     cases r with
     | done c=>exact ⟨h3,h4⟩
     | yield c=>exact ⟨h3,h4⟩
   ·rintro c st2 ⟨h0,h1,h2,h3⟩;exact ⟨h0,.inr ⟨h1,h2,h3⟩⟩
   ·rintro ⟨c0,i,j,o,g2,ac,bc⟩ st2 ⟨bg,h⟩;dsimp only at h ⊢;rcases h with ⟨z,rfl,hz⟩ | ⟨rfl,m2,p9⟩
    ·exact wpS_pure ⟨bg,z,rfl,hz⟩
    ·dsimp only;refine wpS_bind (iw fun gy kU=>wpS_pure ⟨⟨kU.kind.trans bg.kind,kU.arr.trans bg.arr,kU.pend.trans bg.pend,kU.fail.trans bg.fail⟩,rfl,m2,p9⟩)
theorem hi_wp (hL:LtAll prog w A E s κ ks)(T:Two κ a b)(L:iy κ a b)(F:FirstB κ a b)(ha:0 < a.size)(hb:0 < b.size){st:SortSt}(hk:kindOf st=ks){Q:Array Keyed->SortSt->Prop}
  (h:∀ r st',SG st st'->Rs κ a b r->Q r st'):wpS (model prog w) A E s (jg a b) Q st:=by
 rw [FP];obtain ⟨x,x1,x2,x3,x4⟩:=gn T.ka (n:=a.size) ha (zA3 _);refine wpS_bind (wpS_lift (wpAny_rule ⟨rfl,?_⟩));refine wpS_bind (aX x1 ?_)
 have m0:Mh κ a b #[] a.size b.size:=by
  refine ⟨?_,List.Pairwise.nil,fun x hx=>absurd hx (by simp)⟩;rw [List.drop_of_length_le (by rw [zA9];exact zA3 _),List.drop_of_length_le (by rw [zA9];exact zA3 _)];exact List.Perm.nil
 have m:Mh κ a b #[x] (a.size - 1) b.size:=pushA (out:=#[]) T m0 ha (zA3 _) x4 fun y hy=>L y (List.mem_of_mem_take hy) x (by
  rw [<- zA9,zAm,zA9] at x4;rw [x4]
  exact List.mem_cons_self)
 by_cases e1:a.size - 1=0
 ·rw [if_pos (by simpa using e1)];exact wpS_pure (h _ st (SG.refl _) (e_a T m e1))
 ·rw [if_neg (by simpa using e1)];by_cases e2:b.size=1
  ·rw [if_pos (by simpa using e2)];exact wpS_pure (h _ st (SG.refl _) (e_f T F m e2))
  ·rw [if_neg (by simpa using e2)];refine wpS_bind (wpS_get ?_)
   refine wpS_bind (wpS_mono (wpS_forRange (I:=fun x c st'=>SG st st'/\c.1=none/\At κ a b c.2.2.2.1 c.2.1 c.2.2.1/\c.2.1+c.2.2.1+x < a.size+b.size)
    (Q:=fun c st'=>SG st st'/\∃ z,c.1=some z/\Rs κ a b z) ?_ ?_ ⟨SG.refl _,rfl,⟨m,by dsimp only;lia,by dsimp only;lia,by dsimp only;lia,Nat.le_refl _⟩,by dsimp only;lia⟩) ?_)
   ·rintro x ⟨c0,i,j,o,g⟩ st' _ hx ⟨sg,rfl,m',e⟩;dsimp only at m' e ⊢;refine wpS_mono (lG hL T F (sg.kind.trans hk) sg m') fun r st2 h2=>?_;obtain ⟨bg,h2⟩:=h2
    cases r with
    | done c=>exact ⟨bg,h2⟩
    | yield c =>
     obtain ⟨h2,h3,h4⟩:=h2;exact ⟨bg,h2,h3,by lia⟩
   ·rintro c st' ⟨sg,h1,m',e⟩;exact absurd e (by lia)
   ·rintro ⟨c0,i,j,o,g⟩ st' ⟨sg,z,e,hz⟩;dsimp only at e;rw [e];exact wpS_pure (h z st' sg hz)
end
end Hi
open PySem PyProof.Rows
def over (arr:Array Keyed)(n:Nat)(l:List Keyed):Array Keyed:=l.zipIdx.foldl (fun a p=>a.setIfInBounds (n+p.2) p.1) arr
theorem q9:∀ (l:List Keyed) (j n:Nat) (arr:Array Keyed),n+j+l.length<=arr.size ->
  (((l.zipIdx j).foldl (fun a p=>a.setIfInBounds (n+p.2) p.1) arr).size=arr.size/\∀ i,((l.zipIdx j).foldl (fun a p=>a.setIfInBounds (n+p.2) p.1) arr)[i]?=if n+j<=i/\i < n+j+l.length then l[i - (n+j)]? else arr[i]?)
 | [],j,n,arr,_=>by
  refine ⟨rfl,fun i=>?_⟩;rw [zAv (by rw [List.length_nil];lia)];rfl
 | p::l,j,n,arr,h=>by
  rw [zAe] at h;rw [List.zipIdx_cons,List.foldl_cons];obtain ⟨h1,h2⟩:=q9 l (j+1) n (arr.setIfInBounds (n+j) p) (by rw [Array.size_setIfInBounds];lia);refine ⟨by rw [h1,Array.size_setIfInBounds],fun i=>?_⟩;rw [h2 i,zAe,Array.getElem?_setIfInBounds];by_cases e:n+j=i
  ·subst e;rw [if_neg (by lia),if_pos rfl,if_pos (by lia),if_pos (by lia)];simp
  ·rw [zAv e];by_cases e2:n+(j+1)<=i/\i < n+(j+1)+l.length
   ·rw [zAw e2,zAw (by lia),show i - (n+j)=(i - (n+(j+1)))+1 by lia];rfl
   ·rw [zAv e2,zAv (by lia)]
theorem vY {arr:Array Keyed}{n:Nat}{l:List Keyed}(h:n+l.length<=arr.size):(over arr n l).toList=arr.toList.take n++l++arr.toList.drop (n+l.length):=by
 obtain ⟨h1,h2⟩:=q9 l 0 n arr (by lia);refine List.ext_getElem? fun i=>?_;rw [Array.getElem?_toList];show ((l.zipIdx 0).foldl (fun a p=>a.setIfInBounds (n+p.2) p.1) arr)[i]?=_;have hl:arr.toList.length=arr.size:=zA9;rw [h2 i,zAf,List.getElem?_append,zAd,hl,show min n arr.size=n by lia,List.getElem?_append];by_cases e1:i < n
 ·rw [zAv (by lia),zAw e1,List.getElem?_take,zAw e1,Array.getElem?_toList]
 ·rw [zAv e1];by_cases e2:i < n+l.length
  ·rw [zAw (by lia),zAw (by lia)];rfl
  ·rw [zAv (by lia),zAv (by lia),List.getElem?_drop,Array.getElem?_toList];congr 1;lia
theorem pw_of_seg {κ:PyProof.Rows.KeyKind}{arr:Array Keyed}(ka:KeysOf κ arr){lo hi:Nat}(hh:hi<=arr.size)(h:Seg κ arr lo hi):((arr.toList.take hi).drop lo).Pairwise (leK κ):=by
 rw [List.pairwise_iff_getElem];intro i j fw mS bE;rw [List.length_drop,zAd,zA9] at fw mS;rw [List.getElem_drop,List.getElem_drop,List.getElem_take,List.getElem_take]
 have cS:∀ k,(hk:k < arr.toList.length)->k < arr.size->key κ arr.toList[k]=KK κ arr k:=fun k hk cq=>by
  obtain ⟨p,p1,p2,p3,p4⟩:=item ka cq;rw [p3]
  have e:arr.toList[k]?=some p:=by
   rw [Array.getElem?_toList];exact p1
  rw [zA0 hk] at e;rw [zAl e]
 unfold leK;rw [cS _ _ (by lia),cS _ _ (by lia)];exact h _ _ (by lia) (by lia) (by lia)
theorem vZ {κ:PyProof.Rows.KeyKind}{arr:Array Keyed}(ka:KeysOf κ arr){lo hi:Nat}(hh:hi<=arr.size)(h:((arr.toList.take hi).drop lo).Pairwise (leK κ)):Seg κ arr lo hi:=by
 intro i j h1 h2 h3;by_cases e:i=j
 ·rw [e];exact KeyOrd.kle_refl _
 ·rw [List.pairwise_iff_getElem] at h
  have cS:∀ k,(hk:k < arr.toList.length)->k < arr.size->key κ arr.toList[k]=KK κ arr k:=fun k hk cq=>by
   obtain ⟨p,p1,p2,p3,p4⟩:=item ka cq;rw [p3]
   have e:arr.toList[k]?=some p:=by
    rw [Array.getElem?_toList];exact p1
   rw [zA0 hk] at e;rw [zAl e]
  have:=h (i - lo) (j - lo) (by rw [List.length_drop,zAd,zA9];lia) (by rw [List.length_drop,zAd,zA9];lia) (by lia);rw [List.getElem_drop,List.getElem_drop,List.getElem_take,List.getElem_take] at this;unfold leK at this;rw [cS _ _ (by lia),cS _ _ (by lia)] at this;rw [show lo+(i - lo)=i by lia,show lo+(j - lo)=j by lia] at this;exact this
theorem FW (i:Nat):mergeAt' i=(do
  let s <- get
  match (pendingOf s)[i]?,(pendingOf s)[i+1]? with
  | some p,some q=>do
   set (setPending s (((pendingOf s).setIfInBounds i (p.1,p.2.1+q.2.1,p.2.2)).eraseIdxIfInBounds (i+1)))
   let y <- elem' (arrOf s) q.1
   let r <- fD false y (arrOf s) p.1 p.2.1 0
   match r with
   | some k =>
    if (p.2.1 - k == 0)=true then pure true
    else do
     let x <- elem' (arrOf s) (p.1+k+(p.2.1 - k) - 1)
     let r <- fD true x (arrOf s) q.1 q.2.1 (q.2.1 - 1)
     match r with
     | some n =>
      if (n == 0)=true then pure true
      else do
       let m <- if p.2.1 - k<=n then jb ((arrOf s).extract (p.1+k) q.1) ((arrOf s).extract q.1 (q.1+n)) else jg ((arrOf s).extract (p.1+k) q.1) ((arrOf s).extract q.1 (q.1+n))
       modify fun s'=>setArr s' (over (arrOf s') (p.1+k) m.toList)
       let s' <- get
       pure (failedOf s').isNone
     | _=>pure false
   | _=>pure false
  | _,_=>liftM (unsupported "internal:list.sort.pending")):=by
 delta mergeAt'
 refine bc rfl (funext fun s=>?_);generalize e1:(pendingOf s)[i]?=o1;generalize e2:(pendingOf s)[i+1]?=o2
 cases o1 with
 | none=>cases o2 <;> rfl
 | some p =>
  obtain ⟨sa,na,pw⟩:=p
  cases o2 with
  | none=>rfl
  | some q =>
   obtain ⟨sb,nb,C5⟩:=q;refine bc rfl (funext fun u=>bc rfl (funext fun y=>bc rfl (funext fun r=>?_)))
   cases r with
   | none=>rfl
   | some k =>
    refine ic rfl (bc rfl (funext fun x=>bc rfl (funext fun r=>?_)))
    cases r with
    | none=>rfl
    | some n=>exact ic rfl (ic (bc rfl (funext fun m=>rfl)) (bc rfl (funext fun m=>rfl)))
theorem keys_perm {κ:PyProof.Rows.KeyKind}{ab xs:Array Keyed}(h0:KeysOf κ ab)(h:xs.Perm ab):KeysOf κ xs:=fun p hp=>h0 p ((Array.perm_iff_toList_perm.mp h).mem_iff.mp hp)
theorem rE {κ:PyProof.Rows.KeyKind}{xs:Array Keyed}(h0:KeysOf κ xs)(i j:Nat):KeysOf κ (xs.extract i j):=fun p hp=>by
 rw [fU] at hp;exact h0 p (List.mem_of_mem_drop (List.mem_of_mem_take hp))
section
variable {prog:Program}{w:World}{A:Around}{E:Value->Shared->Prop}{s:Shared}{κ:PyProof.Rows.KeyKind}{ks:SortKind}{ab:Array Keyed}
structure Mg (κ:PyProof.Rows.KeyKind)(ks:SortKind)(ab:Array Keyed)(st st':SortSt)(sa hi:Nat)(pend:Array (Nat×Nat×Nat)):Prop where
 base:SB ks ab st'
 out:∀ k,(k < sa\/hi<=k)->(arrOf st')[k]?=(arrOf st)[k]?
 seg:Seg κ (arrOf st') sa hi
 pend:pendingOf st'=pend
theorem xU {l:List Keyed}{i j k m:Nat}(h1:i<=j)(h2:j<=k)(h3:k<=m)(h4:m<=l.length):(l.take m).drop i=(l.take j).drop i++((l.take k).drop j++(l.take m).drop k):=by
 have c:∀ {x y z:Nat},x<=y->y<=z->z<=l.length->(l.take z).drop x=(l.take y).drop x++(l.take z).drop y:=fun {x y z} a b d=>by
  have:=Hi.cut_drop (l:=l.take z) (t:=x) (n:=y) a (by rw [zAd];lia);rw [List.take_take,show min y z=y by lia] at this;exact this.symm
 rw [c h1 (by lia) h4,c h2 h3 h4]
theorem FZ (hL:LtAll prog w A E s κ ks)(h0:KeysOf κ ab){st:SortSt}(B:SB ks ab st){i sa na pw nb C5:Nat}(e1:(pendingOf st)[i]?=some (sa,na,pw))(e2:(pendingOf st)[i+1]?=some (sa+na,nb,C5))
  (n1:1<=na) (n2:1<=nb) (hz:sa+na+nb<=ab.size) (s1:Seg κ (arrOf st) sa (sa+na)) (s2:Seg κ (arrOf st) (sa+na) (sa+na+nb)) {Q:Bool->SortSt->Prop}
  (h:∀ st',Mg κ ks ab st st' sa (sa+na+nb) (((pendingOf st).setIfInBounds i (sa,na+nb,pw)).eraseIdxIfInBounds (i+1))->Q true st'):wpS (model prog w) A E s (mergeAt' i) Q st:=by
 rw [FW];refine wpS_bind (wpS_get ?_);rw [e1,e2];dsimp only;have kA:KeysOf κ (arrOf st):=keys_perm h0 B.pm;have hsz:(arrOf st).size=ab.size:=B.size;have gc:(arrOf st).toList.length=ab.size:=by rw [zA9,hsz]
 obtain ⟨P,eP⟩:∃ P,P=((pendingOf st).setIfInBounds i (sa,na+nb,pw)).eraseIdxIfInBounds (i+1):=⟨_,rfl⟩
 rw [<- eP] at h ⊢
 have C6:∀ {R:PUnit->SortSt->Prop},R ⟨⟩ (setPending st P)->wpS (model prog w) A E s (set (setPending st P):Sm PUnit) R st:=fun hR=>by
  unfold wpS;rw [StateT.run_set];exact zAz ⟨rfl,hR⟩
 refine wpS_bind (C6 ?_)
 obtain ⟨fx,jv⟩:∃ fx,fx=setPending st P:=⟨_,rfl⟩
 have k1:kindOf fx=ks:=by rw [jv];exact B.kind
 have a1:arrOf fx=arrOf st:=by rw [jv]
 have p1:pendingOf fx=P:=by rw [jv]
 have f1:failedOf fx=none:=by rw [jv];exact B.ok
 rw [<- jv]
 have all:Seg κ (arrOf st) sa (sa+na+nb)->Mg κ ks ab st fx sa (sa+na+nb) P:=fun sg=>⟨⟨k1,f1,by rw [a1];exact B.pm⟩,fun k _=>by rw [a1],by rw [a1];exact sg,p1⟩
 obtain ⟨y,y1,y2,y3,y4⟩:=item kA (i:=sa+na) (by lia);refine wpS_bind (aX y1 ?_);refine wpS_bind (dB (κ:=κ) (kk:=key κ y) (hL fx k1) y2 (by lia) (fun j hj=>?_) (fun j j' Kq mS hb=>?_) fun k kn kt kf=>?_)
 ·obtain ⟨p,q1,q2,q3,_⟩:=item kA (i:=sa+j) (by lia);exact ⟨p,_,q1,q2,q3⟩
 ·have mono:=s1 (sa+j) (sa+j') (by lia) (by lia) (by lia);have hb:(!κ.blt (key κ y) (KK κ (arrOf st) (sa+j')))=true:=hb;show (!κ.blt (key κ y) (KK κ (arrOf st) (sa+j)))=true;rw [Bool.not_eq_true'] at hb ⊢;exact KeyOrd.kle_trans mono hb
 ·have C7:∀ j,sa<=j->j < sa+k->κ.kle (KK κ (arrOf st) j) (KK κ (arrOf st) (sa+na)):=fun j j1 j2=>by
   have:=kt (j - sa) (by lia);rw [show sa+(j - sa)=j by lia] at this;have this:(!κ.blt (key κ y) (KK κ (arrOf st) j))=true:=this;rw [Bool.not_eq_true'] at this;rw [y3];exact this
  have Kr:∀ j,sa+k<=j->j < sa+na->κ.kle (KK κ (arrOf st) (sa+na)) (KK κ (arrOf st) j):=fun j j1 j2=>by
   have:=kf (j - sa) (by lia) (by lia);rw [show sa+(j - sa)=j by lia] at this;have this:(!κ.blt (key κ y) (KK κ (arrOf st) j))=false:=this;rw [Bool.not_eq_false'] at this;rw [y3];exact KeyOrd.kle_of_klt this
  dsimp only;by_cases sC:na - k=0
  ·rw [if_pos (by simpa using sC)];refine wpS_pure (h fx (all fun u v hu wm hv=>?_));by_cases c1:v < sa+na
   ·exact s1 u v hu wm c1
   ·by_cases c2:u < sa+na
    ·exact KeyOrd.kle_trans (C7 u hu (by lia)) (s2 (sa+na) v (zA3 _) (by lia) hv)
    ·exact s2 u v (by lia) wm hv
  ·rw [if_neg (by simpa using sC)];rw [show sa+k+(na - k) - 1=sa+na - 1 by lia];obtain ⟨x,x1,x2,x3,x4⟩:=item kA (i:=sa+na - 1) (by lia);refine wpS_bind (aX x1 ?_);refine wpS_bind (dB (κ:=κ) (kk:=key κ x) (hL fx k1) x2 (by lia) (fun j hj=>?_) (fun j j' Kq mS hb=>?_) fun n nn nt nf=>?_)
   ·obtain ⟨p,q1,q2,q3,_⟩:=item kA (i:=sa+na+j) (by lia);exact ⟨p,_,q1,q2,q3⟩
   ·exact KeyOrd.klt_of_kle_of_klt (s2 (sa+na+j) (sa+na+j') (by lia) (by lia) (by lia)) hb
   ·have Ks:∀ j,sa+na<=j->j < sa+na+n->κ.kle (KK κ (arrOf st) j) (KK κ (arrOf st) (sa+na - 1)):=fun j j1 j2=>by
     have:=nt (j - (sa+na)) (by lia);rw [show sa+na+(j - (sa+na))=j by lia] at this;rw [x3];exact KeyOrd.kle_of_klt this
    have HV:∀ j,sa+na+n<=j->j < sa+na+nb->κ.kle (KK κ (arrOf st) (sa+na - 1)) (KK κ (arrOf st) j):=fun j j1 j2=>by
     have:=nf (j - (sa+na)) (by lia) (by lia);rw [show sa+na+(j - (sa+na))=j by lia] at this;rw [x3];exact this
    dsimp only;by_cases HZ:n=0
    ·rw [if_pos (by simpa using HZ)];refine wpS_pure (h fx (all fun u v hu wm hv=>?_));by_cases c1:v < sa+na
     ·exact s1 u v hu wm c1
     ·by_cases c2:u < sa+na
      ·exact KeyOrd.kle_trans (s1 u (sa+na - 1) hu (by lia) (by lia)) (HV v (by lia) hv)
      ·exact s2 u v (by lia) wm hv
    ·rw [if_neg (by simpa using HZ)]
     obtain ⟨X,eX⟩:∃ X,X=(arrOf st).extract (sa+k) (sa+na):=⟨_,rfl⟩
     obtain ⟨Y,eY⟩:∃ Y,Y=(arrOf st).extract (sa+na) (sa+na+n):=⟨_,rfl⟩
     rw [<- eX,<- eY];have lX:X.toList=((arrOf st).toList.take (sa+na)).drop (sa+k):=by rw [eX,Hi.ext_cut]
     have lY:Y.toList=((arrOf st).toList.take (sa+na+n)).drop (sa+na):=by rw [eY,Hi.ext_cut]
     have zX:X.size=na - k:=by rw [<- zA9,lX,List.length_drop,zAd,gc];lia
     have zY:Y.size=n:=by rw [<- zA9,lY,List.length_drop,zAd,gc];lia
     have pA:=pw_of_seg kA (by lia) s1;have pB:=pw_of_seg kA (by lia) s2;have eA:=xU (l:=(arrOf st).toList) (i:=sa) (j:=sa+k) (k:=sa+na) (m:=sa+na) (by lia) (by lia) (zA3 _) (by rw [gc];lia);have eB:=xU (l:=(arrOf st).toList) (i:=sa+na) (j:=sa+na+n) (k:=sa+na+nb) (m:=sa+na+nb) (by lia) (by lia) (zA3 _) (by rw [gc];lia);have C8:((arrOf st).toList.take (sa+na)).drop (sa+na)=[]:=List.drop_of_length_le (by rw [zAd];lia);have Dx:((arrOf st).toList.take (sa+na+nb)).drop (sa+na+nb)=[]:=List.drop_of_length_le (by rw [zAd];lia);rw [C8,zAn,<- lX] at eA;rw [Dx,zAn,<- lY] at eB
     obtain ⟨A1,DA⟩:∃ A1,A1=((arrOf st).toList.take (sa+k)).drop sa:=⟨_,rfl⟩
     obtain ⟨B2,DB⟩:∃ B2,B2=((arrOf st).toList.take (sa+na+nb)).drop (sa+na+n):=⟨_,rfl⟩
     rw [<- DA] at eA;rw [<- DB] at eB;rw [eA] at pA;rw [eB] at pB;obtain ⟨Kt,pX,Ku⟩:=List.pairwise_append.mp pA;obtain ⟨pY,Kv,Kw⟩:=List.pairwise_append.mp pB
     have Ia:∀ z∈X.toList,∃ j,sa+k<=j/\j < sa+na/\KK κ (arrOf st) j=key κ z:=fun z de=>by
      rw [lX] at de;obtain ⟨j,j1,j2,_,j4⟩:=Hi.take_key kA de;exact ⟨j,j1,j2,j4⟩
     have Ib:∀ z∈Y.toList,∃ j,sa+na<=j/\j < sa+na+n/\KK κ (arrOf st) j=key κ z:=fun z de=>by
      rw [lY] at de;obtain ⟨j,j1,j2,_,j4⟩:=Hi.take_key kA de;exact ⟨j,j1,j2,j4⟩
     have Kx:∀ z∈A1,∃ j,sa<=j/\j < sa+k/\KK κ (arrOf st) j=key κ z:=fun z de=>by
      rw [DA] at de;obtain ⟨j,j1,j2,_,j4⟩:=Hi.take_key kA de;exact ⟨j,j1,j2,j4⟩
     have Ic:∀ z∈B2,∃ j,sa+na+n<=j/\j < sa+na+nb/\KK κ (arrOf st) j=key κ z:=fun z de=>by
      rw [DB] at de;obtain ⟨j,j1,j2,_,j4⟩:=Hi.take_key kA de;exact ⟨j,j1,j2,j4⟩
     have TT:Two κ X Y:=⟨by rw [eX];exact rE kA _ _,by rw [eY];exact rE kA _ _,pX,pY⟩
     have LL:iy κ X Y:=fun z de v hv=>by
      obtain ⟨j,j1,j2,j3⟩:=Ib z de;obtain ⟨j',wo,wq,qa⟩:=lD TT.ka hv;have ej:j'=X.size - 1:=by lia
      have e:KK κ X j'=KK κ (arrOf st) (sa+na - 1):=by
       refine KK_congr ?_;rw [eX,Array.getElem?_extract,zAw (by lia)];congr 1;lia
      show κ.kle (key κ z) (key κ v);rw [<- j3,<- qa,e];exact Ks j j1 j2
     have F0:∀ v∈X.toList,∀ z,Y[0]?=some z->leK κ z v:=fun v hv z de=>by
      obtain ⟨j,j1,j2,j3⟩:=Ia v hv
      have ez:z=y:=by
       rw [eY,Array.getElem?_extract,zAw (by lia),Nat.add_zero,y1] at de;exact (zAl de).symm
      show κ.kle (key κ z) (key κ v);rw [ez,<- y3,<- j3];exact Kr j j1 j2
     have FB:Hi.FirstB κ X Y:=fun z de v hv=>by
      obtain ⟨j,j1,j2,j3⟩:=Hi.take_key0 TT.kb de;obtain ⟨q,q1,q2,q3,_⟩:=item TT.kb (i:=0) (by lia);have e0:j=0:=by lia
      rw [e0,q3] at j3;have:=F0 v hv q q1;unfold leK at this ⊢;rw [<- j3];exact this
     have fin:∀ m st2,SG fx st2->Rs κ X Y m->wpS (model prog w) A E s (do
       modify fun s'=>setArr s' (over (arrOf s') (sa+k) m.toList)
       let s' <- get
       pure (failedOf s').isNone) Q st2:=fun m st2 sg D=>by
      refine wpS_bind (wpS_modify (wpS_bind (wpS_get (wpS_pure ?_))))
      have ft:(failedOf (setArr st2 (over (arrOf st2) (sa+k) m.toList))).isNone=true:=by
       show (failedOf st2).isNone=true;rw [sg.fail,f1];rfl
      rw [ft];have am:arrOf st2=arrOf st:=sg.arr.trans a1
      have lm:m.toList.length=na - k+n:=by
       rw [D.pm.length_eq,zA2,zA9,zA9,zX,zY]
      have ol:(over (arrOf st) (sa+k) m.toList).toList=(arrOf st).toList.take (sa+k)++m.toList++(arrOf st).toList.drop (sa+na+n):=by
       rw [vY (by rw [lm,hsz];lia),lm,show sa+k+(na - k+n)=sa+na+n by lia]
      have wt:(over (arrOf st) (sa+k) m.toList).toList.Perm (arrOf st).toList:=by
       rw [ol]
       have e:(arrOf st).toList=(arrOf st).toList.take (sa+k)++(X.toList++Y.toList)++(arrOf st).toList.drop (sa+na+n):=by
        rw [lX,lY];have c1:=Hi.cut_drop (l:=(arrOf st).toList) (t:=sa+na) (n:=sa+na+n) (by lia) (by rw [gc];lia);have c2:=Hi.cut_drop (l:=(arrOf st).toList) (t:=sa+k) (n:=sa+na) (by lia) (by rw [gc];lia);rw [zAf,zAf,c1,c2,zBa]
       conv=>rhs;rw [e]
       exact List.Perm.append_right _ (List.Perm.append_left _ D.pm)
      have jI:(over (arrOf st) (sa+k) m.toList).Perm (arrOf st):=Array.perm_iff_toList_perm.mpr wt;have kO:KeysOf κ (over (arrOf st) (sa+k) m.toList):=keys_perm kA jI;have zO:(over (arrOf st) (sa+k) m.toList).size=ab.size:=jI.size_eq.trans hsz;have og:∀ j,(over (arrOf st) (sa+k) m.toList)[j]?=if sa+k+0<=j/\j < sa+k+0+m.toList.length then m.toList[j - (sa+k+0)]? else (arrOf st)[j]?:=(q9 m.toList 0 (sa+k) (arrOf st) (by rw [lm,hsz];lia)).2;refine h _ ⟨⟨sg.kind.trans k1,by show failedOf st2=none;rw [sg.fail,f1],?_⟩,fun j hj=>?_,?_,?_⟩
      ·show (over (arrOf st2) (sa+k) m.toList).Perm ab;rw [am];exact jI.trans B.pm
      ·show (over (arrOf st2) (sa+k) m.toList)[j]?=_;rw [am,og j,zAv (by rw [lm];lia)]
      ·show Seg κ (over (arrOf st2) (sa+k) m.toList) sa (sa+na+nb);rw [am];refine vZ kO (by rw [zO];exact hz) ?_
       have cut:((over (arrOf st) (sa+k) m.toList).toList.take (sa+na+nb)).drop sa=A1++(m.toList++B2):=by
        rw [ol,DA,DB];have tl:((arrOf st).toList.take (sa+k)).length=sa+k:=by rw [zAd,gc];lia
        rw [zAf,List.take_append,tl,List.take_of_length_le (l:=(arrOf st).toList.take (sa+k)) (by rw [tl];lia),List.take_append,lm,List.take_of_length_le (l:=m.toList) (by rw [lm];lia)];rw [List.drop_append_of_le_length (by rw [tl];lia)];congr 2;rw [List.drop_take];congr 1;lia
       rw [cut];refine List.pairwise_append.mpr ⟨Kt,List.pairwise_append.mpr ⟨D.sr,Kv,fun u hu v hv=>?_⟩,fun u hu v hv=>?_⟩
       ·rcases zA6.mp (D.pm.mem_iff.mp hu) with c | c
        ·obtain ⟨j,j1,j2,j3⟩:=Ia u c;obtain ⟨j',wo,wq,qa⟩:=Ic v hv;show κ.kle (key κ u) (key κ v);rw [<- j3,<- qa];exact KeyOrd.kle_trans (s1 j (sa+na - 1) (by lia) (by lia) (by lia)) (HV j' wo wq)
        ·exact Kw u c v hv
       ·obtain ⟨j,j1,j2,j3⟩:=Kx u hu;rcases zA6.mp hv with c | c
        ·rcases zA6.mp (D.pm.mem_iff.mp c) with c | c
         ·exact Ku u hu v c
         ·obtain ⟨j',wo,wq,qa⟩:=Ib v c;show κ.kle (key κ u) (key κ v);rw [<- j3,<- qa];exact KeyOrd.kle_trans (C7 j j1 j2) (s2 (sa+na) j' (zA3 _) wo (by lia))
        ·obtain ⟨j',wo,wq,qa⟩:=Ic v c;show κ.kle (key κ u) (key κ v);rw [<- j3,<- qa];exact KeyOrd.kle_trans (C7 j j1 j2) (s2 (sa+na) j' (zA3 _) (by lia) wq)
      ·show pendingOf st2=P;rw [sg.pend,p1]
     by_cases hc:na - k<=n
     ·rw [zAw hc];exact wpS_bind (FN hL TT LL (by lia) (by lia) F0 k1 fun m st2 sg D=>fin m st2 sg D)
     ·rw [zAv hc];exact wpS_bind (Hi.hi_wp hL TT LL FB (by lia) (by lia) k1 fun m st2 sg D=>fin m st2 sg D)
end
abbrev Run:=Nat×Nat×Nat
def Ch (κ:PyProof.Rows.KeyKind)(arr:Array Keyed):List Run->Nat->Nat->Prop
 | [],a,b=>a=b
 | r::l,a,b=>r.1=a/\1<=r.2.1/\Seg κ arr a (a+r.2.1)/\Ch κ arr l (a+r.2.1) b
theorem Ch.le {κ:PyProof.Rows.KeyKind}{arr:Array Keyed}:∀ {l:List Run} {a b:Nat},Ch κ arr l a b->a+l.length<=b
 | [],a,b,h=>by
  have h:a=b:=h;simp [h]
 | r::l,a,b,h=>by
  have:=Ch.le h.2.2.2;have:=h.2.1;rw [zAe];lia
theorem Ch.split {κ:PyProof.Rows.KeyKind}{arr:Array Keyed}:∀ {l1 l2:List Run} {a b:Nat},Ch κ arr (l1++l2) a b↔∃ m,Ch κ arr l1 a m/\Ch κ arr l2 m b
 | [],l2,a,b=>⟨fun h=>⟨a,rfl,h⟩,fun ⟨m,h1,h2⟩=>by
  have h1:a=m:=h1;rw [h1]
  exact h2⟩
 | r::l1,l2,a,b=>by
  constructor
  ·intro h;obtain ⟨m,h1,h2⟩:=Ch.split.mp h.2.2.2;exact ⟨m,⟨h.1,h.2.1,h.2.2.1,h1⟩,h2⟩
  ·rintro ⟨m,h1,h2⟩;exact ⟨h1.1,h1.2.1,h1.2.2.1,Ch.split.mpr ⟨m,h1.2.2.2,h2⟩⟩
theorem rF {κ:PyProof.Rows.KeyKind}{arr jS:Array Keyed}{a b:Nat}(h:Seg κ arr a b)(e:∀ k,a<=k->k < b->jS[k]?=arr[k]?):Seg κ jS a b:=fun i j h1 h2 h3=>by
 rw [KK_congr (e i h1 (by lia)),KK_congr (e j (by lia) h3)];exact h i j h1 h2 h3
theorem Ch.same {κ:PyProof.Rows.KeyKind}{arr jS:Array Keyed}:∀ {l:List Run} {a b:Nat},Ch κ arr l a b->(∀ k,a<=k->k < b->jS[k]?=arr[k]?)->Ch κ jS l a b
 | [],_,_,h,_=>h
 | r::l,a,b,h,e=>by
  have:=Ch.le h.2.2.2;exact ⟨h.1,h.2.1,rF h.2.2.1 fun k k1 k2=>e k k1 (by lia),h.2.2.2.same fun k k1 k2=>e k (by lia) k2⟩
theorem w5 {p:Array Run}{i:Nat}{v:Run}(h:i+1 < p.size):((p.setIfInBounds i v).eraseIdxIfInBounds (i+1)).toList=p.toList.take i++v::p.toList.drop (i+2):=by
 have hl:p.toList.length=p.size:=zA9
 have e1:(p.setIfInBounds i v).eraseIdxIfInBounds (i+1)=(p.setIfInBounds i v).eraseIdx (i+1) (by rw [Array.size_setIfInBounds];exact h):=by
  rw [Array.eraseIdxIfInBounds,dif_pos (by rw [Array.size_setIfInBounds];exact h)]
 rw [e1,Array.toList_eraseIdx,Array.toList_setIfInBounds,List.eraseIdx_eq_take_drop_succ,List.take_set,List.drop_set,zAw (by lia)]
 have e2:p.toList.take (i+1)=p.toList.take i++[p.toList[i]'(by lia)]:=by
  rw [zAj,zA0 (by lia)];rfl
 rw [e2,List.set_append_right _ _ (by rw [zAd];lia)];rw [zAd,show i - min i p.toList.length=0 by lia];simp
section
variable {prog:Program}{w:World}{A:Around}{E:Value->Shared->Prop}{s:Shared}{κ:PyProof.Rows.KeyKind}{ks:SortKind}{ab:Array Keyed}
structure St (κ:PyProof.Rows.KeyKind)(ks:SortKind)(ab:Array Keyed)(st:SortSt)(lo:Nat):Prop where
 base:SB ks ab st
 ch:Ch κ (arrOf st) (pendingOf st).toList 0 lo
 le:lo<=ab.size
theorem rG (hL:LtAll prog w A E s κ ks)(h0:KeysOf κ ab){st:SortSt}{lo i:Nat}(S:St κ ks ab st lo)(hi:i+1 < (pendingOf st).size){Q:Bool->SortSt->Prop}
  (h:∀ st',St κ ks ab st' lo->(pendingOf st').size+1=(pendingOf st).size->(∀ k,lo<=k->(arrOf st')[k]?=(arrOf st)[k]?)->Q true st'):wpS (model prog w) A E s (mergeAt' i) Q st:=by
 have hl:(pendingOf st).toList.length=(pendingOf st).size:=zA9;have d1:(pendingOf st).toList.drop i=(pendingOf st).toList[i]'(by lia)::(pendingOf st).toList.drop (i+1):=List.drop_eq_getElem_cons (by lia);have d2:(pendingOf st).toList.drop (i+1)=(pendingOf st).toList[i+1]'(by lia)::(pendingOf st).toList.drop (i+2):=List.drop_eq_getElem_cons (by lia);have g1:(pendingOf st)[i]?=some ((pendingOf st).toList[i]'(by lia)):=by rw [<- Array.getElem?_toList,zA0 (by lia)]
 have g2:(pendingOf st)[i+1]?=some ((pendingOf st).toList[i+1]'(by lia)):=by rw [<- Array.getElem?_toList,zA0 (by lia)]
 obtain ⟨⟨sa,na,pw⟩,ep⟩:∃ r,r=(pendingOf st).toList[i]'(by lia):=⟨_,rfl⟩
 obtain ⟨⟨sb,nb,C5⟩,eq⟩:∃ r,r=(pendingOf st).toList[i+1]'(by lia):=⟨_,rfl⟩
 rw [<- ep] at d1 g1;rw [<- eq] at d2 g2;have c:=S.ch;rw [<- List.take_append_drop i (pendingOf st).toList,d1,d2] at c;obtain ⟨m,c1,c2⟩:=Ch.split.mp c;obtain ⟨q1,q2,q3,q4,q5,q6,q7⟩:=c2;dsimp only at q1 q2 q3 q4 q5 q6 q7;subst q1;subst q4;have lb:=Ch.le q7;have lm:=Ch.le c1;refine FZ hL h0 S.base g1 g2 q2 q5 (by have:=S.le;lia) q3 q6 fun st' M=>?_;have pl:(pendingOf st').toList=(pendingOf st).toList.take i++(sa,na+nb,pw)::(pendingOf st).toList.drop (i+2):=by rw [M.pend,w5 hi]
 refine h st' ⟨M.base,?_,S.le⟩ ?_ fun k hk=>M.out k (.inr (by lia))
 ·rw [pl];refine Ch.split.mpr ⟨sa,c1.same fun k _ k2=>M.out k (.inl k2),rfl,by dsimp only;lia,?_,?_⟩
  ·dsimp only;rw [<- Nat.add_assoc];exact M.seg
  ·dsimp only;rw [<- Nat.add_assoc];exact q7.same fun k k1 _=>M.out k (.inr k1)
 ·rw [<- zA9,pl,zA2,zAe,zAd,List.length_drop];lia
def rest (z lo n:Nat):Sm (ForInStep (Option Unit×Nat)):=do
 let s <- get
 match (pendingOf s).back? with
 | some (s1,n1,_)=>do
  let c <- forIn [0:z] ((none,()):Option Unit×Unit) fun _ _=>do
    let s <- get
    match (if (pendingOf s).size > 1 then (pendingOf s)[(pendingOf s).size - 2]? else none) with
    | some (_,_,mT) =>
     if mT<=power' z (2 * s1+n1) (2 * s1+n1+n1+n) z then pure (ForInStep.done (none,()))
     else do
      let b <- mergeAt' ((pendingOf s).size - 2)
      if (!b)=true then pure (ForInStep.done (some (),())) else pure (ForInStep.yield (none,()))
    | _=>pure (ForInStep.done (none,()))
  match c.1 with
  | some r=>pure (ForInStep.done (some r,lo))
  | none=>do
   modify fun s=>setPending s ((pendingOf s).modify ((pendingOf s).size - 1) fun x=>(x.1,x.2.1,power' z (2 * s1+n1) (2 * s1+n1+n1+n) z))
   modify fun s=>setPending s ((pendingOf s).push (lo,n,0))
   pure (ForInStep.yield (none,lo+n))
 | _=>do
  modify fun s=>setPending s ((pendingOf s).push (lo,n,0))
  pure (ForInStep.yield (none,lo+n))
theorem Ch.pw {κ:PyProof.Rows.KeyKind}{arr:Array Keyed}(f:Run->Run)(hf:∀ r,(f r).1=r.1/\(f r).2.1=r.2.1):∀ {l:List Run} {a b i:Nat},Ch κ arr l a b->Ch κ arr (l.modify i f) a b
 | [],a,b,i,h=>by
  cases i <;> exact h
 | r::l,a,b,0,h=>by
  obtain ⟨e1,e2⟩:=hf r;refine ⟨e1.trans h.1,by rw [e2];exact h.2.1,by rw [e2];exact h.2.2.1,?_⟩;rw [e2];exact h.2.2.2
 | r::l,a,b,i+1,h=>⟨h.1,h.2.1,h.2.2.1,Ch.pw f hf h.2.2.2⟩
theorem St.push {st:SortSt}{lo n:Nat}(S:St κ ks ab st lo)(n1:1<=n)(hn:lo+n<=ab.size)(sg:Seg κ (arrOf st) lo (lo+n)):St κ ks ab (setPending st ((pendingOf st).push (lo,n,0))) (lo+n):=by
 refine ⟨⟨S.base.kind,S.base.ok,S.base.pm⟩,?_,hn⟩;show Ch κ (arrOf st) ((pendingOf st).push (lo,n,0)).toList 0 (lo+n);rw [Array.toList_push];exact Ch.split.mpr ⟨lo,S.ch,rfl,n1,sg,rfl⟩
theorem St.pw {st:SortSt}{lo i:Nat}(S:St κ ks ab st lo)(f:Run->Run)(hf:∀ r,(f r).1=r.1/\(f r).2.1=r.2.1):St κ ks ab (setPending st ((pendingOf st).modify i f)) lo:=by
 refine ⟨⟨S.base.kind,S.base.ok,S.base.pm⟩,?_,S.le⟩;show Ch κ (arrOf st) ((pendingOf st).modify i f).toList 0 lo;rw [Array.toList_modify];exact S.ch.pw f hf
theorem uK (hL:LtAll prog w A E s κ ks)(h0:KeysOf κ ab){st:SortSt}{lo n x:Nat}(S:St κ ks ab st lo)(n1:1<=n)(hn:lo+n<=ab.size)(sg:Seg κ (arrOf st) lo (lo+n))(hx:x<=lo){Q:ForInStep (Option Unit×Nat)->SortSt->Prop}
  (h:∀ st',St κ ks ab st' (lo+n)->Q (.yield (none,lo+n)) st'):wpS (model prog w) A E s (rest ab.size lo n) Q st:=by
 unfold rest;refine wpS_bind (wpS_get ?_)
 cases (pendingOf st).back? with
 | none=>exact wpS_bind (wpS_modify (wpS_pure (h _ (S.push n1 hn sg))))
 | some q =>
  obtain ⟨s1,DC,p1⟩:=q;dsimp only;refine wpS_bind (wpS_mono (wpS_forRange (I:=fun _ c st'=>c=(none,())/\St κ ks ab st' lo/\Seg κ (arrOf st') lo (lo+n)) (Q:=fun c st'=>c=(none,())/\St κ ks ab st' lo/\Seg κ (arrOf st') lo (lo+n)) ?_ (fun _ _ z=>z) ⟨rfl,S,sg⟩) ?_)
  ·rintro y c st' _ _ ⟨rfl,S',fy⟩;refine wpS_bind (wpS_get ?_);by_cases h1:(pendingOf st').size > 1
   ·rw [zAw h1];have hl:(pendingOf st').size - 2 < (pendingOf st').size:=by lia
    rw [Array.getElem?_eq_getElem hl]
    obtain ⟨⟨a1,a2,mT⟩,eo⟩:∃ r,r=(pendingOf st')[(pendingOf st').size - 2]:=⟨_,rfl⟩
    rw [<- eo];dsimp only;split
    ·exact wpS_pure ⟨rfl,S',fy⟩
    ·refine wpS_bind (rG hL h0 S' (by lia) fun st2 S2 _ o2=>?_);rw [zAv (by decide)];exact wpS_pure ⟨rfl,S2,rF fy fun k k1 _=>o2 k k1⟩
   ·rw [zAv h1];exact wpS_pure ⟨rfl,S',fy⟩
  ·rintro c st' ⟨rfl,S',fy⟩;dsimp only;refine wpS_bind (wpS_modify (wpS_bind (wpS_modify (wpS_pure (h _ ?_)))));exact (S'.pw (fun x=>(x.1,x.2.1,power' ab.size (2 * s1+DC) (2 * s1+DC+DC+n) ab.size)) fun _=>⟨rfl,rfl⟩).push n1 hn fy
theorem ifl (c:Prop)[Decidable c](n:Nat):(if c then n - 1 else n)<=n:=by split <;> lia
theorem runs_wp (hL:LtAll prog w A E s κ ks)(h0:KeysOf κ ab){st:SortSt}(B:SB ks ab st)(hp:pendingOf st=#[]){Q:Unit->SortSt->Prop}
  (h:∀ st',SB ks ab st'->Seg κ (arrOf st') 0 ab.size->Q () st'):wpS (model prog w) A E s sortRuns' Q st:=by
 rw [sortRuns'_eq];refine wpS_bind (wpS_get ?_);dsimp only;rw [B.size];generalize minRun' ab.size ab.size 0=mr;refine wpS_bind (wpS_mono (wpS_forRange (I:=fun x c st'=>c.1=none/\St κ ks ab st' c.2/\x<=c.2) (Q:=fun c st'=>c.1=none/\St κ ks ab st' ab.size) ?_ ?_ ⟨rfl,⟨B,by rw [hp];rfl,zAp _⟩,zA3 _⟩) ?_)
 ·rintro x ⟨c0,lo⟩ st' _ hx ⟨rfl,S,dP⟩;dsimp only at S dP ⊢;by_cases pV:lo ≥ ab.size
  ·rw [zAw pV]
   have e:lo=ab.size:=by
    have:=S.le;lia
   refine wpS_pure ⟨rfl,?_⟩;rw [<- e];exact S
  ·rw [if_neg pV];refine wpS_bind (xR hL h0 (by lia) (by lia) S.base fun n fx B1 O1 n1 n2 Ie=>?_);dsimp only
   have S1:St κ ks ab fx lo:=⟨B1,by rw [O1.pend];exact S.ch.same fun k _ k2=>O1.out k (.inl k2),S.le⟩
   have tr:∀ {m m':Sm (ForInStep (Option Unit×Nat))} {R:ForInStep (Option Unit×Nat)->SortSt->Prop} {st2:SortSt},m=m'->wpS (model prog w) A E s m' R st2->wpS (model prog w) A E s m R st2:=fun e h=>e ▸ h;by_cases hm:n < mr
   ·rw [if_pos hm];refine wpS_bind (wpS_lift (wpAny_rule ⟨rfl,?_⟩));refine wpS_bind (DP hL h0 (by lia) (by lia) B1 Ie fun st2 B2 O2 bg=>?_);rw [if_neg (by decide)];refine tr ?_ (uK hL h0 ⟨B2,by rw [O2.pend];exact S1.ch.same fun k _ k2=>O2.out k (.inl k2),S.le⟩ (by lia) (by lia) bg dP fun gy S3=>⟨rfl,S3,by dsimp only;lia⟩)
    ·skip
     unfold rest;refine bc rfl (funext fun s=>?_)
     cases (pendingOf s).back? with
     | none=>rfl
     | some q =>
      obtain ⟨s1,n1,p⟩:=q;refine bc (fi (funext fun x=>funext fun c=>bc rfl (funext fun s=>?_))) (funext fun c=>?_)
      ·generalize (if (pendingOf s).size > 1 then (pendingOf s)[(pendingOf s).size - 2]? else none)=o
       cases o with
       | none=>rfl
       | some r =>
        obtain ⟨r1,r2,r3⟩:=r;exact ic rfl (bc rfl (funext fun b=>rfl))
      ·obtain ⟨r,u⟩:=c;cases r <;> rfl
   ·rw [if_neg hm];refine tr ?_ (uK hL h0 S1 n1 (by lia) Ie dP fun gy S3=>⟨rfl,S3,by dsimp only;lia⟩)
    ·skip
     unfold rest;refine bc rfl (funext fun s=>?_)
     cases (pendingOf s).back? with
     | none=>rfl
     | some q =>
      obtain ⟨s1,n1,p⟩:=q;refine bc (fi (funext fun x=>funext fun c=>bc rfl (funext fun s=>?_))) (funext fun c=>?_)
      ·generalize (if (pendingOf s).size > 1 then (pendingOf s)[(pendingOf s).size - 2]? else none)=o
       cases o with
       | none=>rfl
       | some r =>
        obtain ⟨r1,r2,r3⟩:=r;exact ic rfl (bc rfl (funext fun b=>rfl))
      ·obtain ⟨r,u⟩:=c;cases r <;> rfl
 ·rintro ⟨c0,lo⟩ st' ⟨h1,S,h2⟩;dsimp only at h1 S h2 ⊢
  have e:lo=ab.size:=by
   have:=S.le;lia
  rw [<- e];exact ⟨h1,S⟩
 ·rintro ⟨c0,lo⟩ st' ⟨h1,S⟩;dsimp only at h1;subst h1;dsimp only
  have one:∀ {st':SortSt},St κ ks ab st' ab.size->(pendingOf st').size<=1->Seg κ (arrOf st') 0 ab.size:=fun {st'} S hs=>by
   have c:=S.ch;rw [<- zA9] at hs
   cases e:(pendingOf st').toList with
   | nil =>
    rw [e] at c;have c:0=ab.size:=c;intro i j _ _ h3;lia
   | cons r l =>
    rw [e] at c hs
    have l0:l=[]:=by
     cases l with
     | nil=>rfl
     | cons _ _=>rw [zAe,zAe] at hs;lia
    rw [l0] at c;obtain ⟨_,_,sg,c4⟩:=c;have c4:0+r.2.1=ab.size:=c4;rw [c4] at sg;exact sg
  have p0:(pendingOf st').size<=ab.size:=by
   have:=Ch.le S.ch;rw [zA9] at this;lia
  refine wpS_bind (wpS_mono (wpS_forRange (I:=fun x c st2=>c=(none,())/\St κ ks ab st2 ab.size/\(pendingOf st2).size+x<=ab.size) (Q:=fun c st2=>c=(none,())/\St κ ks ab st2 ab.size/\(pendingOf st2).size<=1) ?_ ?_ ⟨rfl,S,by lia⟩) ?_)
  ·rintro x c st2 _ hx ⟨rfl,S2,mM⟩;refine wpS_bind (wpS_get ?_);by_cases h1:(pendingOf st2).size<=1
   ·rw [zAw h1];exact wpS_pure ⟨rfl,S2,h1⟩
   ·rw [zAv h1];have hz:2<=(pendingOf st2).size:=by lia
    refine wpS_bind (rG hL h0 S2 (Nat.lt_of_le_of_lt (Nat.succ_le_succ (ifl _ _)) (show (pendingOf st2).size - 2+1 < (pendingOf st2).size by lia)) fun gy S3 z3 _=>?_);rw [zAv (by decide)];exact wpS_pure ⟨rfl,S3,by lia⟩
  ·rintro c st2 ⟨rfl,S2,mM⟩;exact ⟨rfl,S2,by lia⟩
  ·rintro c st2 ⟨rfl,S2,mM⟩;exact wpS_pure (h st2 S2.base (one S2 mM))
end
end Srt
namespace L2
open PySem PySem.Spec PyProof.Rows PySem.Calls
theorem qb:∀ a:List Int,HT.lexLt a a=false
 | []=>rfl
 | x::xs=>by
  rw [HT.lexLt_cons,zAw rfl];exact qb xs
theorem jR:∀ a b:List Int,HT.lexLt a b=false->HT.lexLt b a=false->a=b
 | [],[],_,_=>rfl
 | [],_::_,h,_=>by cases h
 | _::_,[],_,h=>by cases h
 | x::xs,y::ys,h1,h2=>by
  rw [HT.lexLt_cons] at h1 h2;by_cases e:x=y
  ·subst e;rw [zAw rfl] at h1 h2;rw [jR xs ys h1 h2]
  ·rw [zAv e] at h1;rw [zAv (Ne.symm e)] at h2;have h1:=of_decide_eq_false h1;have h2:=of_decide_eq_false h2;lia
theorem qd:∀ a b c:List Int,HT.lexLt a b=true->HT.lexLt b c=true->HT.lexLt a c=true
 | [],[],_,h,_=>by cases h
 | [],_::_,[],_,h=>by cases h
 | [],_::_,_::_,_,_=>rfl
 | _::_,[],_,h,_=>by cases h
 | _::_,_::_,[],_,h=>by cases h
 | x::xs,y::ys,z::zs,h1,h2=>by
  rw [HT.lexLt_cons] at h1 h2 ⊢;by_cases e1:x=y
  ·subst e1;rw [zAw rfl] at h1;by_cases e2:x=z
   ·subst e2;rw [zAw rfl] at h2 ⊢;exact qd xs ys zs h1 h2
   ·rw [zAv e2] at h2 ⊢;exact h2
  ·rw [zAv e1] at h1;have h1:=zB3 h1;by_cases e2:y=z
   ·subst e2;rw [zAv e1];exact zAt h1
   ·rw [zAv e2] at h2;have h2:=zB3 h2;rw [zAv (by lia)];exact zAt (by lia)
theorem uL (a b c:List Int)(h:HT.lexLt a c=true):HT.lexLt a b=true\/HT.lexLt b c=true:=by
 cases e1:HT.lexLt a b with
 | true=>exact .inl rfl
 | false =>
  cases e2:HT.lexLt b a with
  | true=>exact .inr (qd b a c e2 h)
  | false=>exact .inr (by rw [<- jR a b e1 e2];exact h)
def Ao (ads:List Addr)(row:Addr->List Int):PyProof.Rows.KeyKind where
 α:=List Int
 blt:=HT.lexLt
 irrefl:=qb
 trans:=qd
 negTrans:=uL
 total:=jR
 keyOf:=fun u=>match u with
  | .ref a=>if ads.contains a=true then some (row a) else none
  | _=>none
 dflt:=[]
section
open PySem.W
variable {prog:Program}{w:World}{A:Around}{E:Value->Shared->Prop}{s:Shared}
theorem xV {Q:Bool->Shared->Prop}:∀ {ns ms:List Int} {us vs:List Value} {i:Nat},Vals (ns.map V.int) us->Vals (ms.map V.int) vs->Q (HT.lexLt ns ms) s->KatLex prog w A true (decide (ns.length < ms.length)) Q (us.zip vs) i s
 | [],[],_,_,_,.nil,.nil,h=>h
 | [],_::_,_,_,_,.nil,.cons _ _,h=>by
  refine kat_nil ?_;rw [decide_eq_true (by simp)];exact h
 | _::_,[],_,_,_,.cons _ _,.nil,h=>by
  refine kat_nil ?_;rw [decide_eq_false (by simp)];exact h
 | x::ns,y::ms,_,_,i,.cons r1 t1,.cons r2 t2,h=>by
  obtain ⟨k1,rfl⟩:=r1;obtain ⟨k2,rfl⟩:=r2;rw [HT.lexLt_cons] at h;refine kat_cons (wpAny_eqBool_int ?_);by_cases e:x=y
  ·subst e;rw [zAw rfl] at h;rw [show (x == x)=true from beq_self_eq_true x];refine kat_yes ?_;have:=xV (i:=i+1) t1 t2 h;rw [show decide ((x::ns).length < (x::ms).length)=decide (ns.length < ms.length) by rw [zAe,zAe];exact decide_eq_decide.mpr (by lia)];exact this
  ·rw [zAv e] at h;rw [show (x == y)=false from beq_false_of_ne e];refine kat_no ?_
   cases hi:(true && i == 0) with
   | true=>exact oneLt_int h
   | false=>exact kat_one _ _ (lt_int h)
theorem Aq {x y:Addr}{ox oy:Obj}{nx ny:Nat}{ns ms:List Int}{us vs:List Value}{Q:Bool->Shared->Prop}(hx:s.heap.get? x=some ox)(dx:ox.data=.seq us.toArray nx)(hy:s.heap.get? y=some oy)(dy:oy.data=.seq vs.toArray ny)
  (r1:Vals (ns.map V.int) us) (r2:Vals (ms.map V.int) vs) (h:Q (HT.lexLt ns ms) s):wpAny (model prog w) A (keyLt' (tuples' true) (.ref x) (.ref y)) Q E s:=by
 refine kat_lt hx dx hy dy ?_;have l1:=r1.length;have l2:=r2.length;rw [zA1] at l1 l2;have:=xV (prog:=prog) (w:=w) (A:=A) (s:=s) (Q:=Q) (i:=0) r1 r2 h;rw [zA8,zA8,<- l1,<- l2];exact this
theorem Ar {l:Addr}{vs:List Value}{Q:Value->Shared->Prop}{R:List Value->Prop}(lst:s.heap.IsList l vs.toArray)(fits:vs.length<=sizeLine)(small:vs.length < 2->R vs)
  (big:2<=vs.length->∀ g,(∀ b o,s.heap.get? b=some o->g.get? b=some o)->wpAny (model prog w) A.in1.in1 (keyKind' vs.toArray) (fun κ s1=>s1={ s with heap:=g } /\
    wpS (model prog w) A.in1.in1 (fun _ _=>False) { s with heap:=g } sortRuns' (fun _ st=>failedOf st=none/\∃ out,(arrOf st).map (·.2)=List.toArray out/\R out) (SortSt.mk' κ (vs.toArray.zip vs.toArray) #[] 7 none)) (fun _ _=>False) { s with heap:=g })
  (len:∀ out,R out->out.length=vs.length)
  (fin:∀ out,R out->∀ h2 c,(∀ b o,s.heap.get? b=some o->h2.get? b=some o)->h2.get? (s.heap.objs.size+1)=some (seqObj "list" out.toArray c)->Q (.ref (s.heap.objs.size+1)) { s with heap:=h2 }) :
  wpAny (model prog w) A (call (.builtin "sorted") [.ref l]) Q E s:=by
 refine call_function_entry kind_sorted plain_sorted entry_sorted (args_sorted1 _) ?_;unfold Builtin.«sorted»;refine zAu (m:=checkCount "sorted" 1 1 _) (zAz (zAu (collect_list lst ?_ fits)));refine zAu (wpAny_newList ?_ fits);have kc:((s.heap.push (seqObj "list" #[] 0)).update s.heap.objs.size (Obj.mapSeq (·++vs.toArray))).objs.size=s.heap.objs.size+1:=by rw [Heap.size_update,Heap.size_push]
 obtain ⟨g1,wx⟩:∃ g1,g1=((s.heap.push (seqObj "list" #[] 0)).update s.heap.objs.size (Obj.mapSeq (·++vs.toArray))).push (seqObj "list" vs.toArray 0):=⟨_,rfl⟩
 have w9:g1.get? (s.heap.objs.size+1)=some (seqObj "list" vs.toArray 0):=by rw [wx,<- kc];exact zB1 _ rfl
 have Ky:∀ b o,s.heap.get? b=some o->g1.get? b=some o:=fun b o q=>by
  have lt:b < s.heap.objs.size:=zB0 q;rw [wx,Heap.get?_push_ne _ _ _ (by rw [kc];exact zB8 (Nat.lt_succ_of_lt lt)),Heap.get?_update_ne _ _ _ _ (zB8 lt),Heap.get?_push_ne _ _ _ (zB8 lt)];exact q
 show wpAny _ _ _ _ _ { s with heap:=_ };rw [kc,show ((s.heap.push (seqObj "list" #[] 0)).update s.heap.objs.size (Obj.mapSeq (·++vs.toArray))).push (seqObj "list" vs.toArray 0)=g1 from wx.symm];refine zAu (wpAny_holding (wpAny_call_entry slot_list_sort ⟨_,w9,rfl⟩ entry_list_sort ?body (args_list_sort _)))
 obtain ⟨D,eD⟩:∃ D,D=s.heap.objs.size+1:=⟨_,rfl⟩
 rw [<- eD] at w9 fin ⊢
 have apart:∀ b o,s.heap.get? b=some o->b≠D:=fun b o q e=>by
  have lt:b < s.heap.objs.size:=zB0 q;rw [e,eD] at lt;exact absurd lt (Nat.not_lt_of_le (Nat.le_succ _))
 obtain ⟨g2,DD⟩:∃ g2,g2=g1.update D (Obj.mapSeq fun _=>(#[]:Array Value)):=⟨_,rfl⟩
 have Kz:Heap.SameBut D g1 g2:=DD ▸ Heap.SameBut.update g1 D _
 obtain ⟨e1,at2⟩:∃ e1,g2.get? D=some (seqObj "list" #[] e1):=⟨_,DD ▸ get?_update_seq w9 fun _=>#[]⟩
 obtain ⟨g3,DE⟩:∃ g3,g3=(g2.push (seqObj "tuple" vs.toArray 0)).push (seqObj "list" #[] 0):=⟨_,rfl⟩
 have sN:g3.get? D=some (seqObj "list" #[] e1):=DE ▸ Heap.get?_push_of_some _ (Heap.get?_push_of_some _ at2);have DF:∀ b o,s.heap.get? b=some o->g3.get? b=some o:=fun b o q=>DE ▸ Heap.get?_push_of_some _ (Heap.get?_push_of_some _ ((Kz.2 b (apart b o q)).trans (Ky b o q)));rw [list_sort_plain];refine wpAny_bind (listItems_at w9 rfl (wpAny_bind (listUpdate_at w9 rfl ?_ (by rw [zA8];exact fits) (zAp _))));rw [<- DD];refine wpAny_bind (seqEpoch_at at2 rfl (wpAny_bind (wpAny_newTuple (wpAny_bind (wpAny_newList (wpAny_holding ?_) (zAp _))) fits)));show wpAny (model prog w) A.in1.in1 _ _ _ { s with heap:=(g2.push (seqObj "tuple" vs.toArray 0)).push (seqObj "list" #[] 0) };rw [<- DE];dsimp only;by_cases two:vs.toArray.size < 2
 ·have qf:vs.length < 2:=by rw [zA8] at two;exact two
  rw [if_pos two,if_pos two];refine wpAny_bind (wpAny_pure ?_);show wpAny _ _ (do let r <- (pure ((),SortSt.mk' general' (vs.toArray.zip vs.toArray) #[] 7 none):Sem (Unit×SortSt));_) _ _ _;refine wpAny_bind (wpAny_pure ?_);dsimp only
  have em:(vs.toArray.zip vs.toArray).map (·.2)=vs.toArray:=by
   apply Array.toList_inj.mp;simp only [Array.toList_map,Array.toList_zip];exact List.map_snd_zip (zA3 _)
  rw [em];refine wpAny_bind (seqEpoch_at sN rfl (wpAny_bind (listUpdate_at sN rfl ?_ (zAp _) (by rw [zA8];lia))));simp only [bne_self_eq_false,Bool.false_eq_true,if_false];have DH:=Heap.SameBut.update g3 D (Obj.mapSeq fun _=>vs.toArray);exact wpAny_pure ⟨_,rfl,wpAny_pure ⟨_,rfl,fin vs (small qf) _ _ (fun b o z=>(DH.2 b (apart b o z)).trans (DF b o z)) (get?_update_seq sN _)⟩⟩
 ·have qf:2<=vs.length:=by rw [zA8] at two;lia
  rw [if_neg two,if_neg two];refine wpAny_bind (wpAny_mono (big qf g3 DF) (fun κ s1 ⟨jv,run⟩=>?_) fun _ _ x=>x.elim);subst jv;refine wpAny_bind (wpAny_mono run ?_ fun _ _ x=>x.elim);rintro ⟨⟨⟩,st⟩ s2 ⟨KA,Ig,out,xb,hR⟩;subst KA;dsimp only at Ig xb ⊢;rw [xb];refine wpAny_bind (seqEpoch_at sN rfl (wpAny_bind (listUpdate_at sN rfl ?_ (zAp _) (by rw [zA8,len out hR];lia))));rw [Ig];simp only [bne_self_eq_false,Bool.false_eq_true,if_false];have DH:=Heap.SameBut.update g3 D (Obj.mapSeq fun _=>out.toArray);exact wpAny_pure ⟨_,rfl,wpAny_pure ⟨_,rfl,fin out hR _ _ (fun b o z=>(DH.2 b (apart b o z)).trans (DF b o z)) (get?_update_seq sN _)⟩⟩
theorem lH {g:Heap}{ads:List Addr}{row:Addr->List Int}:∀ {l:List Addr},(∀ a∈l,∃ (us:List Value) (o:Obj) (n:Nat),g.get? a=some o/\o.cls=.type "tuple" /\ o.data=.seq us.toArray n/\Vals ((row a).map V.int) us/\row a≠[])->∃ fs,KatTups g (l.map Value.ref) fs/\fs.length=l.length/\∀ v∈fs,∃ i t,v=.int i t
 | [],_=>⟨[],.nil,rfl,fun _ h=>absurd h (by simp)⟩
 | a::l,h=>by
  obtain ⟨us,o,n,h1,h2,h3,h4,h5⟩:=h a (.head _);obtain ⟨fs,k,hl,hi⟩:=lH (ads:=ads) (row:=row) (l:=l) fun b hb=>h b (.tail _ hb)
  cases er:row a with
  | nil=>exact absurd er h5
  | cons i r =>
   rw [er] at h4
   cases h4 with
   | cons r1 t1 =>
    obtain ⟨t,rfl⟩:=r1;refine ⟨_,.cons h1 h2 h3 (f:=.int i t) (by simp) k,by rw [List.length_cons,List.length_cons,hl],fun v hv=>?_⟩;rcases zAo.mp hv with z | z
    ·exact ⟨i,t,z⟩
    ·exact hi v z
theorem Av {l:List Addr}{row:Addr->List Int}{Q:SortKind->Shared->Prop}(obj:∀ a∈l,∃ (us:List Value) (o:Obj) (n:Nat),s.heap.get? a=some o/\o.cls=.type "tuple" /\ o.data=.seq us.toArray n/\Vals ((row a).map V.int) us/\row a≠[])(hl:0 < l.length)(h:Q (tuples' true) s) :
  wpAny (model prog w) A (keyKind' (l.map Value.ref).toArray) Q E s:=by
 obtain ⟨fs,kt,fl,fi⟩:=lH (ads:=l) (row:=row) obj;refine PySem.W.kat_kind (T:=.type "int") kt (by rw [fl];exact hl) (fun v hv=>?_) (by decide) h;obtain ⟨i,t,rfl⟩:=fi v hv;exact .now
theorem tL {l:List Addr}{row:Addr->List Int}(obj:∀ a∈l,∃ (us:List Value) (o:Obj) (n:Nat),s.heap.get? a=some o/\o.cls=.type "tuple" /\ o.data=.seq us.toArray n/\Vals ((row a).map V.int) us/\row a≠[]) :
  Srt.LtAll prog w A E s (Ao l row) (tuples' true):=fun st hk x y a b Q' ka kb hQ=>by
 obtain ⟨x1,x2⟩:=x;obtain ⟨y1,y2⟩:=y
 cases x1 with
 | ref xa =>
  cases y1 with
  | ref ya =>
   have ka:(if l.contains xa=true then some (row xa) else none)=some a:=ka;have kb:(if l.contains ya=true then some (row ya) else none)=some b:=kb;by_cases c1:l.contains xa=true
   ·rw [zAw c1] at ka;by_cases c2:l.contains ya=true
    ·rw [if_pos c2] at kb;cases ka;cases kb;obtain ⟨PD,o1,n1,g1,_,d1,r1,_⟩:=obj xa (by simpa using c1);obtain ⟨PF,o2,n2,g2,_,d2,r2,_⟩:=obj ya (by simpa using c2);rw [lt'_eq];refine wpS_bind (wpS_get ?_);rw [hk];refine wpS_bind (wpS_lift (wpAny_attempt (Aq g1 d1 g2 d2 r1 r2 ⟨rfl,?_⟩)));exact wpS_pure hQ
    ·rw [zAv c2] at kb;cases kb
   ·rw [zAv c1] at ka;cases ka
  | _=>cases kb
 | _=>cases ka
theorem rH (l:List Addr):((l.map Value.ref).toArray.zip (l.map Value.ref).toArray).toList=l.map fun a=>(Value.ref a,Value.ref a):=by
 rw [Array.toList_zip];show (l.map Value.ref).zip (l.map Value.ref)=_;rw [List.zip_map']
theorem o9 (l:List Addr)(row:Addr->List Int):KeysOf (Ao l row) ((l.map Value.ref).toArray.zip (l.map Value.ref).toArray):=fun z de=>by
 rw [rH] at de;obtain ⟨a,ha,rfl⟩:=zA5.mp de;refine ⟨row a,?_⟩;show (if l.contains a=true then some (row a) else none)=some (row a);rw [if_pos (by simpa using ha)]
def xW (p:Keyed):Addr:=match p.1 with
 | .ref a=>a
 | _=>0
theorem rJ {l:List Addr}{row:Addr->List Int}{a:Addr}(h:a∈l):Srt.key (Ao l row) (Value.ref a,Value.ref a)=row a:=by
 show (if l.contains a=true then some (row a) else none).getD []=row a;rw [if_pos (by simpa using h)];rfl
theorem wg {l:List Addr}{row:Addr->List Int}(obj:∀ a∈l,∃ (us:List Value) (o:Obj) (n:Nat),s.heap.get? a=some o/\o.cls=.type "tuple" /\ o.data=.seq us.toArray n/\Vals ((row a).map V.int) us/\row a≠[]){Q:Unit->SortSt->Prop}
  (h:∀ st (l':List Addr),failedOf st=none->(arrOf st).map (·.2)=List.toArray (l'.map Value.ref)->l'.Perm l->l'.Pairwise (fun a b=>HT.lexLt (row b) (row a)=false)->Q () st) :
  wpS (model prog w) A E s sortRuns' Q (SortSt.mk' (tuples' true) ((l.map Value.ref).toArray.zip (l.map Value.ref).toArray) #[] 7 none):=by
 refine Srt.runs_wp (κ:=Ao l row) (ks:=tuples' true) (tL obj) (o9 l row) ⟨rfl,rfl,.refl _⟩ rfl fun st' B sg=>?_;have sP:=Array.perm_iff_toList_perm.mp B.pm;rw [rH] at sP
 have e:(arrOf st').toList=((arrOf st').toList.map xW).map (fun a=>(Value.ref a,Value.ref a)):=by
  rw [zAr]
  conv=>lhs;rw [<- List.map_id (arrOf st').toList]
  refine List.map_congr_left fun z de=>?_;obtain ⟨a,ha,rfl⟩:=zA5.mp (sP.mem_iff.mp de);rfl
 have pm:((arrOf st').toList.map xW).Perm l:=by
  have:=sP.map xW;rw [zAr] at this;rw [show (xW ∘ fun a=>(Value.ref a,Value.ref a))=id from rfl,List.map_id] at this;exact this
 generalize (arrOf st').toList.map xW=l' at e pm;refine h st' l' B.ok ?_ pm ?_
 ·apply Array.toList_inj.mp;rw [Array.toList_map,e,zAr];rfl
 ·have ka:=Srt.keys_perm (o9 l row) B.pm;have:=Srt.pw_of_seg ka (by rw [B.size];exact zA3 _) sg;rw [List.drop_zero,<- B.size,<- zA9,zAm,e,List.pairwise_map] at this;refine this.imp_of_mem fun {a b} ha hb hle=>?_;unfold Srt.leK at hle;rw [rJ (pm.mem_iff.mp ha),rJ (pm.mem_iff.mp hb)] at hle;exact hle
end
section
variable {X:Cx}
theorem oh:∀ {l:List Addr} {us:List Value},Vals (l.map V.ref) us->us=l.map Value.ref
 | [],_,.nil=>rfl
 | a::l,_,.cons r t=>by
  rw [oh t,show _=Value.ref a from r];rfl
theorem uM:∀ (l:List Addr),Vals (l.map V.ref) (l.map Value.ref)
 | []=>.nil
 | _::l=>.cons rfl (uM l)
theorem xX {α:Type}{R:α->α->Prop}:∀ {l:List α},l.length < 2->l.Pairwise R
 | [],_=>.nil
 | [_],_=>List.pairwise_singleton _ _
 | _::_::_,h=>absurd h (by simp)
theorem fK:dX X (.builtin "sorted") (fun xs H Q=>∃ (p:Addr) (l:List Addr) (row:Addr->List Int),xs=[.ref p]/\SqL X.K H p (l.map V.ref)/\(∀ a∈l,SqT X.K H a ((row a).map V.int)/\row a≠[]) /\
  ∀ (q:Addr) (l':List Addr),H q=none->q≠sysModules->l'.Perm l->l'.Pairwise (fun a b=>HT.lexLt (row b) (row a)=false)->Q (.ref q) (upd H q (.lst (l'.map V.ref)))):=by
 intro pins s σ H xs us Q I r h;obtain ⟨p,l,row,rfl,hp,qh,q⟩:=h;obtain ⟨u,rfl,ru⟩:=vals1 r;cases ru;obtain ⟨its,rv,pl,hz⟩:=I.list hp;have ei:=oh rv;subst ei
 have hlen:(l.map Value.ref).length<=sizeLine:=by
  rw [zA1] at hz ⊢;exact hz
 have obj:∀ a∈l,∃ (us:List Value) (o:Obj) (n:Nat),s.heap.get? a=some o/\o.cls=.type "tuple" /\ o.data=.seq us.toArray n/\Vals ((row a).map V.int) us/\row a≠[]:=fun a ha=>by
  obtain ⟨ht,fI⟩:=qh a ha;obtain ⟨as,ra,pa,_⟩:=I.tuple ht;obtain ⟨oa,ga,ca,na,da⟩:=pa;exact ⟨as,oa,na,ga,ca,da,ra,fI⟩
 refine Ar (R:=fun out=>∃ l':List Addr,out=l'.map Value.ref/\l'.Perm l/\l'.Pairwise fun a b=>HT.lexLt (row b) (row a)=false) pl.isList hlen (fun hs=>⟨l,rfl,.refl _,?_⟩) (fun hb g kp=>?_) (fun out ⟨l',e,pm,_⟩=>by rw [e,zA1,zA1,pm.length_eq]) fun out ⟨l',e,pm,pw⟩ h2 c DI at2=>?_
 ·rw [zA1] at hs;exact xX hs
 ·have xh:∀ a∈l,∃ (us:List Value) (o:Obj) (n:Nat),g.get? a=some o/\o.cls=.type "tuple" /\ o.data=.seq us.toArray n/\Vals ((row a).map V.int) us/\row a≠[]:=fun a ha=>by
   obtain ⟨us,o,n,h1,h2⟩:=obj a ha;exact ⟨us,o,n,kp _ _ h1,h2⟩
  refine Av (s:={ s with heap:=g }) xh (by rw [zA1] at hb;lia) ?_;refine ⟨rfl,wg (s:={ s with heap:=g }) xh fun st l' e1 e2 e3 e4=>⟨e1,l'.map Value.ref,e2,l',rfl,e3,e4⟩⟩
 ·subst e;exact ⟨.ref (s.heap.objs.size+1),_,I.laid (t':=s.toks) DI (Nat.le_succ _) (show ObjOk X.prog X.w _ h2 _ (.lst (l'.map V.ref)) from ⟨by rw [zA1,pm.length_eq];rw [zA1] at hz;exact hz,_,c,uM l',at2⟩),rfl,q _ l' (I.hok.fresh (Nat.le_succ _)) (Nat.ne_of_gt (zB4 I.big (Nat.le_succ _))) pm pw⟩
theorem qe:dX X (.builtin "sorted") (fun xs H Q=>∃ (p:Addr) (l:List Addr) (row:Addr->List Int),xs=[.ref p]/\SqL X.K H p (l.map V.ref)/\(∀ a∈l,SqT X.K H a ((row a).map V.int)/\row a≠[]) /\
  ∀ (q:Addr) (l':List Addr),H q=none->l'.Perm l->l'.Pairwise (fun a b=>HT.lexLt (row b) (row a)=false)->Q (.ref q) (upd H q (.lst (l'.map V.ref)))):=by
 intro pins s σ H xs us Q I r h;obtain ⟨p,l,row,e,hp,qh,q⟩:=h;exact fK pins s σ H xs us Q I r ⟨p,l,row,e,hp,qh,fun q' l' a _ b c=>q q' l' a b c⟩
end
end L2
namespace L2.ZL
open PySem PySem.Spec PyProof.Rows
def Itz (K:PySem.W.Frag)(a b:Addr):It :=
 ⟨fun i H=>∃ xs ys x y,SqL K H a xs/\SqL K H b ys/\xs[i]?=some x/\ys[i]?=some y,
  fun i H v H'=>∃ T,H T=none/\v=.ref T/\∀ xs ys,SqL K H a xs->SqL K H b ys->∃ x y,xs[i]?=some x/\ys[i]?=some y/\H'=upd H T (.tup [x,y]),
  fun i H=>∃ xs ys,SqL K H a xs/\SqL K H b ys/\(xs.length<=i\/ys.length<=i)⟩
def tnz (z TI TO i1 i2 a b:Addr)(i:Nat)(h:Heap):Prop:=IsZip h z TI TO .none/\IsPair h TI (.ref i1) (.ref i2)/\(∃ u v,IsPair h TO u v)/\h.IsListIter i1 a i/\h.IsListIter i2 b i
theorem xY {P:Program}{w:World}{K:PySem.W.Frag}{es:List Expr}{k:Nat}{pos:Pos}{z TI TO i1 i2 a b:Addr}(D:ZipApart z TI TO i1 i2 a b) :
  Turn P w K (.Tuple es k pos) (Itz K a b) [z,TI,TO,i1,i2] z (tnz z TI TO i1 i2 a b) where
 mem:=by simp
 obj:=fun i h st c hc=>by
  obtain ⟨s1,s2,⟨u,v,s3⟩,⟨o4,s4,c4,d4⟩,⟨o5,s5,c5,d5⟩⟩:=st;simp only [List.mem_cons,List.not_mem_nil,or_false] at hc;rcases hc with e | e | e | e | e <;> subst e
  ·exact ⟨_,s1,fun v q=>by cases q⟩
  ·exact ⟨_,s2,fun v q=>by cases q⟩
  ·exact ⟨_,s3,fun v q=>by cases q⟩
  ·exact ⟨_,s4,fun v q=>by rw [d4] at q;cases q⟩
  ·exact ⟨_,s5,fun v q=>by rw [d5] at q;cases q⟩
 keep:=fun i h h' st kp=>by
  obtain ⟨s1,s2,⟨u,v,s3⟩,s4,s5⟩:=st;exact ⟨kp z (by simp) _ s1,kp TI (by simp) _ s2,⟨u,v,kp TO (by simp) _ s3⟩,s4.at fun o e=>kp i1 (by simp) o e,s5.at fun o e=>kp i2 (by simp) o e⟩
 item:=by
  intro X hP hw hK hc i pins s σ H E I hf st hg;subst hP hw hK;obtain ⟨s1,s2,⟨u,v,s3⟩,s4,s5⟩:=st;obtain ⟨xs,ys,x,y,gI,AQ,hx,hy⟩:=hg;obtain ⟨its,rv,p,_⟩:=I.list gI;obtain ⟨Ih,eI,q,_⟩:=I.list AQ;obtain ⟨ux,pT,rx⟩:=rv.get hx;obtain ⟨uy,KC,ry⟩:=eI.get hy;refine wpAny_pyNext_zip_item D s1 s2 s3 s4 s5 p.isList q.isList (x:=ux) (y:=uy) (by simpa using pT) (by simpa using KC) fun h1 g1 g2 g3 g4 g5 g6 kp=>?_;refine ⟨_,rfl,?_⟩;refine wpAny_letOwnedTupleGo_zip g1 fun h2 e1 sb=>?_
  have ne:∀ c,c∈[z,TI,TO,i1,i2]->c≠s.heap.objs.size:=fun c ar e=>by
   obtain ⟨f0,f1,f2,f3,f4,f5⟩:=hf c ar
   have:∃ o,s.heap.get? c=some o:=by
    simp only [List.mem_cons,List.not_mem_nil,or_false] at ar;rcases ar with q | q | q | q | q <;> subst q
    ·exact ⟨_,s1⟩
    ·exact ⟨_,s2⟩
    ·exact ⟨_,s3⟩
    ·exact let ⟨o,h,_⟩:=s4;⟨o,h⟩
    ·exact let ⟨o,h,_⟩:=s5;⟨o,h⟩
   obtain ⟨o,ho⟩:=this;exact absurd (zB0 ho) (by rw [e];exact Nat.lt_irrefl _)
  have hT:H s.heap.objs.size=none:=I.hok.fresh (zA3 _)
  have kept:∀ c o,c ∉ [z,TO,i1,i2]->s.heap.get? c=some o->h2.get? c=some o:=fun c o ar e =>
   sb.extBut _ _ (fun q=>ar (by simp [q])) (kp c o (fun q=>ar (by simp [q])) (fun q=>ar (by simp [q])) (fun q=>ar (by simp [q])) (fun q=>ar (by simp [q])) e)
  have DJ:∀ c,c∈[z,TO,i1,i2]->c∈[z,TI,TO,i1,i2]:=fun c ar=>by
   simp only [List.mem_cons,List.not_mem_nil,or_false] at ar ⊢;rcases ar with q | q | q | q <;> simp [q]
  have trk:∀ c o,H c=some o->c ∉ [z,TO,i1,i2]:=fun c o e ar=>by
   have:=(hf c (DJ c ar)).1;rw [e] at this;cases this
  have ja:h2.get? s.heap.objs.size=some { cls:=.type "tuple",data:=.seq #[ux,uy] }:=sb.extBut _ _ (Ne.symm (ne z (by simp))) g5
  have js:HOk X.prog X.w (upd H s.heap.objs.size (.tup [x,y])) h2:=fun c o e=>by
   by_cases hb:c=s.heap.objs.size
   ·subst hb;rw [aa] at e;cases e;exact ⟨by show 2<=sizeLine;decide,[ux,uy],.cons rx (.cons ry .nil),_,ja,rfl,_,rfl⟩
   ·rw [aC hb] at e
    refine (I.hok c o e).stay (fun d v hd q=>kept d v ?_ q) (fun d q=>by rw [aC (aD q hT)];exact q) fun d l q=>by rw [aC (aD q hT)];exact q
    rcases hd with e' | e'
    ·rw [e'];exact trk c o e
    ·exact trk d _ e'
  have I2:Inv X pins σ (upd H s.heap.objs.size (.tup [x,y])) { s with heap:=h2 }:=by
   refine I.step (g':=s.gens) (d':=s.drawn) (t':=s.toks) (ch:=[z,TO,i1,i2]) (fun c ar=>?_) (fun c o _ _ hn e _=>kept c o hn e) (fun c o _ _ hn e _=>⟨o.slots,kept c o hn e⟩)
    (fun c o _ e n=>by rw [aC (zB8 (zB0 e))];exact n) (fun c o hn e=>⟨o,kept c o hn e⟩) (fun c l e=>by rw [aC (aD e hT)];exact e) (fun c o l e=>by rw [aC (aD e hT)];exact e)
    (fun c l e=>⟨#[],by rw [aC (aD e hT),e];simp⟩) (fun m hm=>?_) js I.bare
   ·obtain ⟨f0,f1,f2,f3,f4,f5⟩:=hf c (DJ c ar);exact ⟨f3,f1,f4,f5⟩
   ·obtain ⟨o,dE,ep,ho,r⟩:=hm;refine ⟨o,dE,ep,kept _ o (fun ar=>?_) ho,r⟩;exact (hf _ (DJ _ ar)).2.1 rfl
  refine ⟨.ref s.heap.objs.size,_,I2,rfl,⟨s.heap.objs.size,hT,rfl,fun HP nc wa KD=>⟨x,y,?_,?_,rfl⟩⟩,⟨e1,?_,?_,?_,?_⟩,fun c ar=>?_⟩
  ·rw [I.list_inj wa gI];exact hx
  ·rw [I.list_inj KD AQ];exact hy
  ·exact sb.extBut _ _ D.TIz (kp _ _ D.TIz D.TITO D.TIi1 D.TIi2 s2)
  ·exact ⟨_,_,sb.extBut _ _ D.TOz g2⟩
  ·exact g3.extBut sb.extBut D.i1z
  ·exact g4.extBut sb.extBut D.i2z
  ·rw [aC (ne c ar)];exact (hf c ar).1
 done:=by
  intro X hP hw hK hc i pins s σ H E I hf st hg;subst hP hw hK;obtain ⟨s1,s2,⟨u,v,s3⟩,s4,s5⟩:=st;obtain ⟨xs,ys,gI,AQ,hlen⟩:=hg;obtain ⟨its,rv,p,_⟩:=I.list gI;obtain ⟨Ih,eI,q,_⟩:=I.list AQ;have hl:=rv.length;have fF:=eI.length
  refine wpAny_pyNext_zip_end (I.ok.hd hc) D s1 s2 s3 s4 s5 p.isList q.isList (by simp;lia) fun h' kp=>⟨rfl,?_⟩
  refine I.step (h':=h') (H':=H) (g':=s.gens) (d':=s.drawn) (t':=s.toks) (ch:=[z,TO,i1,i2]) (fun c ar=>?_) (fun c o _ _ hn e _=>kp c o (fun q=>hn (by simp [q])) (fun q=>hn (by simp [q])) (fun q=>hn (by simp [q])) (fun q=>hn (by simp [q])) e)
   (fun c o _ _ hn e _=>⟨o.slots,kp c o (fun q=>hn (by simp [q])) (fun q=>hn (by simp [q])) (fun q=>hn (by simp [q])) (fun q=>hn (by simp [q])) e⟩) (fun c o _ e n=>n) (fun c o hn e=>⟨o,kp c o (fun q=>hn (by simp [q])) (fun q=>hn (by simp [q])) (fun q=>hn (by simp [q])) (fun q=>hn (by simp [q])) e⟩)
   (fun _ _ e=>e) (fun _ _ _ e=>e) (fun c l e=>⟨#[],by rw [e];simp⟩) (fun m hm=>?_) (fun c o e=>?_) I.bare
  ·have:c∈[z,TI,TO,i1,i2]:=by
    simp only [List.mem_cons,List.not_mem_nil,or_false] at ar ⊢;rcases ar with q | q | q | q <;> simp [q]
   obtain ⟨f0,f1,f2,f3,f4,f5⟩:=hf c this;exact ⟨f3,f1,f4,f5⟩
  ·obtain ⟨o,dE,ep,ho,r⟩:=hm;exact ⟨o,dE,ep,kp _ o (Ne.symm (hf z (by simp)).2.1) (Ne.symm (hf TO (by simp)).2.1) (Ne.symm (hf i1 (by simp)).2.1) (Ne.symm (hf i2 (by simp)).2.1) ho,r⟩
  ·have nn:∀ d v c',c'∈[z,TI,TO,i1,i2]->H d=some v->d≠c':=fun d v c' ar q e'=>by
    have:=(hf c' ar).1;rw [<- e',q] at this;cases this
   have nz:∀ d v,H d=some v->d≠z/\d≠TO/\d≠i1/\d≠i2:=fun d v q=>⟨nn d v z (by simp) q,nn d v TO (by simp) q,nn d v i1 (by simp) q,nn d v i2 (by simp) q⟩
   refine (I.hok c o e).stay (fun d v hd q=>?_) (fun _ q=>q) fun _ _ q=>q;rcases hd with e' | e'
   ·rw [e'] at q ⊢;exact kp c v (nz c o e).1 (nz c o e).2.1 (nz c o e).2.2.1 (nz c o e).2.2.2 q
   ·exact kp d v (nz d _ e').1 (nz d _ e').2.1 (nz d _ e').2.2.1 (nz d _ e').2.2.2 q
 self:=fun _ _ _ _ _ st h=>wpAny_pyIter_zip st.1 h
section
variable {X:Cx}
def Hs (K:PySem.W.Frag)(t:TA):TI:=fun σ H R=>t σ H fun vs H1=>∃ a b xs ys,vs=[.ref a,.ref b]/\SqL K H1 a xs/\SqL K H1 b ys/\R (Itz K a b) H1
theorem pi_zip {es:List Expr}{k:Nat}{tp:Pos}{a b:Expr}{ta:TA}{p pos:Pos}(hg:Gl X "zip")(hm:X.mg "zip" = none)(ha:PA X [a,b] ta)(hs:starEach [a,b] X.env=[(false,eval a X.env),(false,eval b X.env)]:=by rfl)(mh:starEach [b] X.env=[(false,eval b X.env)]:=by rfl) :
  PI X (.Tuple es k tp) (.Call (.Name "zip" p) [a,b] [] pos) (Hs X.K ta):=by
 intro pins s σ H R I h;refine Call_ (fG I hg hm boot_zip (PyProof.Rows.callWith_type1 (thn (ha pos pins s σ H _ I h) fun us s1 ⟨vs,H1,I1,r1,q1⟩=>?_) (by rw [hs,mh]) (by rw [mh];rfl)));obtain ⟨x,y,xs,ys,e,hx,hy,q⟩:=q1;subst e;obtain ⟨u,v,rfl,ru,rv⟩:=vals2 r1;cases ru;cases rv;obtain ⟨its,_,p1,_⟩:=I1.list hx;obtain ⟨Ih,_,p2,_⟩:=I1.list hy;refine call_zip_2 p1.isList p2.isList fun h' z1 z2 z3 z4 z5 _ kp=>?_;refine wpAny_pyIter_zip z1 ?_;have lx:x < s1.heap.objs.size:=by obtain ⟨_,e,_⟩:=p1.isList;exact zB0 e
 have ly:y < s1.heap.objs.size:=by obtain ⟨_,e,_⟩:=p2.isList;exact zB0 e
 refine ⟨_,_,_,_,H1,rfl,I1.kept (t':=s1.toks) kp,xY (zipApart_new lx ly),⟨z1,z2,⟨_,_,z3⟩,z4,z5⟩,fun c hc=>?_,q⟩
 have hle:s1.heap.objs.size<=c:=by
  simp only [List.mem_cons,List.not_mem_nil,or_false] at hc;rcases hc with q | q | q | q | q <;> subst q
  ·exact Nat.le_add_right _ 4
  ·exact Nat.le_add_right _ 2
  ·exact Nat.le_add_right _ 3
  ·exact zA3 _
  ·exact Nat.le_add_right _ 1
 exact I1.fpOk hle (I1.hok.fresh hle)
end
end L2.ZL
namespace L2
open PySem PySem.Spec PyProof.Rows
theorem wj {M:Model}{A:Around}{E:Value->Shared->Prop}{s:Shared}{a b:Value}{Q:Value->Shared->Prop}(ha:s.TypeIs a "list")(hb:s.TypeIs b "list")(hc:wpAny M A (call (.builtin "list.__iadd__") [a,b]) Q E s):wpAny M A (inplaceOp .Add a b) Q E s:=by
 unfold inplaceOp;refine wpAny_holding ?_;have hl:typeLookup (.type "list") (dunderI "add")=pure (some (.builtin "list.__iadd__")):=F.slot_list_iadd.lookup
 have KG:fillsInplaceSlot (.type "list") "add" (Operator.Add == .Add)=pure false:=by
  unfold fillsInplaceSlot;show (typeLookup (.type "list") (dunderI "add") >>= fun fi=>pure (fi.isSome && !isSeqSlot fi))=pure false;rw [hl];have:isSeqSlot (some (.builtin "list.__iadd__"))=true:=by decide +kernel
  show (pure (true && !isSeqSlot (some (.builtin "list.__iadd__"))):Sem Bool)=_;rw [this];rfl
 have Ii:seqSlot? (.type "list") (dunderI "add")=pure (some (.builtin "list.__iadd__")):=PySem.seqSlot_of F.slot_list_iadd.lookup (by decide +kernel);refine zAu (wpAny_typeOf ha (zAu (wpAny_of_eq KG ?_)));show wpAny M A (if false=true then _ else _) Q E s;rw [zAv zAg];refine zAu (wpAny_binaryOp1_none (nm:="add") ha hb noFill_list_add ?_);refine zAu (wpAny_of_eq Ii ?_);exact zAu (wpAny_rule hc)
inductive RICatI (x:V)(y:V)(H:Hp)(Q:VK):Prop
 | mk:∀ l b xs zs,(x=.ref l)->(y=.ref b)->(H l=some (.lst xs))->(H b=some (.lst zs))->(xs.length+zs.length<=sizeLine)->(Q (.ref l) (upd H l (.lst (xs++zs))))->RICatI  x y H Q
def G3:TIp:=fun x y H Q=>RICatI  x y H Q
theorem jz {X:Cx}:PIp X .Add G3:=by
 intro pins s σ H x y v u Q I rx ru h;obtain ⟨l,b,xs,zs,rfl,rfl,hH,hB,hz,q⟩:=h;cases rx;cases ru;obtain ⟨z,its,n,r,hl,e⟩:=I.lstM hH;obtain ⟨z2,ba,n2,r2,fF,e2⟩:=I.lstM hB;have hsz:its.toArray.size+ba.toArray.size<=sizeLine:=by rw [zA8,zA8];lia
 have cE:¬ (!its.toArray.isEmpty && Builtin.List.listTooLong (its.toArray.size+ba.toArray.size))=true:=by
  rw [iY hsz,Bool.and_false];exact zAg
 refine wj ⟨_,e,rfl⟩ ⟨_,e2,rfl⟩ (call_meets F.slot_list_iadd ⟨_,e,rfl⟩ F.entry_list_iadd (F.args_list_iadd_2 _ _)
  (AutoSeq1.list___iadd___list_list_0 l its.toArray n b ba.toArray n2 cE (by rw [zA8];lia) (by lia)) ⟨e,e2,?_⟩)
 refine ⟨.ref l,_,I.lset (its':=its++ba) hH e (by simp) (r.append r2) ?_,rfl,q⟩;rw [zA2];lia
section
variable {prog:Program}{w:World}{A:Around}{E:Value->Shared->Prop}{s:Shared}{d it:Addr}{o:Obj}{es:Array DictEntry}{ep i:Nat}
theorem Aw {R:Value->Shared->Prop}(n1:(d == sysModules)=false)(g1:s.heap.get? d=some o)(g2:o.ExactDict)(g3:o.data=.dict es ep)
  (q:R (.ref s.heap.objs.size) { s with heap:=s.heap.push { cls:=.type "dict_keyiterator",data:=.fields #[.ref d,.int 0 0,.int es.size 0,.int ep 0] } }):wpAny (model prog w) A (pyIter (.ref d)) R E s:=by
 have ty:s.TypeIs (.ref d) "dict" := ⟨o,g1,g2.1⟩
 refine wpAny_pyIter_slot ty F.slot_dict_iter (wpAny_call_entry F.slot_dict_iter ty F.entry_dict_iter ?_ (F.args_dict_iter_1 _));unfold Builtin.«dict.__iter__»;refine zAu ?_;unfold Builtin.Dict.dictSlotNone;refine zAu (wpAny_notOrdered_dict ty (show wpAny _ _ (pure (Value.ref d)) _ _ s from zAz ?_));show wpAny (model prog w) _ (Builtin.Dict.showsAll d >>= _) _ E s;unfold Builtin.Dict.showsAll;rw [n1,zAv zAg];refine zAu (zAz (zAu (wpAny_dictEntries g1 g3 (zAu (wpAny_dictEpoch g1 g3 ?_)))));refine zAu (wpAny_newObj_type (zAz ⟨_,rfl,"dict_keyiterator",_,⟨_,zB1 _ rfl,rfl⟩,F.slot_dict_keyiterator_next.lookup,?_⟩));exact q
theorem Ax {e:DictEntry}{R:Option Value->Shared->Prop}(st:s.heap.IsKeyIter it d i es.size ep)(g1:s.heap.get? d=some o)(g3:o.data=.dict es ep)(hx:es[i]?=some e)
  (q:∀ h',h'.IsKeyIter it d (i+1) es.size ep->Heap.SameBut it s.heap h'->R (some e.key) { s with heap:=h' }):wpAny (model prog w) A (pyNext (.ref it)) R E s:=by
 obtain ⟨oi,i1,i2,i3⟩:=id st;have hb:i < es.size:=(Array.getElem?_eq_some_iff.mp hx).1;unfold pyNext;refine zAu (wpAny_attempt (wpAny_callSpecial?_slot (name:=Str.ofString "__next__") st.typeIs F.slot_dict_keyiterator_next (wpAny_call_entry F.slot_dict_keyiterator_next st.typeIs F.entry_dict_keyiterator_next ?_ (F.args_dict_keyiterator_next_1 _))));refine zAu (zAz (zAu (zAu ?_)));refine zAu (wpAny_typeNameOfWhole_keyiter st.typeIs (zAz (zAu (wpAny_fieldsOf i1 i3 ?_))));have ow:Builtin.Dict_items.ownsTuple "dict_keyiterator" = false:=by decide
 simp only [ow,Bool.false_eq_true,if_false];show wpAny (model prog w) _ (if (Value.ref d == Value.none)=true then _ else _) _ _ s;rw [if_neg (show ¬ (Value.ref d == Value.none)=true from zAg)];refine wpAny_bind (wpAny_pure (wpAny_bind (wpAny_dictEntries g1 g3 ?_)));rw [if_neg (by simp)];refine wpAny_bind (wpAny_pure (wpAny_bind (wpAny_dictEpoch g1 g3 ?_)));rw [if_neg (by simp)];refine wpAny_pure ?_;simp only [show ¬ ((i:Int) < 0) from by lia,if_false,Int.toNat_natCast,hx];refine wpAny_bind (wpAny_bind (wpAny_typeNameOfWhole_keyiter st.typeIs (wpAny_pure ?_)));refine wpAny_bind (wpAny_isOneOf_keyiter st.typeIs ?_);show wpAny (model prog w) _ (setField (.ref it) 1 (rawInt ((i:Int)+1)) >>= _) _ _ s;refine wpAny_bind (wpAny_setField i1 i3 (by simp) ?_)
 have st':(s.heap.update it (Obj.mapFields (·.setIfInBounds 1 (rawInt ((i:Int)+1))))).IsKeyIter it d (i+1) es.size ep :=
  ⟨_,Heap.get?_update_self _ i1 (Obj.isFreed_of_fields (Obj.data_mapFields i3 _)),(Obj.cls_mapFields ..).trans i2,by rw [Obj.data_mapFields i3];simp [rawInt]⟩
 refine zAu (wpAny_holding (zAu (wpAny_isOneOf_keyiter (s:={ s with heap:=s.heap.update it (Obj.mapFields (·.setIfInBounds 1 (rawInt ((i:Int)+1)))) }) st'.typeIs ?_)));show wpAny (model prog w) _ (pure e.key) _ _ _;exact zAz (zAz ⟨_,rfl,zAz (q _ st' (Heap.SameBut.update ..))⟩)
theorem DQ {R:Option Value->Shared->Prop}(hh:A.handled=none)(st:s.heap.IsKeyIter it d i es.size ep)(g1:s.heap.get? d=some o)(g3:o.data=.dict es ep)(hx:es.size<=i)
  (q:∀ h',Heap.ExtBut it s.heap h'->R none { s with heap:=h' }):wpAny (model prog w) A (pyNext (.ref it)) R E s:=by
 obtain ⟨oi,i1,i2,i3⟩:=id st;unfold pyNext;refine zAu (wpAny_attempt (wpAny_callSpecial?_slot (name:=Str.ofString "__next__") st.typeIs F.slot_dict_keyiterator_next (wpAny_call_entry F.slot_dict_keyiterator_next st.typeIs F.entry_dict_keyiterator_next ?_ (F.args_dict_keyiterator_next_1 _))));refine zAu (zAz (zAu (zAu ?_)));refine zAu (wpAny_typeNameOfWhole_keyiter st.typeIs (zAz (zAu (wpAny_fieldsOf i1 i3 ?_))));have ow:Builtin.Dict_items.ownsTuple "dict_keyiterator" = false:=by decide
 simp only [ow,Bool.false_eq_true,if_false];show wpAny (model prog w) _ (if (Value.ref d == Value.none)=true then _ else _) _ _ s;rw [if_neg (show ¬ (Value.ref d == Value.none)=true from zAg)];refine wpAny_bind (wpAny_pure (wpAny_bind (wpAny_dictEntries g1 g3 ?_)));rw [if_neg (by simp)];refine wpAny_bind (wpAny_pure (wpAny_bind (wpAny_dictEpoch g1 g3 ?_)));rw [if_neg (by simp)];refine wpAny_pure ?_;simp only [show ¬ ((i:Int) < 0) from by lia,if_false,Int.toNat_natCast,Array.getElem?_eq_none hx];refine wpAny_bind (wpAny_bind (wpAny_typeNameOfWhole_keyiter st.typeIs (wpAny_pure ?_)));show wpAny (model prog w) _ (setField (.ref it) 0 .none >>= _) _ _ s;refine wpAny_bind (wpAny_setField i1 i3 (by simp) ?_);show wpAny (model prog w) _ (newExc (.type "StopIteration") [] >>= _) _ _ _;refine wpAny_bind ?_;simp only [newExc,newTuple];refine wpAny_bind (wpAny_newObj_type (wpAny_bind (m:=firstArgMember _ _) (wpAny_of_eq (a:=Value.none) (by first | rfl | (simp only [firstArgMember];rfl)) ?_)) (by size_fits));refine wpAny_newObj_type ?_ (by size_fits);simp only [raiseNew];refine wpAny_bind (wpAny_handled ?_);rw [show A.in1.handled=none from hh];refine wpAny_bind (wpAny_pure (wpAny_throw ?_));refine wpAny_bind (wpAny_isInstance (b:=true) (T:="StopIteration") ⟨_,Heap.get?_push_size _ rfl,rfl⟩ isSubtype_stop ?_);exact wpAny_pure (q _ (((Heap.SameBut.update ..).extBut.push _).push _))
end
def Itd (d:Addr)(o:Obj)(kvs:List (List Key×V)):It :=
 ⟨fun i H=>H d=some (.frz o (.dT kvs))/\i < kvs.length,fun i H x H'=>H'=H/\∃ b k v,x=.ref b/\kvs[i]?=some (k,v)/\H b=some (.tup (k.map kV)),fun i H=>H d=some (.frz o (.dT kvs))/\kvs.length<=i⟩
theorem KT.get {H:Hp}:∀ {kvs:List (List Key×V)} {xs:List (List Key×Addr×Value)} {i:Nat} {k:List Key} {v:V},KT H kvs xs->kvs[i]?=some (k,v)->∃ b u,xs[i]?=some (k,b,u)/\H b=some (.tup (k.map kV))
 | _,_,_,_,_,.nil,e=>by simp at e
 | p::_,q::_,0,k,v,.cons r t,e=>by
  rw [List.getElem?_cons_zero] at e;cases e;obtain ⟨h1,h2,_⟩:=r;refine ⟨q.2.1,q.2.2,?_,h2⟩;rw [List.getElem?_cons_zero];show some q=some (k,q.2.1,q.2.2);rw [show k=q.1 from h1]
 | p::_,q::_,i+1,k,v,.cons r t,e=>by
  rw [List.getElem?_cons_succ] at e;obtain ⟨b,u,e1,e2⟩:=KT.get t e;exact ⟨b,u,by rw [List.getElem?_cons_succ];exact e1,e2⟩
theorem KT.len {H:Hp}:∀ {kvs:List (List Key×V)} {xs:List (List Key×Addr×Value)},KT H kvs xs->xs.length=kvs.length
 | _,_,.nil=>rfl
 | _,_,.cons _ t=>by rw [zAe,zAe,KT.len t]
theorem Inv.frzT {X:Cx}{pins:List (Addr×Obj)}{σ:St}{H:Hp}{s:Shared}{d:Addr}{o:Obj}{kvs:List (List Key×V)}(I:Inv X pins σ H s)(e:H d=some (.frz o (.dT kvs))):s.heap.get? d=some o/\o.ExactDict/\(d == sysModules)=false /\
  ∃ es ep xs,o.data=.dict es ep/\KT H kvs xs/\es.toList=xs.map (entryOfKey (tupleKind (bJ X.prog X.w))):=by
 obtain ⟨e0,_,hs,xs,kt,o',es,ep,g1,g2,g3,g4,_⟩:=(show ObjOk X.prog X.w H s.heap d (.frz o (.dT kvs)) from I.hok _ _ e)
 rw [e0] at g1;cases g1;exact ⟨e0,g2,hs,es,ep,xs,g3,kt,g4⟩
theorem wk {P:Program}{w:World}{H:Hp}{kvs:List (List Key×V)}{xs:List (List Key×Addr×Value)}{es:Array DictEntry}(kt:KT H kvs xs)(e:es.toList=xs.map (entryOfKey (tupleKind (bJ P w)))):es.size=kvs.length:=by
 rw [<- zA9,e,zA1,kt.len]
theorem wu {P:Program}{w:World}{K:PySem.W.Frag}{tg:Expr}(d it:Addr)(o:Obj)(kvs:List (List Key×V))(es:Array DictEntry)(ep:Nat)(od:o.data=.dict es ep)(hz:es.size=kvs.length):Turn P w K tg (Itd d o kvs) [it] it (fun i h=>h.IsKeyIter it d i es.size ep) where
 mem:=by simp
 obj:=fun i h st b hb=>by
  have e:b=it:=by simpa using hb
  subst e;obtain ⟨o,e,c,d⟩:=st;exact ⟨o,e,fun v z=>by rw [d] at z;cases z⟩
 keep:=fun i h h' st k=>st.at fun o e=>k it (by simp) o e
 item:=by
  intro X hP hw hK hc i pins s σ H E I hf st hg;subst hP hw hK;obtain ⟨hq,hx⟩:=hg;obtain ⟨e0,g2,hs,dE,uu,xs,g3,kt,g4⟩:=I.frzT hq;rw [od] at g3;cases g3;obtain ⟨b,u,ex,eb⟩:=kt.get (k:=kvs[i].1) (v:=kvs[i].2) (zA0 hx);have ee:es[i]?=some (entryOfKey (tupleKind (bJ X.prog X.w)) (kvs[i].1,b,u)):=by rw [entry_at g4,ex];rfl
  obtain ⟨f0,f1,f2,f3,f4,f5⟩:=hf it (by simp);refine Ax st e0 od ee fun h' st' sb=>?_;have I1:Inv X pins σ H { s with heap:=h' }:=I.turned (t':=s.toks) (fun b o hb e=>(sb.2 b hb).trans e) f0 f1 f3 f4 f5;obtain ⟨o2,e2,c2,d2⟩:=id st';exact ⟨.ref b,rfl,uf (s:={ s with heap:=h' }) e2 c2 d2 (by decide) ⟨.ref b,H,I1,rfl,⟨rfl,b,kvs[i].1,kvs[i].2,rfl,zA0 hx,eb⟩,st',fun b hb=>(hf b hb).1⟩⟩
 done:=by
  intro X hP hw hK hc i pins s σ H E I hf st hg;subst hP hw hK;obtain ⟨hq,hx⟩:=hg;obtain ⟨e0,g2,hs,dE,uu,xs,g3,kt,g4⟩:=I.frzT hq;rw [od] at g3;cases g3;obtain ⟨f0,f1,f2,f3,f4,f5⟩:=hf it (by simp)
  exact DQ (I.ok.hd hc) st e0 od (by lia) fun h' eb=>⟨rfl,I.turned (t':=s.toks) (fun b o hb e=>eb b o hb e) f0 f1 f3 f4 f5⟩
 self:=fun _ _ _ _ _ st h=>wpAny_pyIter_keyiter st h
section
variable {X:Cx}{tg:Expr}
def G6 (tl:TE):TI:=fun σ H R=>tl σ H fun x H1=>∃ d o kvs,x=.ref d/\H1 d=some (.frz o (.dT kvs))/\R (Itd d o kvs) H1
theorem uN {l:Expr}{tl:TE}(hl:PE X l tl):PI X tg l (G6 tl):=by
 intro pins s σ H R I h;refine thn (hl pins s σ H _ I h) fun v s1 ⟨x,H1,I1,r1,q1⟩=>?_;obtain ⟨d,o,kvs,e,hq,q⟩:=q1;subst e;cases r1;obtain ⟨e0,g2,hs,es,ep,xs,g3,kt,g4⟩:=I1.frzT hq;refine Aw hs e0 g2 g3 ?_;refine ⟨s1.heap.objs.size,[s1.heap.objs.size],_,_,H1,rfl,I1.kept (t':=s1.toks) fun b o e=>Heap.get?_push_of_some _ e,wu d _ o kvs es ep g3 (wk kt g4),⟨_,Heap.get?_push_size _ rfl,rfl,rfl⟩,fun b hb=>?_,q⟩;have e:b=s1.heap.objs.size:=by simpa using hb
 subst e;exact I1.fpOk (zA3 _) (I1.hok.fresh (zA3 _))
end
open PySem PySem.Spec PyProof.Rows PySem.Calls
inductive RRepNI (x:V)(y:V)(H:Hp)(Q:VK):Prop
 | mk:∀ l k xs,(x=.ref l)->(y=.int k)->(H l=some (.lst xs))->(-(2 ^ 63)<=k)->(k < 2 ^ 63)->(xs.length * k.toNat<=sizeLine)->(∀ p,H p=none->p≠sysModules->Q (.ref p) (upd H p (.lst (List.replicate k.toNat xs).flatten)))->RRepNI  x y H Q
def G7:R2:=fun x y H Q=>RRepNI  x y H Q
theorem Ay {X:Cx}:OpR X (binaryOp .Mult) G7:=by
 intro pins s σ H x y v u Q I rx ry h;obtain ⟨l,k,xs,rfl,rfl,hH,h1,h2,hz,q⟩:=h;cases rx;obtain ⟨t,rfl⟩:=ry;obtain ⟨z,its,n,r,hl,e⟩:=I.lstM hH;have hlen:its.toArray.size * k.toNat<=sizeLine:=by rw [zA8,<- hl];exact hz
 have oQ:¬ its.toArray.size * k.toNat > (2 ^ 63 - 1) / 8:=by
  have:(sizeLine:Nat)<=(2 ^ 63 - 1) / 8:=by decide
  lia
 have oS:¬ (!Builtin.List.listFitsIndex k)=true:=by
  rw [fitsIndex_both h1 h2];exact zAg
 have cE:¬ Builtin.List.listTooLong (its.toArray.size * k.toNat)=true:=by
  rw [iY hlen];exact zAg
 have oT:List.foldl (fun x1 x2=>x1++x2) #[] (List.replicate (if its.toArray.isEmpty=true then 0 else k.toNat) its.toArray)=(List.replicate k.toNat its).flatten.toArray:=by
  have f0:∀ m:Nat,List.foldl (fun x1 x2=>x1++x2) #[] (List.replicate m its.toArray)=(List.replicate m its).flatten.toArray:=fun m=>by
   have:=foldl_rep its m [];rw [List.nil_append] at this;exact this
  rw [f0]
  cases its with
  | nil=>simp
  | cons a r'=>rw [if_neg (by simp)]
 refine wpAny_binaryOp_repeat_ref (T:="list") (U:="int") (by decide) ⟨_,e,rfl⟩ (fun s'=>typeIs_int s' k t) noFill_list_mul F.fills_int_mul F.slot_int_rmul repeat_list F.slot_int_index.lookup
  (call_meets F.slot_int_rmul (typeIs_int s k t) F.entry_int_rmul (F.args_int_rmul_2 _ _) (int___rmul___int_list k t l its.toArray n)
   ⟨e,rfl,⟨_,e,rfl⟩,call_meets F.slot_list_mul ⟨_,e,rfl⟩ F.entry_list_mul (F.args_list_mul_2 _ _) (AutoListH.list___mul___list_int_3 l its.toArray n k t oS oQ cE) ⟨e,?_⟩⟩)
 rw [oT];exact ⟨.ref _,_,I.lnew (t':=s.toks) (r.rep k.toNat) (by rw [len_rep,Nat.mul_comm];exact hz),rfl,q _ I.fresh (Nat.ne_of_gt I.big)⟩
end L2
namespace L2.Z3
open PySem PySem.Spec PyProof.Rows PySem.Calls
theorem tc3 (a b c:Value):checkTypeCall "zip" ⟨[a,b,c],[]⟩=pure ():=by kernel_rfl
theorem nc3 (a b c:Value):checkBuiltinCall "zip.__new__" ⟨[.type "zip",a,b,c],[]⟩=pure ():=by kernel_rfl
theorem oi4 (a b c d:Value):argsOk "object.__init__" ⟨[a,b,c,d],[]⟩:=by
 unfold argsOk;rw [signature?_of (id:="object.__init__") (n:=['_','_','t','i','n','i','_','_']) (o:=['t','c','e','j','b','o']) (by kernel_rfl) F.owner_object]
 kernel_rfl
theorem DR:typeLookup (.type "zip") "__len__" = pure none:=by rw [typeLookup_type,builtinLookup_eq_fast];kernel_rfl
theorem Az:typeLookup (.type "zip") "__length_hint__" = pure none:=by rw [typeLookup_type,builtinLookup_eq_fast];kernel_rfl
abbrev IsZ (h:Heap)(z TI TO:Addr)(f0 f1:Value):Prop:=h.get? z=some { cls:=.type "zip",dict:=none,data:=.fields #[f0,f1,.bool false,.ref TI,.ref TO],slots:=#[] }
abbrev fV (h:Heap)(T:Addr)(a b c:Value):Prop:=h.get? T=some { cls:=.type "tuple",data:=.seq #[a,b,c] }
theorem nn {a b:Nat}(h:a≠b):@Ne Addr a b:=h
structure Apart (l1 l2 l3 i1 i2 i3 TI TO z:Nat):Prop where
 a1:l1 < i1
 a2:l2 < i1
 a3:l3 < i1
 b1:i1 < i2
 b2:i2 < i3
 b3:i3 < TI
 b4:TI < TO
 b5:TO < z
structure St (l1 l2 l3 i1 i2 i3 TI TO z:Nat)(xs ys zs:Array Value)(S:Nat)(i:Nat)(h:Heap):Prop where
 z0:(i=0/\IsZ h z TI TO .none (.bool false))\/∃ (a:Nat) (oa:Obj) (f:Bool),IsZ h z TI TO (rawInt a) (.bool f)/\h.get? a=some oa/\z < a/\a≠S
 ti:fV h TI (.ref i1) (.ref i2) (.ref i3)
 to:∃ a b c,fV h TO a b c
 p1:h.IsListIter i1 l1 i
 p2:h.IsListIter i2 l2 i
 p3:h.IsListIter i3 l3 i
 q1:h.IsList l1 xs
 q2:h.IsList l2 ys
 q3:h.IsList l3 zs
section
variable {prog:Program}{w:World}{A:Around}{E:Value->Shared->Prop}{s:Shared}{l1 l2 l3 i1 i2 i3 TI TO z:Nat}{xs ys zs:Array Value}
theorem DW {T:Addr}{a b c x:Value}{k:Nat}{Q:Unit->Shared->Prop}(hT:fV s.heap T a b c)
  (h:∀ h',h'.get? T=some { cls:=.type "tuple",data:=.seq ((#[a,b,c]:Array Value).setIfInBounds k x) }->Heap.SameBut T s.heap h'->Q () { s with heap:=h' }) :
  wpAny (model prog w) A (updateSeq T (·.setIfInBounds k x)) Q E s:=by
 refine wpAny_updateSeq hT rfl (h _ ?_ (Heap.SameBut.update ..));rw [Heap.get?_update_self _ hT rfl];simp [Obj.mapSeq]
theorem Ba {k:Nat}{x y v a b c:Value}{Q:Value->Shared->Prop}(D:Apart l1 l2 l3 i1 i2 i3 TI TO z)(hz:IsZ s.heap z TI TO .none (.bool false))(xi:fV s.heap TI (.ref i1) (.ref i2) (.ref i3))(KH:fV s.heap TO a b c)
  (h1:s.heap.IsListIter i1 l1 k) (h2:s.heap.IsListIter i2 l2 k) (h3:s.heap.IsListIter i3 l3 k) (q1:s.heap.IsList l1 xs) (q2:s.heap.IsList l2 ys) (q3:s.heap.IsList l3 zs) (hx:xs[k]?=some x) (hy:ys[k]?=some y) (hv:zs[k]?=some v)
  (hQ:∀ h',IsZ h' z TI TO (rawInt s.heap.objs.size) (.bool false)->fV h' TO x y v->h'.IsListIter i1 l1 (k+1)->h'.IsListIter i2 l2 (k+1)->h'.IsListIter i3 l3 (k+1)->fV h' s.heap.objs.size x y v->h'.objs.size=s.heap.objs.size+1 ->
   (∀ c o,c≠z->c≠TO->c≠i1->c≠i2->c≠i3->s.heap.get? c=some o->h'.get? c=some o)->Q (.ref s.heap.objs.size) { s with heap:=h' }) :
  wpAny (model prog w) A (Builtin.«zip.__next__» ⟨[.ref z],[]⟩) (fun fin s'=>∃ v,fin=.done (.ret v)/\Q v s') E s:=by
 obtain ⟨a1,a2,a3,b1,b2,b3,b4,b5⟩:=D;show wpAny _ _ (field (.ref z) 2 >>= _) _ _ _;refine wpAny_bind (wpAny_field hz rfl (x:=.bool false) rfl ?_);show wpAny _ _ (field (.ref z) 3 >>= _) _ _ _;refine wpAny_bind (wpAny_field hz rfl (x:=.ref TI) rfl ?_);refine wpAny_bind (wpAny_seqItems xi rfl ?_);show wpAny _ _ (Builtin.SmallTypes.ownedTupleIsFree (.ref z) >>= _) _ _ _;refine wpAny_bind ?_;unfold Builtin.SmallTypes.ownedTupleIsFree;refine wpAny_bind (wpAny_field hz rfl (x:=.none) rfl (wpAny_pure ?_));simp only [if_true];refine wpAny_bind (wpAny_rule ?_);refine wpAny_bind (wpAny_field hz rfl (x:=.ref TO) rfl ?_);refine wpAny_bind (wpAny_setField_rec hz (by simp) fun g1 DL s1=>?_)
 replace DL:IsZ g1 z TI TO .ellipsis (.bool false):=DL
 refine wpAny_bind ?_;simp only [List.zipIdx_cons,List.zipIdx_nil,List.forIn_cons,List.forIn_nil];refine wpAny_bind (wpAny_bind (wpAny_onRaise ?_));show wpAny _ _ (Builtin.SmallTypes.nextOf (.ref i1) >>= _) _ _ _;refine wpAny_bind (wpAny_nextOf_list_item (h1.extBut s1.extBut (nn (by lia))) (q1.extBut s1.extBut (nn (by lia))) hx fun g2 p1 s2=>wpAny_pure ?_);have t2:fV g2 TO a b c:=s2.extBut _ _ (nn (by lia)) (s1.extBut _ _ (nn (by lia)) KH);refine wpAny_bind (wpAny_seqItems t2 rfl ?_);refine wpAny_bind (DW t2 fun g3 t3 s3=>?_)
 replace t3:fV g3 TO x b c:=t3
 refine zAu (wpAny_letGo (zAz ?_));have k3:∀ d o,d≠z->d≠TO->d≠i1->s.heap.get? d=some o->g3.get? d=some o:=fun d o n1 n2 n3 e=>s3.extBut _ _ n2 (s2.extBut _ _ n3 (s1.extBut _ _ n1 e));refine zAu (zAu (wpAny_onRaise ?_));show wpAny _ _ (Builtin.SmallTypes.nextOf (.ref i2) >>= _) _ _ _;refine zAu (wpAny_nextOf_list_item (h2.at fun o e=>k3 _ o (nn (by lia)) (nn (by lia)) (nn (by lia)) e) (q2.at fun o e=>k3 _ o (nn (by lia)) (nn (by lia)) (nn (by lia)) e) hy fun g4 p2 s4=>zAz ?_);have t4:fV g4 TO x b c:=s4.extBut _ _ (nn (by lia)) t3;refine zAu (wpAny_seqItems t4 rfl ?_);refine zAu (DW t4 fun g5 t5 s5=>?_)
 replace t5:fV g5 TO x y c:=t5
 refine zAu (wpAny_letGo (zAz ?_));have k5:∀ d o,d≠TO->d≠i2->g3.get? d=some o->g5.get? d=some o:=fun d o n1 n2 e=>s5.extBut _ _ n1 (s4.extBut _ _ n2 e);refine zAu (zAu (wpAny_onRaise ?_));show wpAny _ _ (Builtin.SmallTypes.nextOf (.ref i3) >>= _) _ _ _;refine zAu (wpAny_nextOf_list_item (h3.at fun o e=>k5 _ o (nn (by lia)) (nn (by lia)) (k3 _ o (nn (by lia)) (nn (by lia)) (nn (by lia)) e)) (q3.at fun o e=>k5 _ o (nn (by lia)) (nn (by lia)) (k3 _ o (nn (by lia)) (nn (by lia)) (nn (by lia)) e)) hv fun g6 p3 s6=>zAz ?_);have t6:fV g6 TO x y c:=s6.extBut _ _ (nn (by lia)) t5;refine zAu (wpAny_seqItems t6 rfl ?_);refine zAu (DW t6 fun g7 t7 s7=>?_)
 replace t7:fV g7 TO x y v:=t7
 refine zAu (wpAny_letGo (zAz (zAz ?_)));have k7:∀ d o,d≠TO->d≠i3->g5.get? d=some o->g7.get? d=some o:=fun d o n1 n2 e=>s7.extBut _ _ n1 (s6.extBut _ _ n2 e);refine zAu (wpAny_seqItems t7 rfl ?_);refine zAu (wpAny_newTuple ?_);have hsz:g7.objs.size=s.heap.objs.size:=by rw [s7.1,s6.1,s5.1,s4.1,s3.1,s2.1,s1.1]
 have z7:IsZ g7 z TI TO .ellipsis (.bool false):=k7 _ _ (nn (by lia)) (nn (by lia)) (k5 _ _ (nn (by lia)) (nn (by lia)) (s3.extBut _ _ (nn (by lia)) (s2.extBut _ _ (nn (by lia)) DL)));have zl:z < g7.objs.size:=Heap.lt_size z7;show wpAny _ _ (Builtin.SmallTypes.ownedTupleHandOut (.ref z) (.ref g7.objs.size) >>= _) _ _ _;refine wpAny_bind ?_;unfold Builtin.SmallTypes.ownedTupleHandOut;have z8:IsZ (g7.push { cls:=.type "tuple",data:=.seq #[x,y,v] }) z TI TO .ellipsis (.bool false):=Heap.get?_push_of_some _ z7;refine wpAny_bind (wpAny_setField_rec z8 (by simp) fun g9 z9 s9=>?_)
 replace z9:IsZ g9 z TI TO (rawInt g7.objs.size) (.bool false):=z9
 refine wpAny_setField_rec z9 (by simp) fun h8 z10 DM=>?_
 replace z10:IsZ h8 z TI TO (rawInt g7.objs.size) (.bool false):=z10
 have up:∀ d o,d≠z->g7.get? d=some o->h8.get? d=some o:=fun d o n e=>DM.extBut _ _ n (s9.extBut _ _ n (zAx _ e));have tn:fV h8 g7.objs.size x y v:=DM.extBut _ _ (Nat.ne_of_gt zl) (s9.extBut _ _ (Nat.ne_of_gt zl) (zB1 _ rfl));have xt:h8.objs.size=g7.objs.size+1:=by rw [DM.1,s9.1,Heap.size_push]
 rw [hsz] at z10 tn xt;refine zAz ⟨_,rfl,?_⟩;show Q (.ref g7.objs.size) _;rw [hsz];refine hQ h8 z10 (up _ _ (nn (by lia)) t7) (p1.at fun o e=>up _ o (nn (by lia)) (k7 _ _ (nn (by lia)) (nn (by lia)) (k5 _ _ (nn (by lia)) (nn (by lia)) (s3.extBut _ _ (nn (by lia)) e)))) (p2.at fun o e=>up _ o (nn (by lia)) (k7 _ _ (nn (by lia)) (nn (by lia)) (s5.extBut _ _ (nn (by lia)) e))) (p3.at fun o e=>up _ o (nn (by lia)) (s7.extBut _ _ (nn (by lia)) e)) tn xt fun d o n1 n2 n3 n4 n5 e=>up d o n1 (k7 _ _ n2 n5 (k5 _ _ n2 n4 (k3 _ _ n1 n2 n3 e)))
theorem uO {a:Nat}{oa:Obj}{f:Bool}(hz:IsZ s.heap z TI TO (rawInt a) (.bool f))(ha:s.heap.get? a=some oa) :
  wpAny (model prog w) A (Builtin.SmallTypes.ownedTupleIsFree (.ref z)) (fun b s'=>b=false/\∃ g0,s'={ s with heap:=g0 }/\IsZ g0 z TI TO (rawInt a) (.bool true)/\Heap.SameBut z s.heap g0) E s:=by
 unfold Builtin.SmallTypes.ownedTupleIsFree;refine wpAny_bind (wpAny_field hz rfl (x:=rawInt a) rfl ?_);show wpAny _ _ (loadIfAlive ((a:Int).toNat) >>= _) _ _ _;rw [zAi];refine wpAny_bind (PySem.W.kdx_alive ha ?_);simp only [Option.isNone_some,Bool.false_eq_true,if_false];refine wpAny_bind (wpAny_field hz rfl (x:=.bool f) rfl ?_)
 cases f with
 | true =>
  rw [zAv (show ¬ ((Value.bool true != Value.bool true)=true) from zAg)];exact zAz ⟨rfl,s.heap,rfl,hz,Heap.SameBut.refl _ _⟩
 | false =>
  rw [if_pos (show (Value.bool false != Value.bool true)=true from rfl)];exact wpAny_bind (wpAny_setField_rec hz (by simp) fun g0 z0 s0=>wpAny_pure ⟨rfl,g0,rfl,z0,s0⟩)
theorem DX {k:Nat}{x y v:Value}{a:Nat}{oa:Obj}{f:Bool}{Q:Value->Shared->Prop}(D:Apart l1 l2 l3 i1 i2 i3 TI TO z)(hz:IsZ s.heap z TI TO (rawInt a) (.bool f))(ha:s.heap.get? a=some oa)(PH:z < a)(xi:fV s.heap TI (.ref i1) (.ref i2) (.ref i3))
  (h1:s.heap.IsListIter i1 l1 k) (h2:s.heap.IsListIter i2 l2 k) (h3:s.heap.IsListIter i3 l3 k) (q1:s.heap.IsList l1 xs) (q2:s.heap.IsList l2 ys) (q3:s.heap.IsList l3 zs) (hx:xs[k]?=some x) (hy:ys[k]?=some y) (hv:zs[k]?=some v)
  (hQ:∀ h',IsZ h' z TI TO (rawInt a) (.bool true)->h'.IsListIter i1 l1 (k+1)->h'.IsListIter i2 l2 (k+1)->h'.IsListIter i3 l3 (k+1)->fV h' s.heap.objs.size x y v->h'.objs.size=s.heap.objs.size+1 ->
   (∀ c o,c≠z->c≠i1->c≠i2->c≠i3->s.heap.get? c=some o->h'.get? c=some o)->Q (.ref s.heap.objs.size) { s with heap:=h' }) :
  wpAny (model prog w) A (Builtin.«zip.__next__» ⟨[.ref z],[]⟩) (fun fin s'=>∃ v,fin=.done (.ret v)/\Q v s') E s:=by
 obtain ⟨a1,a2,a3,b1,b2,b3,b4,b5⟩:=D;show wpAny _ _ (field (.ref z) 2 >>= _) _ _ _;refine wpAny_bind (wpAny_field hz rfl (x:=.bool false) rfl ?_);show wpAny _ _ (field (.ref z) 3 >>= _) _ _ _;refine wpAny_bind (wpAny_field hz rfl (x:=.ref TI) rfl ?_);refine wpAny_bind (wpAny_seqItems xi rfl ?_);show wpAny _ _ (Builtin.SmallTypes.ownedTupleIsFree (.ref z) >>= _) _ _ _;refine wpAny_bind (wpAny_mono (uO hz ha) (fun b s' h=>?_) fun _ _ x=>x);obtain ⟨rfl,g0,rfl,z0,s0⟩:=h;simp only [Bool.false_eq_true,if_false,List.forIn_toArray,List.forIn_cons,List.forIn_nil];refine wpAny_bind (wpAny_bind (wpAny_bind (wpAny_holding ?_)));show wpAny _ _ (Builtin.SmallTypes.nextOf (.ref i1) >>= _) _ _ _;refine wpAny_bind (wpAny_nextOf_list_item (h1.extBut s0.extBut (nn (by lia))) (q1.extBut s0.extBut (nn (by lia))) hx fun g1 p1 s1=>wpAny_pure ?_);refine wpAny_pure ?_;have k1:∀ d o,d≠z->d≠i1->s.heap.get? d=some o->g1.get? d=some o:=fun d o n1 n2 e=>s1.extBut _ _ n2 (s0.extBut _ _ n1 e);refine wpAny_bind (wpAny_bind (wpAny_holding ?_));show wpAny _ _ (Builtin.SmallTypes.nextOf (.ref i2) >>= _) _ _ _;refine wpAny_bind (wpAny_nextOf_list_item (h2.at fun o e=>k1 _ o (nn (by lia)) (nn (by lia)) e) (q2.at fun o e=>k1 _ o (nn (by lia)) (nn (by lia)) e) hy fun g2 p2 s2=>wpAny_pure ?_);refine wpAny_pure ?_;have k2:∀ d o,d≠z->d≠i1->d≠i2->s.heap.get? d=some o->g2.get? d=some o:=fun d o n1 n2 n3 e=>s2.extBut _ _ n3 (k1 _ _ n1 n2 e);refine wpAny_bind (wpAny_bind (wpAny_holding ?_));show wpAny _ _ (Builtin.SmallTypes.nextOf (.ref i3) >>= _) _ _ _;refine wpAny_bind (wpAny_nextOf_list_item (h3.at fun o e=>k2 _ o (nn (by lia)) (nn (by lia)) (nn (by lia)) e) (q3.at fun o e=>k2 _ o (nn (by lia)) (nn (by lia)) (nn (by lia)) e) hv fun g3 p3 s3=>wpAny_pure ?_);refine wpAny_pure (wpAny_pure ?_);have k3:∀ d o,d≠z->d≠i1->d≠i2->d≠i3->s.heap.get? d=some o->g3.get? d=some o:=fun d o n1 n2 n3 n4 e=>s3.extBut _ _ n4 (k2 _ _ n1 n2 n3 e);refine wpAny_bind (wpAny_newTuple (hsz:=by show 3<=sizeLine;decide) ?_);have hsz:g3.objs.size=s.heap.objs.size:=by rw [s3.1,s2.1,s1.1,s0.1]
 have z3:IsZ g3 z TI TO (rawInt a) (.bool true):=s3.extBut _ _ (nn (by lia)) (s2.extBut _ _ (nn (by lia)) (s1.extBut _ _ (nn (by lia)) z0));have tn:fV (g3.push { cls:=.type "tuple",data:=.seq #[x,y,v] }) g3.objs.size x y v:=zB1 _ rfl;have xt:(g3.push { cls:=.type "tuple",data:=.seq #[x,y,v] }).objs.size=g3.objs.size+1:=Heap.size_push ..;rw [hsz] at tn xt;refine zAz ⟨_,rfl,?_⟩;show Q (.ref g3.objs.size) _;rw [hsz];exact hQ _ (zAx _ z3) (p1.at fun o e=>zAx _ (s3.extBut _ _ (nn (by lia)) (s2.extBut _ _ (nn (by lia)) e))) (p2.at fun o e=>zAx _ (s3.extBut _ _ (nn (by lia)) e)) (p3.at fun o e=>zAx _ e) tn xt fun d o n1 n2 n3 n4 e=>zAx _ (k3 _ _ n1 n2 n3 n4 e)
theorem DY {k:Nat}{a:Nat}{oa:Obj}{f:Bool}{Q:Fin->Shared->Prop}(hh:A.handled=none)(D:Apart l1 l2 l3 i1 i2 i3 TI TO z)(hz:IsZ s.heap z TI TO (rawInt a) (.bool f))(ha:s.heap.get? a=some oa)(xi:fV s.heap TI (.ref i1) (.ref i2) (.ref i3))
  (h1:s.heap.IsListIter i1 l1 k) (q1:s.heap.IsList l1 xs) (hx:xs[k]?=none)
  (hE:∀ h' e,(∀ c o,c≠z->c≠i1->s.heap.get? c=some o->h'.get? c=some o)->(∃ o,h'.get? e=some o/\o.cls=.type "StopIteration")->E (.ref e) { s with heap:=h' }) :
  wpAny (model prog w) A (Builtin.«zip.__next__» ⟨[.ref z],[]⟩) Q E s:=by
 obtain ⟨a1,a2,a3,b1,b2,b3,b4,b5⟩:=D;show wpAny _ _ (field (.ref z) 2 >>= _) _ _ _;refine wpAny_bind (wpAny_field hz rfl (x:=.bool false) rfl ?_);show wpAny _ _ (field (.ref z) 3 >>= _) _ _ _;refine wpAny_bind (wpAny_field hz rfl (x:=.ref TI) rfl ?_);refine wpAny_bind (wpAny_seqItems xi rfl ?_);show wpAny _ _ (Builtin.SmallTypes.ownedTupleIsFree (.ref z) >>= _) _ _ _;refine wpAny_bind (wpAny_mono (uO hz ha) (fun b s' h=>?_) fun _ _ x=>x);obtain ⟨rfl,g0,rfl,z0,s0⟩:=h;simp only [Bool.false_eq_true,if_false,List.forIn_toArray,List.forIn_cons,List.forIn_nil];refine wpAny_bind (wpAny_bind (wpAny_bind (wpAny_holding ?_)));show wpAny _ _ (Builtin.SmallTypes.nextOf (.ref i1) >>= _) _ _ _;refine wpAny_bind (wpAny_nextOf_list_end hh (h1.extBut s0.extBut (nn (by lia))) (q1.extBut s0.extBut (nn (by lia))) hx fun g1 e s1 he=>hE g1 e (fun d o n1 n2 x=>s1 _ _ n2 (s0.extBut _ _ n1 x)) he)
theorem St.keep {S:Nat}{i:Nat}{h h':Heap}(x:St l1 l2 l3 i1 i2 i3 TI TO z xs ys zs S i h)(D:Apart l1 l2 l3 i1 i2 i3 TI TO z)(hS:z < S)(hk:∀ b o,b≠S->h.get? b=some o->h'.get? b=some o):St l1 l2 l3 i1 i2 i3 TI TO z xs ys zs S i h':=by
 obtain ⟨a1,a2,a3,b1,b2,b3,b4,b5⟩:=D;obtain ⟨z0,ti,⟨a,b,c,to⟩,p1,p2,p3,q1,q2,q3⟩:=x;refine ⟨?_,hk _ _ (nn (by lia)) ti,⟨a,b,c,hk _ _ (nn (by lia)) to⟩,p1.at fun o e=>hk _ o (nn (by lia)) e,p2.at fun o e=>hk _ o (nn (by lia)) e,p3.at fun o e=>hk _ o (nn (by lia)) e,q1.at fun o e=>hk _ o (nn (by lia)) e,q2.at fun o e=>hk _ o (nn (by lia)) e,q3.at fun o e=>hk _ o (nn (by lia)) e⟩;rcases z0 with ⟨e,hz⟩ | ⟨a,oa,f,hz,ha,h1,h2⟩
 ·exact .inl ⟨e,hk _ _ (nn (by lia)) hz⟩
 ·exact .inr ⟨a,oa,f,hk _ _ (nn (by lia)) hz,hk _ _ h2 ha,h1,h2⟩
theorem item {S:Nat}{i:Nat}{x y v:Value}{Q:Option Value->Shared->Prop}(D:Apart l1 l2 l3 i1 i2 i3 TI TO z)(st:St l1 l2 l3 i1 i2 i3 TI TO z xs ys zs S i s.heap)(hS:S < s.heap.objs.size)(hx:xs[i]?=some x)(hy:ys[i]?=some y)(hv:zs[i]?=some v)
  (hQ:∀ h',St l1 l2 l3 i1 i2 i3 TI TO z xs ys zs S (i+1) h'->fV h' s.heap.objs.size x y v->h'.objs.size=s.heap.objs.size+1->(∀ c o,c≠z->c≠TO->c≠i1->c≠i2->c≠i3->s.heap.get? c=some o->h'.get? c=some o)->Q (some (.ref s.heap.objs.size)) { s with heap:=h' }) :
  wpAny (model prog w) A (pyNext (.ref z)) Q E s:=by
 obtain ⟨a1,a2,a3,b1,b2,b3,b4,b5⟩:=id D;obtain ⟨z0,ti,⟨a,b,c,to⟩,p1,p2,p3,q1,q2,q3⟩:=st
 have zl:z < s.heap.objs.size:=by
  rcases z0 with ⟨_,hz⟩ | ⟨_,_,_,hz,_⟩ <;> exact zB0 hz
 have hT:s.TypeIs (.ref z) "zip" := by
  rcases z0 with ⟨_,hz⟩ | ⟨_,_,_,hz,_⟩ <;> exact ⟨_,hz,rfl⟩
 unfold pyNext;refine zAu (wpAny_attempt (wpAny_callSpecial?_slot (name:=Str.ofString "__next__") hT F.slot_zip_next (wpAny_call_entry F.slot_zip_next hT F.entry_zip_next ?_ (F.args_zip_next_1 _))));rcases z0 with ⟨rfl,hz⟩ | ⟨a',oa,f,hz,ha,h1,h2⟩
 ·refine Ba D hz ti to p1 p2 p3 q1 q2 q3 hx hy hv fun h' e1 e2 e3 e4 e5 e6 e7 k=>zAz (hQ h' ⟨.inr ⟨_,_,_,e1,e6,zl,nn (by lia)⟩,k _ _ (nn (by lia)) (nn (by lia)) (nn (by lia)) (nn (by lia)) (nn (by lia)) ti,⟨_,_,_,e2⟩,e3,e4,e5,q1.at fun o e=>k _ o (nn (by lia)) (nn (by lia)) (nn (by lia)) (nn (by lia)) (nn (by lia)) e,q2.at fun o e=>k _ o (nn (by lia)) (nn (by lia)) (nn (by lia)) (nn (by lia)) (nn (by lia)) e,q3.at fun o e=>k _ o (nn (by lia)) (nn (by lia)) (nn (by lia)) (nn (by lia)) (nn (by lia)) e⟩ e6 e7 k)
 ·refine DX D hz ha h1 ti p1 p2 p3 q1 q2 q3 hx hy hv fun h' e1 e3 e4 e5 e6 e7 k=>zAz (hQ h' ⟨.inr ⟨a',oa,true,e1,k _ _ (nn (by lia)) (nn (by lia)) (nn (by lia)) (nn (by lia)) ha,h1,h2⟩,k _ _ (nn (by lia)) (nn (by lia)) (nn (by lia)) (nn (by lia)) ti,⟨_,_,_,k _ _ (nn (by lia)) (nn (by lia)) (nn (by lia)) (nn (by lia)) to⟩,e3,e4,e5,q1.at fun o e=>k _ o (nn (by lia)) (nn (by lia)) (nn (by lia)) (nn (by lia)) e,q2.at fun o e=>k _ o (nn (by lia)) (nn (by lia)) (nn (by lia)) (nn (by lia)) e,q3.at fun o e=>k _ o (nn (by lia)) (nn (by lia)) (nn (by lia)) (nn (by lia)) e⟩ e6 e7 fun c o n1 _ n3 n4 n5 e=>k c o n1 n3 n4 n5 e)
theorem done {S:Nat}{i:Nat}{Q:Option Value->Shared->Prop}(hh:A.handled=none)(D:Apart l1 l2 l3 i1 i2 i3 TI TO z)(st:St l1 l2 l3 i1 i2 i3 TI TO z xs ys zs S i s.heap)(hi:i≠0)(hx:xs[i]?=none)
  (hQ:∀ h',(∀ c o,c≠z->c≠i1->s.heap.get? c=some o->h'.get? c=some o)->Q none { s with heap:=h' }):wpAny (model prog w) A (pyNext (.ref z)) Q E s:=by
 obtain ⟨z0,ti,⟨a,b,c,to⟩,p1,p2,p3,q1,q2,q3⟩:=st;rcases z0 with ⟨e,_⟩ | ⟨a',oa,f,hz,ha,h1,h2⟩
 ·exact absurd e hi
 have hT:s.TypeIs (.ref z) "zip" := ⟨_,hz,rfl⟩
 unfold pyNext;refine zAu (wpAny_attempt (wpAny_callSpecial?_slot (name:=Str.ofString "__next__") hT F.slot_zip_next (wpAny_call_entry F.slot_zip_next hT F.entry_zip_next (DY hh D hz ha ti p1 q1 hx fun h' e hk he=>?_) (F.args_zip_next_1 _))));obtain ⟨o,ho,hc⟩:=he;exact zAu (wpAny_isInstance (T:="StopIteration") (b:=true) ⟨o,ho,hc⟩ isSubtype_stop (zAz (hQ _ hk)))
structure Gd (xs ys zs:Array Value)(lo:Nat)(h:Heap)(as:List Nat):Prop where
 rise:as.Pairwise (· < ·)
 above:∀ a∈as,lo < a
 rows:∀ (j:Nat) (a:Nat),as[j]?=some a->∃ x y v,xs[j]?=some x/\ys[j]?=some y/\zs[j]?=some v/\fV h a x y v
end
section
variable {prog:Program}{w:World}{A:Around}{s:Shared}{R:Result->Shared->Prop}{l1 l2 l3 i1 i2 i3 TI TO z:Nat}{xs ys zs:Array Value}{n:Nat}
theorem loop {S:Nat}(hh:A.handled=none)(D:Apart l1 l2 l3 i1 i2 i3 TI TO z)(qk:z < S)(nx:xs.size=n)(ny:ys.size=n)(nz:zs.size=n)(n0:0 < n)(hn:n<=sizeLine)(res:Value){h₁:Heap}
  (hR:∀ h' tk acc c as,(∀ b o,b≠S->b≠z->b≠TO->b≠i1->b≠i2->b≠i3->h₁.get? b=some o->h'.get? b=some o)->h'.get? S=some { cls:=.type "list",dict:=none,data:=.seq acc c,slots:=#[] }->as.length=n->Gd xs ys zs S h' as ->
   acc.toList=as.map Value.ref->R (.ok (.ret res)) { s with heap:=h',toks:=tk }) :
  ∀ (k i:Nat) (h:Heap) (tk c:Nat) (acc:Array Value) (as:List Nat),n - i=k->i<=n->St l1 l2 l3 i1 i2 i3 TI TO z xs ys zs S i h->(∀ b o,b≠S->b≠z->b≠TO->b≠i1->b≠i2->b≠i3->h₁.get? b=some o->h.get? b=some o) ->
   h.get? S=some { cls:=.type "list",dict:=none,data:=.seq acc c,slots:=#[] }->acc.toList=as.map Value.ref->as.length=i->Gd xs ys zs S h as ->
   codeAny (model prog w) A (.builtin "list.extend.loop" ⟨[.ref S,.ref z,res],[]⟩) R { s with heap:=h,toks:=tk }:=by
 obtain ⟨a1,a2,a3,b1,b2,b3,b4,b5⟩:=id D;intro k
 induction k with
 | zero =>
  intro i h tk c acc as hk hi st kg hS cv qo hG;refine codeAny_builtin PySem.F.entry_extend_loop ?_;rw [Around.under_plainId PySem.F.plain_extend_loop _];show wpAny _ A.in1 (pyNext (.ref z) >>= _) _ _ _;refine zAu (done (s:={ s with heap:=h,toks:=tk }) (A:=A.in1) hh D st (by lia) (Array.getElem?_eq_none (by lia)) fun h' he=>?_);refine zAz (hR h' tk acc c as (fun b o n1 n2 n3 n4 n5 n6 e=>he b o n2 n4 (kg b o n1 n2 n3 n4 n5 n6 e)) (he S _ (nn (by lia)) (nn (by lia)) hS) (by lia) ⟨hG.rise,hG.above,fun j a hj=>?_⟩ cv);obtain ⟨x,y,v,e1,e2,e3,e4⟩:=hG.rows j a hj;have:=hG.above a (zB6 hj);exact ⟨x,y,v,e1,e2,e3,he a _ (nn (by lia)) (nn (by lia)) e4⟩
 | succ k ih =>
  intro i h tk c acc as hk hi st kg hS cv qo hG;have ax:i < n:=by lia
  obtain ⟨x,hx⟩:∃ x,xs[i]?=some x:=⟨xs[i],Array.getElem?_eq_getElem (by lia)⟩
  obtain ⟨y,hy⟩:∃ x,ys[i]?=some x:=⟨ys[i],Array.getElem?_eq_getElem (by lia)⟩
  obtain ⟨v,hv⟩:∃ x,zs[i]?=some x:=⟨zs[i],Array.getElem?_eq_getElem (by lia)⟩
  have hsz:acc.size=i:=by rw [<- zA9,cv,zA1,qo]
  have Ij:S < h.objs.size:=Heap.lt_size hS;refine codeAny_builtin PySem.F.entry_extend_loop ?_;rw [Around.under_plainId PySem.F.plain_extend_loop _];show wpAny _ A.in1 (pyNext (.ref z) >>= _) _ _ _;refine wpAny_bind (item (s:={ s with heap:=h,toks:=tk }) D st Ij hx hy hv fun h' st' ht hz AR=>?_);dsimp only at ht hz AR ⊢;have sQ:=AR S _ (nn (by lia)) (nn (by lia)) (nn (by lia)) (nn (by lia)) (nn (by lia)) hS;have up:∀ b o,b≠S->h'.get? b=some o->(h'.update S (Obj.mapSeq (·.push (Value.ref h.objs.size)))).get? b=some o:=fun b o hb e=>(Heap.get?_update_other _ _ (Ne.symm hb)).trans e;show wpAny _ A.in1 (updateSeq S (·.push (Value.ref h.objs.size)) >>= _) _ _ _;refine wpAny_bind ?_
  refine wpAny_updateSeq sQ rfl (zAz ⟨plainId_quiet PySem.F.plain_extend_loop _,ih (i+1) _ tk _ (acc.push (Value.ref h.objs.size)) (as++[h.objs.size]) (by lia) ax (st'.keep D qk up)
   (fun b o n1 n2 n3 n4 n5 n6 e=>up b o n1 (AR b o n2 n3 n4 n5 n6 (kg b o n1 n2 n3 n4 n5 n6 e))) (Heap.get?_update_self _ sQ rfl) (by rw [Array.toList_push,cv,zA4];rfl) (by rw [zA2,qo];rfl) ⟨?_,?_,?_⟩⟩) (by rw [hsz];lia) (by show (acc.push (Value.ref h.objs.size)).size<=sizeLine+1;rw [Array.size_push,hsz];lia)
  ·refine List.pairwise_append.mpr ⟨hG.rise,List.pairwise_singleton _ _,fun a ha b hb=>?_⟩;rw [List.mem_singleton.mp hb];obtain ⟨j,hj⟩:=List.mem_iff_getElem?.mp ha;obtain ⟨_,_,_,_,_,_,e⟩:=hG.rows j a hj;exact zB0 e
  ·intro a ha;rcases zA6.mp ha with ha | ha
   ·exact hG.above a ha
   ·rw [List.mem_singleton.mp ha];exact Ij
  ·intro j b hj;rcases Nat.lt_trichotomy j as.length with h1 | h1 | h1
   ·rw [zBb h1] at hj;obtain ⟨x',y',v',e1,e2,e3,e4⟩:=hG.rows j b hj;have hb:=hG.above b (zB6 hj);exact ⟨x',y',v',e1,e2,e3,up b _ (nn (by lia)) (AR b _ (nn (by lia)) (nn (by lia)) (nn (by lia)) (nn (by lia)) (nn (by lia)) e4)⟩
   ·subst h1;have hb:h.objs.size=b:=by simpa using hj
    subst hb;exact ⟨x,y,v,by rw [qo];exact hx,by rw [qo];exact hy,by rw [qo];exact hv,up _ _ (nn (by lia)) ht⟩
   ·have xw:(as++[h.objs.size])[j]?=none:=List.getElem?_eq_none (by rw [zA2,List.length_singleton];lia);rw [xw] at hj;cases hj
end
end L2.Z3
namespace L2
open PySem PyProof.Rows HT
theorem tM:bootBuiltins "list" = some (.type "list"):=by decide +kernel
section
variable {X:Cx}
end
end L2
namespace L2.Z3
open PySem PySem.Spec PyProof.Rows PySem.Calls
abbrev g1 (h:Heap)(l:Addr):Heap:=h.push { cls:=.type "list_iterator",data:=.fields #[.ref l,.int 0 0] }
abbrev g3 (h:Heap)(l1 l2 l3:Addr):Heap:=g1 (g1 (g1 h l1) l2) l3
abbrev g4 (h:Heap)(l1 l2 l3:Addr):Heap:=(g3 h l1 l2 l3).push { cls:=.type "tuple",data:=.seq #[.ref h.objs.size,.ref (g1 h l1).objs.size,.ref (g1 (g1 h l1) l2).objs.size] }
abbrev g5 (h:Heap)(l1 l2 l3:Addr):Heap:=(g4 h l1 l2 l3).push { cls:=.type "tuple",data:=.seq #[.none,.none,.none] }
abbrev g6 (h:Heap)(l1 l2 l3:Addr):Heap:=(g5 h l1 l2 l3).push { cls:=.type "zip",data:=.fields #[.none,.bool false,.bool false,.ref (g3 h l1 l2 l3).objs.size,.ref (g4 h l1 l2 l3).objs.size] }
theorem Ea (l1 l2 l3:Addr)(xs ys zs:Array Value) :
  Meets (Builtin.«zip.__new__» ⟨[.type "zip",.ref l1,.ref l2,.ref l3],[]⟩) (fun _ R s=>s.heap.IsList l1 xs/\s.heap.IsList l2 ys/\s.heap.IsList l3 zs/\R (.ok (.ret (.ref (g5 s.heap l1 l2 l3).objs.size))) { s with heap:=g6 s.heap l1 l2 l3 }) :=
 .of_wp fun prog w A R s h=>by
  obtain ⟨hp,g,d,tk,os⟩:=s;obtain ⟨cw,fF,xy,h⟩:=h;have vT:=sub_zip;have DO:Heap.IsList (Shared.heap ⟨hp,g,d,tk,os⟩) l1 xs:=cw;have KI:Heap.IsList (Shared.heap ⟨g1 hp l1,g,d,tk,os⟩) l2 ys:=Heap.IsList.push fF _;have KJ:Heap.IsList (Shared.heap ⟨g1 (g1 hp l1) l2,g,d,tk,os⟩) l3 zs:=Heap.IsList.push (Heap.IsList.push xy _) _
  wp_walk using wpAny_pyIter_list DO,wpAny_pyIter_list KI,wpAny_pyIter_list KJ
  exact ⟨_,rfl,h⟩
section
variable {prog:Program}{w:World}{A:Around}{E:Value->Shared->Prop}{s:Shared}
theorem G8 {l1 l2 l3:Nat}{xs ys zs:Array Value}{Q:Value->Shared->Prop}(cw:s.heap.IsList l1 xs)(fF:s.heap.IsList l2 ys)(xy:s.heap.IsList l3 zs)
  (h:∀ h',Apart l1 l2 l3 s.heap.objs.size (s.heap.objs.size+1) (s.heap.objs.size+2) (s.heap.objs.size+3) (s.heap.objs.size+4) (s.heap.objs.size+5)->(∀ S,s.heap.objs.size+5 < S->St l1 l2 l3 s.heap.objs.size (s.heap.objs.size+1) (s.heap.objs.size+2) (s.heap.objs.size+3) (s.heap.objs.size+4) (s.heap.objs.size+5) xs ys zs S 0 h') ->
   h'.objs.size=s.heap.objs.size+6->(∀ c o,s.heap.get? c=some o->h'.get? c=some o)->Q (.ref (s.heap.objs.size+5)) { s with heap:=h' }) :
  wpAny (model prog w) A (call (.type "zip") [.ref l1,.ref l2,.ref l3]) Q E s:=by
 refine callType_new F.called_zip (by decide) (tc3 _ _ _) (nc3 _ _ _) (fun obj=>oi4 obj _ _ _) F.entry_zip_new (Ea l1 l2 l3 xs ys zs) ⟨cw,fF,xy,?_⟩
 have lt:∀ {l:Addr} {zs:Array Value},s.heap.IsList l zs->l < s.heap.objs.size:=fun h=>by obtain ⟨_,e,_⟩:=h;exact zB0 e
 have z1:(g1 s.heap l1).objs.size=s.heap.objs.size+1:=Heap.size_push ..;have z2:(g1 (g1 s.heap l1) l2).objs.size=s.heap.objs.size+2:=by rw [Heap.size_push,z1]
 have z3:(g3 s.heap l1 l2 l3).objs.size=s.heap.objs.size+3:=by rw [Heap.size_push,z2]
 have z4:(g4 s.heap l1 l2 l3).objs.size=s.heap.objs.size+4:=by rw [Heap.size_push,z3]
 have z5:(g5 s.heap l1 l2 l3).objs.size=s.heap.objs.size+5:=by rw [Heap.size_push,z4]
 have z6:(g6 s.heap l1 l2 l3).objs.size=s.heap.objs.size+6:=by rw [Heap.size_push,z5]
 have e6:(g6 s.heap l1 l2 l3).get? (g5 s.heap l1 l2 l3).objs.size=some _:=zB1 _ rfl;have e5:(g6 s.heap l1 l2 l3).get? (g4 s.heap l1 l2 l3).objs.size=some _:=zAx _ (zB1 _ rfl);have e4:(g6 s.heap l1 l2 l3).get? (g3 s.heap l1 l2 l3).objs.size=some _:=zAx _ (zAx _ (zB1 _ rfl));have k3:∀ b o,(g3 s.heap l1 l2 l3).get? b=some o->(g6 s.heap l1 l2 l3).get? b=some o:=fun b o e=>zAx _ (zAx _ (zAx _ e));have e3:(g6 s.heap l1 l2 l3).get? (g1 (g1 s.heap l1) l2).objs.size=some _:=k3 _ _ (zB1 _ rfl);have e2:(g6 s.heap l1 l2 l3).get? (g1 s.heap l1).objs.size=some _:=k3 _ _ (zAx _ (zB1 _ rfl));have e1:(g6 s.heap l1 l2 l3).get? s.heap.objs.size=some _:=k3 _ _ (zAx _ (zAx _ (zB1 _ rfl)));have kp:∀ c o,s.heap.get? c=some o->(g6 s.heap l1 l2 l3).get? c=some o:=fun c o x=>k3 _ _ (zAx _ (zAx _ (zAx _ x)));show _/\_;rw [z3,z4,z5] at e6;rw [z4] at e5;rw [z1,z2,z3] at e4;rw [z2] at e3;rw [z1] at e2;rw [z5];have n1:l1 < s.heap.objs.size:=lt cw;have n2:l2 < s.heap.objs.size:=lt fF;have n3:l3 < s.heap.objs.size:=lt xy;exact ⟨⟨_,e6,rfl⟩,h _ ⟨n1,n2,n3,by lia,by lia,by lia,by lia,by lia⟩ (fun S _=>⟨.inl ⟨rfl,e6⟩,e4,⟨_,_,_,e5⟩,⟨_,e1,rfl,rfl⟩,⟨_,e2,rfl,rfl⟩,⟨_,e3,rfl,rfl⟩,cw.at fun o e=>kp _ o e,fF.at fun o e=>kp _ o e,xy.at fun o e=>kp _ o e⟩) z6 kp⟩
end
section
variable {prog:Program}{w:World}{A:Around}{s:Shared}{l1 l2 l3 i1 i2 i3 TI TO z:Nat}{xs ys zs:Array Value}{n:Nat}
theorem ext {R:Result->Shared->Prop}{S:Nat}(hh:A.handled=none)(D:Apart l1 l2 l3 i1 i2 i3 TI TO z)(qk:z < S)(nx:xs.size=n)(ny:ys.size=n)(nz:zs.size=n)(n0:0 < n)(hn:n<=sizeLine)(res:Value)(c₀:Nat)
  (st:St l1 l2 l3 i1 i2 i3 TI TO z xs ys zs S 0 s.heap) (hS:s.heap.get? S=some { cls:=.type "list",data:=.seq #[] c₀ })
  (hR:∀ h' tk acc c as,(∀ b o,b≠S->b≠z->b≠TO->b≠i1->b≠i2->b≠i3->s.heap.get? b=some o->h'.get? b=some o)->h'.get? S=some { cls:=.type "list",dict:=none,data:=.seq acc c,slots:=#[] }->as.length=n->Gd xs ys zs S h' as ->
   acc.toList=as.map Value.ref->R (.ok (.ret res)) { s with heap:=h',toks:=tk }) :
  wpAny (model prog w) A.in1 (Builtin.List.listExtendWith (.ref S) (.ref z) res)
   (fun fin s'=>match fin with | .done f=>R (.ok f) s' | .again c'=>c'.quiet=true/\codeAny (model prog w) A c' R s') (fun e s'=>R (.error e) s') s:=by
 have hz:IsZ s.heap z TI TO .none (.bool false)\/∃ a f,IsZ s.heap z TI TO (rawInt a) (.bool f):=by
  rcases st.z0 with ⟨_,e⟩ | ⟨a,_,f,e,_⟩
  ·exact .inl e
  ·exact .inr ⟨a,f,e⟩
 have hT:s.TypeIs (.ref z) "zip" := by
  rcases hz with e | ⟨_,_,e⟩ <;> exact ⟨_,e,rfl⟩
 unfold Builtin.List.listExtendWith;refine zAu (wpAny_typeOf hT ?_)
 have h1:Builtin.List.listSameRef (.ref S) (.ref z)=false:=by
  have:(S:Addr)≠z:=nn (by lia);simp [Builtin.List.listSameRef,this]
 have h2:(Value.type "zip" == Value.type "list")=false:=by decide
 have h3:(Value.type "zip" == Value.type "tuple")=false:=by decide
 simp only [h1,h2,h3,Bool.or_false,Bool.false_eq_true,if_false]
 have hit:∀ {Q:Value->Shared->Prop} {E:Value->Shared->Prop},Q (.ref z) s->wpAny (model prog w) A.in1 (pyIter (.ref z)) Q E s:=fun {Q E} q=>by
  refine wpAny_pyIter_slot hT F.slot_zip_iter (wpAny_call_entry F.slot_zip_iter hT F.entry_zip_iter ?_ (F.args_zip_iter_1 _));show wpAny _ _ (ret (.ref z)) _ _ s;exact zAz ⟨_,rfl,"zip",_,hT,F.slot_zip_next.lookup,q⟩
 refine zAu (hit ?_);refine zAu (wpAny_holding ?_);unfold Builtin.List.listLengthHint;refine zAu (wpAny_specialOf hT DR ?_);show wpAny _ A.in1 (specialOf (Value.ref z) (Str.ofString "__length_hint__") >>= _) _ _ _;refine zAu (wpAny_specialOf hT Az ?_);refine zAz ?_;show wpAny _ A.in1 (rule "list.extend.makes-room" >>= fun _=>Builtin.List.listTouch (.ref S) >>= fun _=>again (.builtin "list.extend.loop" ⟨[.ref S,.ref z,res],[]⟩)) _ _ _;refine zAu (wpAny_rule ?_);refine zAu ?_;show wpAny _ A.in1 (updateSeq S (·.push .none) >>= fun _=>updateSeq S (·.pop)) _ _ _;refine zAu (wpAny_updateSeq hS rfl ?_);have gL:=Heap.get?_update_self (Obj.mapSeq (·.push Value.none)) hS rfl;refine wpAny_updateSeq (hz:=by seq_fits) gL rfl ?_;have xA:=Heap.get?_update_self (Obj.mapSeq (·.pop)) gL rfl
 have xB:∀ b o,b≠S->s.heap.get? b=some o->((s.heap.update S (Obj.mapSeq (·.push Value.none))).update S (Obj.mapSeq (·.pop))).get? b=some o :=
  fun b o hb e=>(Heap.get?_update_other _ _ (Ne.symm hb)).trans ((Heap.get?_update_other _ _ (Ne.symm hb)).trans e)
 exact wpAny_pure ⟨plainId_quiet F.plain_extend_loop _,loop (s:=s) (h₁:=s.heap) hh D qk nx ny nz n0 hn res hR n 0 _ s.toks _ #[] [] (Nat.sub_zero _) (Nat.zero_le _) (st.keep D qk xB) (fun b o n1 _ _ _ _ _ e=>xB b o n1 e) xA rfl rfl ⟨List.Pairwise.nil,(fun _ ha=>nomatch ha),(fun j a hj=>by simp at hj)⟩⟩
theorem init {R:Result->Shared->Prop}{S:Nat}(hh:A.handled=none)(D:Apart l1 l2 l3 i1 i2 i3 TI TO z)(qk:z < S)(nx:xs.size=n)(ny:ys.size=n)(nz:zs.size=n)(n0:0 < n)(hn:n<=sizeLine)
  (st:St l1 l2 l3 i1 i2 i3 TI TO z xs ys zs S 0 s.heap) (hS:s.heap.get? S=some { cls:=.type "list",data:=.seq #[] })
  (hR:∀ h' tk acc c as,(∀ b o,b≠S->b≠z->b≠TO->b≠i1->b≠i2->b≠i3->s.heap.get? b=some o->h'.get? b=some o)->h'.get? S=some { cls:=.type "list",dict:=none,data:=.seq acc c,slots:=#[] }->as.length=n->Gd xs ys zs S h' as ->
   acc.toList=as.map Value.ref->R (.ok (.ret .none)) { s with heap:=h',toks:=tk }) :
  wpAny (model prog w) A.in1 (Builtin.«list.__init__» ⟨[.ref S,.ref z],[]⟩)
   (fun fin s'=>match fin with | .done f=>R (.ok f) s' | .again c'=>c'.quiet=true/\codeAny (model prog w) A c' R s') (fun e s'=>R (.error e) s') s:=by
 show wpAny _ A.in1 (do let old <- Builtin.List.listItems (.ref S);Builtin.List.listUpdate (.ref S) (fun _=>#[]);letGo old.toList.reverse;Builtin.List.listExtendWith (.ref S) (.ref z) .none) _ _ s;refine zAu ?_;unfold Builtin.List.listItems;refine zAu (wpAny_seqItems hS rfl (zAz ?_));show wpAny _ A.in1 (updateSeq S (fun _=>#[]) >>= fun _=>letGo (#[]:Array Value).toList.reverse >>= fun _=>Builtin.List.listExtendWith (.ref S) (.ref z) .none) _ _ s;refine zAu (wpAny_updateSeq hS rfl ?_);have gL:=Heap.get?_update_self (Obj.mapSeq (fun _=>(#[]:Array Value))) hS rfl;have xB:∀ b o,b≠S->s.heap.get? b=some o->(s.heap.update S (Obj.mapSeq (fun _=>(#[]:Array Value)))).get? b=some o:=fun b o hb e=>(Heap.get?_update_other _ _ (Ne.symm hb)).trans e;refine zAu (wpAny_letGo ?_);refine ext hh D qk nx ny nz n0 hn .none _ (st.keep D qk xB) gL fun h' tk acc c as hk sQ hl hG cv=>?_;exact hR h' tk acc c as (fun b o n1 n2 n3 n4 n5 n6 e=>hk b o n1 n2 n3 n4 n5 n6 (xB b o n1 e)) sQ hl hG cv
theorem G9 {E:Value->Shared->Prop}{Q:Value->Shared->Prop}(hh:A.handled=none)(D:Apart l1 l2 l3 i1 i2 i3 TI TO z)(nx:xs.size=n)(ny:ys.size=n)(nz:zs.size=n)(n0:0 < n)(hn:n<=sizeLine)(zl:z < s.heap.objs.size)
  (st:∀ S,z < S->St l1 l2 l3 i1 i2 i3 TI TO z xs ys zs S 0 s.heap)
  (hQ:∀ h' tk acc c as,(∀ b o,b≠z->b≠TO->b≠i1->b≠i2->b≠i3->s.heap.get? b=some o->h'.get? b=some o)->h'.get? s.heap.objs.size=some { cls:=.type "list",dict:=none,data:=.seq acc c,slots:=#[] }->as.length=n->Gd xs ys zs s.heap.objs.size h' as ->
   acc.toList=as.map Value.ref->Q (.ref s.heap.objs.size) { s with heap:=h',toks:=tk }) :
  wpAny (model prog w) A (call (.type "list") [.ref z]) Q E s:=by
 refine callType_codes (Q₁:=fun obj s₁=>obj=.ref s.heap.objs.size/\s₁={ s with heap:=s.heap.push { cls:=.type "list",data:=.seq #[] } }) PySem.F.called_list (PySem.F.typeCall_list_1 _) PySem.F.entry_list_init
  (code_list_new _ ⟨rfl,rfl⟩) fun obj s₁ h₁=>?_
 obtain ⟨rfl,rfl⟩:=h₁;have hS:(s.heap.push { cls:=.type "list",data:=.seq #[] }).get? s.heap.objs.size=some { cls:=.type "list",data:=.seq #[] }:=zB1 _ rfl;refine ⟨⟨_,hS,rfl⟩,PySem.F.args_list_init_2 _ _,init (A:=A.in1) (s:={ s with heap:=s.heap.push { cls:=.type "list",data:=.seq #[] } }) hh D zl nx ny nz n0 hn ((st _ zl).keep D zl fun b o _ e=>zAx _ e) hS (fun h' tk acc c as hk sQ hl hG cv=>?_)⟩;exact ⟨rfl,hQ h' tk acc c as (fun b o n2 n3 n4 n5 n6 e=>hk b o (zB8 (zB0 e)) n2 n3 n4 n5 n6 (zAx _ e)) sQ hl hG cv⟩
end
theorem xZ {X:Cx}{pins:List (Addr×Obj)}{σ:L2.St}{H H':Hp}{s:Shared}{h':Heap}{t':Nat}(I:Inv X pins σ H s)(k:∀ b u,s.heap.get? b=some u->h'.get? b=some u)(old:∀ b,b < s.heap.objs.size->H' b=H b)
  (new:∀ b o,s.heap.objs.size<=b->H' b=some o->ObjOk X.prog X.w H' h' b o):Inv X pins σ H' { s with heap:=h',toks:=t' }:=by
 have ol:∀ {b:Addr} {o:HO},H b=some o->H' b=some o:=fun e=>by rw [old _ (I.hok.lt e)];exact e
 refine I.un ⟨fun b o q _ _ _=>k b o q,fun b o q _ _ _=>⟨o.slots,k b o q⟩,fun b o q n _=>by rw [old _ (Heap.lt_size q)];exact n,fun b o q _=>⟨o,k b o q⟩,fun b xs q=>ol q,fun b o u q=>ol q,fun b ps q=>⟨#[],by rw [ol q];simp⟩⟩ fun b o e=>?_;by_cases hb:b < s.heap.objs.size
 ·rw [old _ hb] at e;exact (I.hok b o e).stay (fun c v _ q=>k c v q) (fun c q=>ol q) fun c xs q=>ol q
 ·exact new b o (Nat.le_of_not_lt hb) e
def wy (xs ys zs:List V)(j:Nat):List V:=[xs.getD j .non,ys.getD j .non,zs.getD j .non]
def tLZ (K:PySem.W.Frag)(ta:TA):TE:=fun σ H Q=>ta σ H fun vs H1=>∃ a b c xs ys zs,vs=[.ref a,.ref b,.ref c]/\SqL K H1 a xs/\SqL K H1 b ys/\SqL K H1 c zs/\ys.length=xs.length/\zs.length=xs.length/\0 < xs.length /\
 ∀ (l:Addr) (as:List Addr) (H':Hp),Same H1 H'->H1 l=none->l≠sysModules->H' l=some (.lst (as.map V.ref))->as.length=xs.length->(∀ j a,as[j]?=some a->H' a=some (.tup (wy xs ys zs j)))->Q (.ref l) H'
theorem wz:bootBuiltins "zip" = some (.type "zip"):=by decide +kernel
theorem vals3:∀ {a b c:V} {us:List Value},Vals [a,b,c] us->∃ u v w,us=[u,v,w]/\RelV a u/\RelV b v/\RelV c w:=fun h=>by
 cases h with
 | cons r1 h =>
  cases h with
  | cons r2 h =>
   cases h with
   | cons r3 h =>
    cases h;exact ⟨_,_,_,rfl,r1,r2,r3⟩
theorem yc {as:List Nat}(h:as.Pairwise (· < ·)){i j:Nat}{a:Nat}(hi:as[i]?=some a)(hj:as[j]?=some a):i=j:=by
 have nd:as.Nodup:=h.imp fun {x y} z=>zB8 z;obtain ⟨h1,e1⟩:=zAa.mp hi;obtain ⟨h2,e2⟩:=zAa.mp hj;exact (List.getElem_inj nd).mp (e1.trans e2.symm)
section
variable {X:Cx}
open Classical in
theorem pe_lzip3 {a b c:Expr}{ta:TA}{p p2 p3 pos:Pos}(hd:X.A.handled=none)(KL:Gl X "list")(KN:X.mg "list" = none)(hg:Gl X "zip")(hm:X.mg "zip" = none)(ha:PA X [a,b,c] ta)
  (hs:starEach [a,b,c] X.env=[(false,eval a X.env),(false,eval b X.env),(false,eval c X.env)]:=by rfl) (mh:starEach [b,c] X.env=[(false,eval b X.env),(false,eval c X.env)]:=by rfl)
  (he:starEach [(.Call (.Name "zip" p2) [a,b,c] [] p3)] X.env=[(false,eval (.Call (.Name "zip" p2) [a,b,c] [] p3) X.env)]:=by rfl):PE X (.Call (.Name "list" p) [.Call (.Name "zip" p2) [a,b,c] [] p3] [] pos) (tLZ X.K ta):=by
 intro pins s σ H Q I h;refine wpAny_Call_Name_kw (fG I KL KN tM ?_ (by decide) (by decide));refine PyProof.Rows.callWith_type1 ?_ he rfl;rw [he];refine Calls.spliced_cons ?_;refine Call_ (fG I hg hm wz (PyProof.Rows.callWith_type1 (thn (ha p3 pins s σ H _ I h) fun us s1 ⟨vs,H1,I1,r1,q1⟩=>?_) (by rw [hs,mh]) (by rw [mh];rfl)));obtain ⟨x,y,z,xs,ys,zs,e,hx,hy,hz,ly,lz,l0,q⟩:=q1;subst e;obtain ⟨u1,u2,u3,rfl,KO,KP,KQ⟩:=vals3 r1;cases KO;cases KP;cases KQ;obtain ⟨PJ,v1,KR,z1⟩:=I1.list hx;obtain ⟨PL,v2,KS,z2⟩:=I1.list hy;obtain ⟨PM,v3,KU,z3⟩:=I1.list hz;have n1:=v1.length;have n2:=v2.length;have n3:=v3.length;refine G8 (l1:=x) (l2:=y) (l3:=z) KR.isList KS.isList KU.isList fun g D st gs kp=>?_;refine Calls.spliced_nil ?_;refine G9 (s:={ s1 with heap:=g }) (n:=xs.length) hd D (by rw [zA8];lia) (by rw [zA8];lia) (by rw [zA8];lia) l0 z1 (by show _ < g.objs.size;lia) (fun S hS=>st S hS) fun h' tk acc cc as DI at' hl hG cv=>?_;have KW:(Shared.heap { s1 with heap:=g }).objs.size=s1.heap.objs.size+6:=gs
 have KY:∀ b o,s1.heap.get? b=some o->h'.get? b=some o:=fun b o e=>by
  obtain ⟨b',rfl⟩:∃ b':Nat,b'=b:=⟨b,rfl⟩
  have hb:@LT.lt Nat instLTNat b' s1.heap.objs.size:=zB0 e;exact DI b' o (nn (by lia)) (nn (by lia)) (nn (by lia)) (nn (by lia)) (nn (by lia)) (kp b' o e)
 have big:@LT.lt Nat instLTNat sysModules s1.heap.objs.size:=I1.big
 obtain ⟨Lz,Ik⟩:∃ Lz:Nat,Lz=(Shared.heap { s1 with heap:=g }).objs.size:=⟨_,rfl⟩
 rw [<- Ik] at at' hG KW;show EP X pins σ Q (.ref (Shared.heap { s1 with heap:=g }).objs.size) _;rw [<- Ik]
 let H':Hp:=fun b=>if b=Lz then some (.lst (as.map V.ref)) else if hj:∃ j:Nat,as[j]?=some b then some (.tup (wy xs ys zs hj.choose)) else H1 b
 have fI:∀ {j a:Nat},as[j]?=some a->@LT.lt Nat instLTNat Lz a:=fun {j a} e=>hG.above a (zB6 e);have eL:H' Lz=some (.lst (as.map V.ref)):=zAw rfl
 have eT:∀ j a,as[j]?=some a->H' a=some (.tup (wy xs ys zs j)):=fun j a e=>by
  have hj:∃ j:Nat,as[j]?=some a:=⟨j,e⟩
  have n:¬ (a=Lz):=Nat.ne_of_gt (fI e);show (if a=Lz then _ else if hj:∃ j:Nat,as[j]?=some a then some (HO.tup (wy xs ys zs hj.choose)) else H1 a)=_;rw [zAv n,dif_pos hj,yc hG.rise hj.choose_spec e]
 have old:∀ b,b < s1.heap.objs.size->H' b=H1 b:=fun b hb=>by
  obtain ⟨b',rfl⟩:∃ b':Nat,b'=b:=⟨b,rfl⟩
  have hb:@LT.lt Nat instLTNat b' s1.heap.objs.size:=hb;show (if b'=Lz then _ else if hj:∃ j:Nat,as[j]?=some b' then some (HO.tup (wy xs ys zs hj.choose)) else H1 b')=_;rw [zAv (by lia),dif_neg fun ⟨j,e⟩=>by have:=fI e;lia]
 have fresh:∀ b:Nat,@LE.le Nat instLENat s1.heap.objs.size b->H1 b=none:=fun b hb=>I1.hok.fresh hb
 have vr:∀ l:List Nat,Vals (l.map V.ref) (l.map Value.ref):=fun l=>by
  induction l with
  | nil=>exact .nil
  | cons x l ih=>exact .cons rfl ih
 have get:∀ {ws:List V} {its:List Value} (v:Vals ws its) {j:Nat} {u:Value},its.toArray[j]?=some u->RelV (ws.getD j .non) u:=fun {ws its} v {j u} e=>by
  have e':its[j]?=some u:=by simpa using e
  have hj:j < ws.length:=by rw [v.length];exact (zAa.mp e').1
  obtain ⟨u',e1,r⟩:=v.get (zA0 hj);rw [e'] at e1;cases e1;rw [zA7,zA0 hj];exact r
 refine ⟨.ref Lz,H',(show Inv X pins σ H' { s1 with heap:=h',toks:=tk } from xZ I1 KY old fun b o hb e=>?_),rfl,q Lz as H' (fun b o e=>by rw [old b (I1.hok.lt e)];exact e) (fresh _ (by lia)) (nn (by lia)) eL hl eT⟩
 obtain ⟨b',rfl⟩:∃ b':Nat,b'=b:=⟨b,rfl⟩
 by_cases h1:b'=Lz
 ·subst h1;rw [eL] at e;cases e;refine ⟨by rw [zA1,hl];exact z1,as.map Value.ref,cc,vr as,?_⟩;rw [<- cv];simpa using at'
 ·by_cases h2:∃ j:Nat,as[j]?=some b'
  ·obtain ⟨j,hj⟩:=h2;rw [eT j b' hj] at e;cases e;obtain ⟨u,v,w',e1,e2,e3,e4⟩:=hG.rows j b' hj;exact ⟨(by show 3<=sizeLine;decide),[u,v,w'],.cons (get v1 e1) (.cons (get v2 e2) (.cons (get v3 e3) .nil)),_,e4,rfl,⟨_,rfl⟩⟩
  ·exfalso
   have:H' b'=H1 b':=by
    show (if b'=Lz then _ else if hj:∃ j:Nat,as[j]?=some b' then some (HO.tup (wy xs ys zs hj.choose)) else H1 b')=_;rw [zAv h1,dif_neg h2]
   rw [this,fresh b' hb] at e;cases e
end
end L2.Z3
namespace L2
open PySem PyProof.Rows HT
section
variable {X:Cx}{tg:Expr}
inductive TFrzSI (t:TS)(D:Ends)(σ:St)(H:Hp):Prop
 | mk:∀ d kvs,(H d=some (.dT kvs))->(∀ o,t { D with nx:=fun af H'=>H' d=some (.frz o (.dT kvs))/\D.nx af (upd H' d (.dT kvs)),bk:=fun _ _=>False,ct:=fun _ _=>False,rt:=fun _ _=>False } σ (upd H d (.frz o (.dT kvs))))->TFrzSI t D σ H
def Ga (t:TS):TS:=fun D σ H=>TFrzSI t D σ H
theorem yd {e:Stmt}{t:TS}(h:PS X e t):PS X e (Ga t):=by
 intro pins s σ H D I hq;obtain ⟨d,kvs,ed,hq⟩:=hq
 obtain ⟨hz,hs,xs,kt,o,es,ep,g1,g⟩:=(show ObjOk X.prog X.w H s.heap d (.dT kvs) from I.hok _ _ ed)
 have nt:∀ {b:Addr} {u:HO},H b=some u->u≠.dT kvs->b≠d:=fun {b u} e n z=>by
  rw [z,ed] at e;exact n (zAl e).symm
 have I1:Inv X pins σ (upd H d (.frz o (.dT kvs))) { s with heap:=s.heap,toks:=s.toks }:=by
  refine I.un ⟨fun b ob q _ _ _=>q,fun b ob q _ _ _=>⟨ob.slots,q⟩,fun b ob q n _=>?_,fun b ob q _=>⟨ob,q⟩,fun b xs q=>?_,fun b ob u q=>?_,fun b ps q=>⟨#[],?_⟩⟩ fun b u e=>?_
  ·rw [aC fun z=>by rw [z,ed] at n;cases n];exact n
  ·rw [aC (nt q fun z=>by cases z)];exact q
  ·rw [aC (nt q fun z=>by cases z)];exact q
  ·rw [aC (nt q fun z=>by cases z),q];simp
  ·have fz:∀ c xs,H c=some (.tup xs)->upd H d (.frz o (.dT kvs)) c=some (.tup xs):=fun c xs q=>by
    rw [aC (nt q fun z=>by cases z)];exact q
   by_cases hb:b=d
   ·subst hb;rw [aa] at e;cases e;exact ⟨g1,(show ObjOk X.prog X.w H s.heap b (.dT kvs) from I.hok _ _ ed).stay (fun _ _ _ q=>q) (fun c q=>by rw [aC (nt q fun z=>by cases z)];exact q) fz⟩
   ·rw [aC hb] at e;exact (I.hok b u e).stay (fun _ _ _ q=>q) (fun c q=>by rw [aC (nt q fun z=>by cases z)];exact q) fz
 refine thn (h pins s σ _ _ I1 (hq o)) fun fl s1 AS=>?_
 cases fl with
 | brk=>obtain ⟨_,_,_,z⟩:=AS;exact z.elim
 | cont=>obtain ⟨_,_,_,z⟩:=AS;exact z.elim
 | ret u=>obtain ⟨_,_,_,_,_,z⟩:=AS;exact z.elim
 | next =>
 obtain ⟨BU,H1,J,e1,q1⟩:=AS
 have AU:∀ {b:Addr} {u:HO},H1 b=some u->u≠.frz o (.dT kvs)->b≠d:=fun {b u} e n z=>by
  rw [z,e1] at e;exact n (zAl e).symm
 have fr:∀ b,H1 b=none->upd H1 d (.dT kvs) b=none:=fun b n=>by
  rw [aC fun z=>by rw [z,e1] at n;cases n];exact n
 refine ⟨BU,upd H1 d (.dT kvs),⟨J.ok,J.os,J.bare,⟨J.base.keep,J.base.slot,fun b ob q n hx=>fr b (J.base.free b ob q n hx),J.base.there,fun b xs q=>?_,fun b ob u q=>?_,fun b ps q=>?_⟩,J.loc,J.cell,fr _ J.free,fun y c e=>fr _ (J.freeC y c e),fun p hp=>?_,fun b u e=>?_,J.len⟩,q1⟩
 ·have:=J.base.tups b xs q;rw [aC (AU this fun z=>by cases z)];exact this
 ·have h0:=I.base.frzs b ob u q;have:=J.base.frzs b ob u q;rw [aC (nt h0 fun z=>by cases z)];exact this
 ·obtain ⟨m,e⟩:=J.base.tbls b ps q;exact ⟨m,by rw [aC (AU e fun z=>by cases z)];exact e⟩
 ·obtain ⟨a,n,c⟩:=J.pin p hp;exact ⟨a,fr _ n,c⟩
 ·have fz:∀ c xs,H1 c=some (.tup xs)->upd H1 d (.dT kvs) c=some (.tup xs):=fun c xs q=>by
   rw [aC (AU q fun z=>by cases z)];exact q
  have nh:∀ a c,H1 c=some (.own a)->upd H1 d (.dT kvs) c=some (.own a):=fun a c q=>by
   rw [aC (AU q fun z=>by cases z)];exact q
  by_cases hb:b=d
  ·subst hb;rw [aa] at e;cases e;exact ObjOk.stay (show ObjOk X.prog X.w H1 s1.heap b (.dT kvs) from (show ObjOk X.prog X.w H1 s1.heap b (.frz o (.dT kvs)) from J.hok _ _ e1).2) (fun _ _ _ q=>q) (nh b) fz
  ·rw [aC hb] at e;exact (J.hok b u e).stay (fun _ _ _ q=>q) (nh b) fz
end
open PySem PySem.Spec PyProof.Rows PySem.SeqAt
theorem ye {X:Cx}{S:Addr->Prop}(hu:X.A.units+64 < cLine):OpR X (compareOp .NotEq) (fun x y H Q=>∃ d,IsTh S H x d/\IsTh S H y d/\shaped d=true/\noMix d d=true/\Q (.bl false) H):=by
 intro pins s σ H x y v u Q I rx ry h;obtain ⟨d,t1,t2,sh,nm,q⟩:=h;obtain ⟨as,r1,_⟩:=t1.reads I rx;obtain ⟨bs,r2,_⟩:=t2.reads I ry;refine ne_dataH_same r1 r2 sh sh hu nm ⟨.bl false,H,I,?_,q⟩;rw [Spec.same_self];rfl
end L2
namespace K90
open PySem L2
def top (i:Nat):Stmt:=PySem.Challenge.pw_woolyears_k90_whole_due_given_and_owed.main.body.getD i (.Pass ⟨0,0,0,0⟩)
def cV (d:PyData):Bool:=pQ d && !pR d
def items:PyData->List PyData
 | .tuple ds=>ds
 | _=>[]
def intOf:PyData->Int
 | .int i=>i
 | _=>0
def bu (d:PyData)(f m:Int):Bool:=pU d && (decide (f<=(items d).length) && decide (((items d).length:Int)<=m))
def bw (d:PyData)(n:Int):Bool:=bu d n n && (items d).all cV
def ou (d:PyData):Bool:=bw d 3 && (items d).all fun x=>decide (0<=intOf x) && decide (intOf x<=999)
def gU (d:PyData):Bool:=bu d 1 20 && (items d).all ou
def at_ (d:PyData)(i:Nat):Int:=intOf ((items d).getD i .none)
def qg (a b c d e f:Int):Bool :=
 (decide (0<=a) && decide (a < 8)) && ((decide (0<=b) && decide (b < 3)) && ((decide (0<=c) && (decide (c<=d) && decide (d<=19))) && ((decide (1<=e) && decide (e<=99)) && (decide (0<=f) && decide (f<=1000000)))))
def jh (d:PyData):Bool:=bw d 6 && qg (at_ d 0) (at_ d 1) (at_ d 2) (at_ d 3) (at_ d 4) (at_ d 5)
def dR (d:PyData):Bool:=bu d 0 10 && (items d).all jh
theorem nd1 (x:Str):([x]:List Str).Nodup:=by simp
theorem yf (d:PyData):1<=sz d:=by cases d <;> simp [sz]
theorem qi:∀ (ds:List PyData),ds.length<=szs ds
 | []=>zAp _
 | d::ds=>by
  have:=qi ds;have:=yf d;simp only [List.length_cons,szs];lia
theorem qj:∀ {ds:List PyData} {d:PyData},d∈ds->sz d<=szs ds
 | x::ds,d,h=>by
  simp only [szs];rcases zAo.mp h with e | e
  ·rw [e];lia
  ·have:=qj e;lia
theorem ji {ds:List PyData}{d:PyData}(h:d∈ds)(hz:sz (.tuple ds)<=4000):sz d<=4000:=by
 have:=qj h;simp only [sz] at hz;lia
theorem eZ {S:Addr->Prop}{H:Hp}{xs:List V}{ds:List PyData}(r:IsThs S H xs ds)(hz:sz (.tuple ds)<=4000):xs.length < sizeLine:=by
 have:=qi ds;have:=r.length;simp only [sz] at hz;rw [sizeLine_eq];lia
def spT (f:PyData->Bool):Sp:=fun vs H Q _=>∃ S v d,vs=[v]/\IsTh S H v d/\sz d<=4000/\∀ H',Same H H'->Q (.bl (f d)) H'
inductive SpT1I (f:PyData->Int->Bool)(vs:List V)(H:Hp)(Q:VK):Prop
 | mk:∀ S v d n,(vs=[v,.int n])->(IsTh S H v d)->(sz d<=4000)->(∀ H',Same H H'->Q (.bl (f d n)) H')->SpT1I f vs H Q
def Bb (f:PyData->Int->Bool):Sp:=fun vs H Q _=>SpT1I f vs H Q
def jO (f:PyData->Int->Int->Bool):Sp:=fun vs H Q _=>∃ S v d n m,vs=[v,.int n,.int m]/\IsTh S H v d/\sz d<=4000/\∀ H',Same H H'->Q (.bl (f d n m)) H'
structure Mg (mg:Str->Option Value):Prop where
 isinstance:mg "isinstance" = none
 int:mg "int" = none
 bool:mg "bool" = none
 tuple:mg "tuple" = none
 len:mg "len" = none
 all:mg "all" = none
theorem boot_int:bootBuiltins "int" = some (.type "int"):=by decide +kernel
theorem boot_bool:bootBuiltins "bool" = some (.type "bool"):=by decide +kernel
theorem boot_tuple:bootBuiltins "tuple" = some (.type "tuple"):=by decide +kernel
theorem boot_isinstance:bootBuiltins "isinstance" = some (.builtin "isinstance"):=by decide +kernel
theorem boot_all:bootBuiltins "all" = some (.builtin "all"):=by decide +kernel
theorem cX {K:PySem.W.Frag}{S:Addr->Prop}{te:TE}{src:List (Option Nat)}{i j:Nat}{σ:St}{H:Hp}{Q:VK}{a:Addr}{xs:List V}{ds:List PyData}(f:PyData->Bool)(mN:σ[i]?=some (some (.ref a)))(ea:H a=some (.tup xs))(r:IsThs S H xs ds)(hl:xs.length < sizeLine)
  (vS:∀ v d H1 Q1,d∈ds->Same H H1->IsTh S H1 v d->(∀ H',Same H1 H'->Q1 (.bl (f d)) H')->te ((capσ σ src).set j (some v)) H1 Q1) (q:∀ H',Same H H'->Q (.bl (ds.all f)) H') :
  tCB (fun xs H Q=>∃ (p:Addr) (bs:List Bool),xs=[.ref p]/\SqL K H p (bs.map V.bl)/\Q (.bl (bs.all id)) H) (qM (xF (Ex K (zP i)) src (bF j) vL te) Dj) σ H Q:=by
 refine ⟨_,mN,a,rfl,⟨xs,SqT.of ea⟩,rA (j:=j) f ea r hl vS fun H2 s2 D hD=>⟨D,ds.map f,rfl,?_,?_⟩⟩
 ·rw [<- xJ];exact SqL.of aa
 ·rw [DG];exact q _ (s2.updR hD)
structure Nums (mg:Str->Option Value):Prop where
 sorts:∃ t,mg "SORTS" = some (.int 3 t)
 holders:∃ t,mg "HOLDERS" = some (.int 8 t)
 year:∃ t,mg "LAST_YEAR" = some (.int 19 t)
 clips:∃ t,mg "MOST_CLIPS" = some (.int 20 t)
 proms:∃ t,mg "MOST_PROMISES" = some (.int 10 t)
 wool:∃ t,mg "MOST_WOOL" = some (.int 999 t)
 sacks:∃ t,mg "MOST_SACKS" = some (.int 99 t)
 price:∃ t,mg "MOST_PRICE" = some (.int 1000000 t)
theorem jA {d:PyData}{n:Int}(h:bw d n=true):bu d n n=true/\∀ x∈items d,cV x=true:=by
 unfold bw at h;rw [zAc] at h;exact ⟨h.1,List.all_eq_true.mp h.2⟩
theorem jB {S:Addr->Prop}{H:Hp}{v:V}{d:PyData}(h:IsTh S H v d)(e:cV d=true):∃ i,v=.int i/\d=.int i:=by
 cases h with
 | int i=>exact ⟨i,rfl,rfl⟩
 | _=>cases e
theorem jj {α:Type}{n:Nat}{l:List α}(h:l.length=n+1):∃ a t,l=a::t/\t.length=n:=by
 cases l with
 | nil=>cases h
 | cons a t=>exact ⟨a,t,rfl,Nat.succ.inj h⟩
theorem Gb {α:Type}{l:List α}(h:l.length=5):∃ a b c d e,l=[a,b,c,d,e]:=by
 obtain ⟨a,l1,e1,h1⟩:=jj h;obtain ⟨b,l2,e2,h2⟩:=jj h1;obtain ⟨c,l3,e3,h3⟩:=jj h2;obtain ⟨d,l4,e4,h4⟩:=jj h3;obtain ⟨e,l5,e5,h5⟩:=jj h4;exact ⟨a,b,c,d,e,by rw [e1,e2,e3,e4,e5,List.length_eq_zero_iff.mp h5]⟩
theorem Ge {α:Type}{l:List α}(h:l.length=6):∃ a b c d e f,l=[a,b,c,d,e,f]:=by
 obtain ⟨a,l1,e1,h1⟩:=jj h;obtain ⟨b,c,d,e,f,e2⟩:=Gb h1;exact ⟨a,b,c,d,e,f,by rw [e1,e2]⟩
theorem fW {S:Addr->Prop}{H:Hp}{xs:List V}{d:PyData}{ds:List PyData}(r:IsThs S H xs (d::ds))(e:cV d=true):∃ i t,xs=.int i::t/\d=.int i/\IsThs S H t ds:=by
 cases r with
 | cons h1 r =>
  obtain ⟨i,rfl,rfl⟩:=jB h1 e;exact ⟨i,_,rfl,rfl,r⟩
theorem lJ {S:Addr->Prop}{H:Hp}{xs:List V}{d:PyData}{ds:List PyData}(r:IsThs S H xs (d::ds)):∃ v t,xs=v::t/\IsTh S H v d/\IsThs S H t ds:=by
 cases r with
 | cons h1 r=>exact ⟨_,_,rfl,h1,r⟩
theorem wA {S:Addr->Prop}{H:Hp}{xs:List V}{ds:List PyData}(r:IsThs S H xs ds)(hl:ds.length=3):∃ v0 v1 v2 d0 d1 d2,xs=[v0,v1,v2]/\ds=[d0,d1,d2]/\IsTh S H v0 d0/\IsTh S H v1 d1/\IsTh S H v2 d2:=by
 obtain ⟨d0,l1,e1,h1⟩:=jj hl;obtain ⟨d1,l2,e2,h2⟩:=jj h1;obtain ⟨d2,l3,e3,h3⟩:=jj h2;have e:ds=[d0,d1,d2]:=by rw [e1,e2,e3,List.length_eq_zero_iff.mp h3]
 subst e;obtain ⟨v0,t0,f0,i0,r0⟩:=lJ r;obtain ⟨v1,t1,f1,i1,r1⟩:=lJ r0;obtain ⟨v2,t2,f2,i2,r2⟩:=lJ r1;cases r2;exact ⟨v0,v1,v2,d0,d1,d2,by rw [f0,f1,f2],rfl,i0,i1,i2⟩
theorem yg {S:Addr->Prop}{H:Hp}{xs:List V}{ds:List PyData}(r:IsThs S H xs ds)(hl:ds.length=6)(hw:∀ x∈ds,cV x=true) :
  ∃ i1 i2 i3 i4 i5 i6:Int,xs=[.int i1,.int i2,.int i3,.int i4,.int i5,.int i6]/\ds=[.int i1,.int i2,.int i3,.int i4,.int i5,.int i6]:=by
 obtain ⟨d1,d2,d3,d4,d5,d6,rfl⟩:=Ge hl;obtain ⟨i1,t1,e1,rfl,r1⟩:=fW r (hw _ (by simp));obtain ⟨i2,t2,e2,rfl,r2⟩:=fW r1 (hw _ (by simp));obtain ⟨i3,t3,e3,rfl,r3⟩:=fW r2 (hw _ (by simp));obtain ⟨i4,t4,e4,rfl,r4⟩:=fW r3 (hw _ (by simp));obtain ⟨i5,t5,e5,rfl,r5⟩:=fW r4 (hw _ (by simp));obtain ⟨i6,t6,e6,rfl,r6⟩:=fW r5 (hw _ (by simp));cases r6;exact ⟨i1,i2,i3,i4,i5,i6,by rw [e1,e2,e3,e4,e5,e6],rfl⟩
theorem wB {ds:List PyData}{n m:Int}(h:bu (.tuple ds) n m=true):n<=(ds.length:Int)/\(ds.length:Int)<=m:=by
 have h:(true && (decide (n<=(ds.length:Int)) && decide ((ds.length:Int)<=m)))=true:=h;rw [Bool.true_and,zAc] at h;exact ⟨zB3 h.1,zB3 h.2⟩
def Cal (P:Program)(w:World)(K:PySem.W.Frag)(mg:Str->Option Value)(base:Heap)(k:Nat)(x:Str)(ps:List Str)(sp:Sp):Prop :=
 ∃ f fd,FnOk P w K mg base CX0 k f fd ps sp/\mg x=some (.ref f)/\PySem.W.keepIn K (.ref f)=true/\Binds K fd ps []
theorem aH {X:Cx}{k j:Nat}{x:Str}{ps:List Str}{sp:Sp}{p pos:Pos}{e:Expr}{es:List Expr}{t:TA}(c:Cal X.prog X.w X.K X.mg X.base j x ps sp)(hr:Room k X.A)(ha:PA X (e::es) t)(KZ:j<=k:=by decide)(hg:Gl X x:=by exact rfl)
  (oB:(x == ("__debug__" : Str))=false:=by decide) (he:starEach (e::es) X.env=(false,eval e X.env)::starEach es X.env:=by rfl) (mn:(backTo pos (starEach es X.env)).any (·.1)=false:=by rfl) :
  PE X (.Call (.Name x p) (e::es) [] pos) (BZ sp [] E0 t):=by
 obtain ⟨f,fd,F,hm,hk,hb⟩:=c;exact zW F (hr.mono KZ) hg hm hk hb .nil Fo ha oB he mn
variable {P:Program}{w:World}{K:PySem.W.Frag}{mg:Str->Option Value}{base:Heap}{f:Addr}{fd:FuncData}
theorem sc1:FnScope ["thing"] ["thing"] (aJ (top 9)):=fS
theorem rK (F:Fun K "is_whole" "is_whole" (top 9) f fd)(T:Mg mg):FnOk P w K mg base CX0 1 f fd ["thing"] (spT cV):=by
 refine F.ok sc1 (fun vs H Q E h=>?_) (fun ai A outer s H vs Q E hr h=>?_)
 ·obtain ⟨S,v,d,rfl,_⟩:=h;rfl
 ·obtain ⟨S,v,d,rfl,th,hz,q⟩:=h
  refine ⟨_,aG (aQ (cz (aO gK rfl T.isinstance boot_isinstance (aP (pv 0) (aP (ph rfl T.int boot_int (v:=.ty "int") rfl) ao)))
   (dO (Dc (aO gK rfl T.isinstance boot_isinstance (aP (pv 0) (aP (ph rfl T.bool boot_bool (v:=.ty "bool") rfl) ao))))))),?_⟩
  refine ⟨_,rfl,v,_,"int",pQ d,rfl,th.ty,Aj d,_,rfl,?_⟩;have fin:=q H (Same.refl H);unfold cV at fin
  cases e:pQ d with
  | false =>
   rw [e] at fin;exact bD fin
  | true =>
   rw [e] at fin;exact bO ⟨_,rfl,v,_,"bool",pR d,rfl,th.ty,xH d,_,rfl,fin⟩
theorem sc2:FnScope ["thing","fewest","most"] ["thing","fewest","most"] (aJ (top 11)):=fS
theorem lK (F:Fun K "is_tuple_of" "is_tuple_of" (top 11) f fd)(T:Mg mg):FnOk P w K mg base CX0 1 f fd ["thing","fewest","most"] (jO bu):=by
 refine F.ok sc2 (fun vs H Q E h=>?_) (fun ai A outer s H vs Q E hr h=>?_)
 ·obtain ⟨S,v,d,n,m,rfl,_⟩:=h;rfl
 ·obtain ⟨S,v,d,n,m,rfl,th,hz,q⟩:=h
  refine ⟨_,aG (aQ (cz (aO gK rfl T.isinstance boot_isinstance (aP (pv 0) (aP (ph rfl T.tuple boot_tuple (v:=.ty "tuple") rfl) ao)))
   (dO (cP cj cj (pv 1) (aO bR rfl T.len PySem.boot_len (aP (pv 0) ao)) (pv 2))))),?_⟩
  refine ⟨_,rfl,v,_,"tuple",pU d,rfl,th.ty,Ak d,_,rfl,?_⟩;have fin:=q H (Same.refl H);unfold bu at fin
  cases e:pU d with
  | false =>
   rw [e] at fin;exact bD fin
  | true =>
   rw [e] at fin;refine bO ?_
   cases th with
   | @tup a xs ds ea r =>
    have hl:=r.length;refine ⟨_,rfl,_,rfl,a,xs,rfl,.inr (SqT.of ea),_,_,rfl,rfl,_,rfl,?_⟩;rw [hl];have fin:Q (.bl (true && (decide (n<=(ds.length:Int)) && decide ((ds.length:Int)<=m)))) H:=fin
    cases e1:decide (n<=(ds.length:Int)) with
    | false =>
     rw [e1] at fin;exact bD fin
    | true =>
     rw [e1] at fin;exact bO ⟨_,rfl,_,_,rfl,rfl,fin⟩
   | _=>cases e
theorem sc3:FnScope ["thing","many"] ["thing","many"] (aJ (top 12)):=fS
theorem mY (F:Fun K "are_wholes" "are_wholes" (top 12) f fd)(T:Mg mg)(c1:Cal P w K mg base 1 "is_whole" ["thing"] (spT cV))(c2:Cal P w K mg base 1 "is_tuple_of" ["thing","fewest","most"] (jO bu)) :
  FnOk P w K mg base CX0 2 f fd ["thing","many"] (Bb bw):=by
 refine F.ok sc3 (fun vs H Q E h=>?_) (fun ai A outer s H vs Q E hr h=>?_)
 ·obtain ⟨S,v,d,n,rfl,_⟩:=h;rfl
 ·obtain ⟨S,v,d,n,rfl,th,hz,q⟩:=h
  refine ⟨_,aG (aQ (cz (aH c2 hr (aP (pv 0) (aP (pv 1) (aP (pv 1) ao))))
   (dO (aO (eV rfl) rfl T.all boot_all (aP (bH ["part"] [none] rfl (fZ (pv 0))
    (fun C fp pins s₂ H₂=>⟨aY (i:=0) (nd1 _) rfl (Or.inl rfl),bL,aH c1 hr (aP (pv 0) ao)⟩) (fun C=>trivial) ⟨rfl,rfl,rfl,rfl⟩) ao))))),?_⟩
  refine ⟨_,rfl,_,rfl,_,rfl,S,v,d,n,n,rfl,th,hz,fun H1 s1=>⟨_,rfl,?_⟩⟩;have eM:=th.same s1
  cases e:bu d n n with
  | false =>
   refine bD ?_;have fin:=q H1 s1;unfold bw at fin;rw [e] at fin;exact fin
  | true =>
   refine bO ?_
   cases eM with
   | @tup a xs ds ea r =>
    have ew:bw (.tuple ds) n=ds.all cV:=by unfold bw;rw [e];rfl
    refine cX cV rfl ea r (eZ r hz) (fun v d H2 Q2 hm s2 t2 q2=>⟨_,rfl,S,v,d,rfl,t2,ji hm hz,q2⟩) fun H2 s2=>?_;rw [<- ew];exact q _ (s1.trans s2)
   | _=>cases e
theorem sc13:FnScope ["thing"] ["thing"] (aJ (top 23)):=fS
theorem tO (F:Fun K "is_clip" "is_clip" (top 23) f fd)(T:Mg mg)(N:Nums mg)(c1:Cal P w K mg base 2 "are_wholes" ["thing","many"] (Bb bw)) :
  FnOk P w K mg base CX0 3 f fd ["thing"] (spT ou):=by
 refine F.ok sc13 (fun vs H Q E h=>?_) (fun ai A outer s H vs Q E hr h=>?_)
 ·obtain ⟨S,v,d,rfl,_⟩:=h;rfl
 ·obtain ⟨S,v,d,rfl,th,hz,q⟩:=h;obtain ⟨t3,e3⟩:=N.sorts;obtain ⟨t9,e9⟩:=N.wool
  refine ⟨_,aG (aQ (cz (aH c1 hr (aP (pv 0) (aP (bK (v:=.int 3) rfl e3 ⟨_,rfl⟩) ao)))
   (dO (aO (eV rfl) rfl T.all boot_all (aP (bH ["sacks"] [none] rfl (fZ (pv 0))
    (fun C fp pins s₂ H₂=>⟨aY (i:=0) (nd1 _) rfl (Or.inl rfl),bL,cP cj cj aB (pv 0) (bK (v:=.int 999) rfl e9 ⟨_,rfl⟩)⟩) (fun C=>trivial) ⟨rfl,rfl,rfl,rfl⟩) ao))))),?_⟩
  refine ⟨_,rfl,S,v,d,3,rfl,th,hz,fun H1 s1=>⟨_,rfl,?_⟩⟩;have eM:=th.same s1;have fin:=fun H' (s:Same H H')=>q H' s;unfold ou at fin
  cases e:bw d 3 with
  | false =>
   rw [e] at fin;exact bD (fin _ s1)
  | true =>
   rw [e] at fin;refine bO ?_;obtain ⟨e1,e2⟩:=jA e
   cases eM with
   | @tup a xs ds ea r =>
    refine cX (fun x=>decide (0<=intOf x) && decide (intOf x<=999)) rfl ea r (eZ r hz) (fun v d H2 Q2 hm s2 t2 q2=>?_) fun H2 s2=>fin _ (s1.trans s2);obtain ⟨i,rfl,rfl⟩:=jB t2 (e2 d hm);refine ⟨_,rfl,_,_,rfl,rfl,_,rfl,?_⟩;have q3:=q2 H2 (Same.refl _);show if decide ((0:Int)<=i)=true then _ else _
    cases e5:decide ((0:Int)<=i) with
    | false =>
     refine bD ?_;have q3:Q2 (.bl (decide ((0:Int)<=i) && decide (i<=999))) H2:=q3;rw [e5] at q3;exact q3
    | true =>
     refine bO ⟨_,_,rfl,rfl,?_⟩;have q3:Q2 (.bl (decide ((0:Int)<=i) && decide (i<=999))) H2:=q3;rw [e5] at q3;exact q3
   | _=>cases e1
theorem sc14:FnScope ["thing"] ["thing"] (aJ (top 24)):=fS
theorem ql (F:Fun K "are_clips" "are_clips" (top 24) f fd)(T:Mg mg)(N:Nums mg)(c1:Cal P w K mg base 3 "is_clip" ["thing"] (spT ou))(c2:Cal P w K mg base 1 "is_tuple_of" ["thing","fewest","most"] (jO bu)) :
  FnOk P w K mg base CX0 4 f fd ["thing"] (spT gU):=by
 refine F.ok sc14 (fun vs H Q E h=>?_) (fun ai A outer s H vs Q E hr h=>?_)
 ·obtain ⟨S,v,d,rfl,_⟩:=h;rfl
 ·obtain ⟨S,v,d,rfl,th,hz,q⟩:=h;obtain ⟨t3,e3⟩:=N.clips
  refine ⟨_,aG (aQ (cz (aH c2 hr (aP (pv 0) (aP aB (aP (bK (v:=.int 20) rfl e3 ⟨_,rfl⟩) ao))))
   (dO (aO (eV rfl) rfl T.all boot_all (aP (bH ["part"] [none] rfl (fZ (pv 0))
    (fun C fp pins s₂ H₂=>⟨aY (i:=0) (nd1 _) rfl (Or.inl rfl),bL,aH c1 hr (aP (pv 0) ao)⟩) (fun C=>trivial) ⟨rfl,rfl,rfl,rfl⟩) ao))))),?_⟩
  refine ⟨_,rfl,S,v,d,1,20,rfl,th,hz,fun H1 s1=>⟨_,rfl,?_⟩⟩;have eM:=th.same s1;have fin:=fun H' (s:Same H H')=>q H' s;unfold gU at fin
  cases e:bu d 1 20 with
  | false =>
   rw [e] at fin;exact bD (fin _ s1)
  | true =>
   rw [e] at fin;refine bO ?_
   cases eM with
   | @tup a xs ds ea r=>exact cX ou rfl ea r (eZ r hz) (fun v d H2 Q2 hm s2 t2 q2=>⟨_,rfl,S,v,d,rfl,t2,ji hm hz,q2⟩) fun H2 s2=>fin _ (s1.trans s2)
   | _=>cases e
theorem sc15:FnScope ["thing","holder","sort","first","last","sacks","price"] ["thing"] (aJ (top 25)):=fS
theorem mZ (F:Fun K "is_promise" "is_promise" (top 25) f fd)(T:Mg mg)(N:Nums mg)(c1:Cal P w K mg base 2 "are_wholes" ["thing","many"] (Bb bw)) :
  FnOk P w K mg base CX0 3 f fd ["thing"] (spT jh):=by
 refine F.ok sc15 (fun vs H Q E h=>?_) (fun ai A outer s H vs Q E hr h=>?_)
 ·obtain ⟨S,v,d,rfl,_⟩:=h;rfl
 ·obtain ⟨S,v,d,rfl,th,hz,q⟩:=h;obtain ⟨t1,e1⟩:=N.holders;obtain ⟨t2,e2⟩:=N.sorts;obtain ⟨t3,e3⟩:=N.year;obtain ⟨t4,e4⟩:=N.sacks;obtain ⟨t5,e5⟩:=N.price
  refine ⟨_,aA (cB (dq (eQ (aH c1 hr (aP (pv 0) (aP aB ao))))) (aG (aQ gG)) bh)
   (aA (bN (pv 0) (bz rfl (aj (pgn 1 sc15.nd) (aj (pgn 2 sc15.nd) (aj (pgn 3 sc15.nd)
    (aj (pgn 4 sc15.nd) (aj (pgn 5 sc15.nd) (aj (pgn 6 sc15.nd) aR))))))))
   (aG (aQ (cz (cP cj iU aB (pv 1) (bK (v:=.int 8) rfl e1 ⟨_,rfl⟩)) (cz (cP cj iU aB (pv 2) (bK (v:=.int 3) rfl e2 ⟨_,rfl⟩))
    (cz (vQ cj cj cj aB (pv 3) (pv 4) (bK (v:=.int 19) rfl e3 ⟨_,rfl⟩)) (cz (cP cj cj aB (pv 5) (bK (v:=.int 99) rfl e4 ⟨_,rfl⟩))
     (dO (cP cj cj aB (pv 6) (bK (v:=.int 1000000) rfl e5 ⟨_,rfl⟩)))))))))),?_⟩
  refine ⟨_,rfl,S,v,d,6,rfl,th,hz,fun H1 s1=>⟨_,rfl,?_⟩⟩;have eM:=th.same s1;have fin:=fun H' (s:Same H H')=>q H' s;unfold jh at fin
  cases e:bw d 6 with
  | false =>
   rw [e] at fin;exact bO (fin _ s1)
  | true =>
   rw [e] at fin;refine bD ?_;obtain ⟨z1,z2⟩:=jA e
   cases eM with
   | @tup a xs ds ea r =>
    have hl:ds.length=6:=by
     have:=wB z1;lia
    obtain ⟨i1,i2,i3,i4,i5,i6,rfl,rfl⟩:=yg r hl z2;refine ⟨_,rfl,a,_,rfl,SqT.of ea,rfl,_,_,rfl,_,_,rfl,_,_,rfl,_,_,rfl,_,_,rfl,_,_,rfl,rfl,?_⟩;refine gM (cG gh (fj rfl) gh) (fun _=>gM (cG gh (fj rfl) gh) fun _=>gM (vR gh (fj rfl) (fj rfl) gh) fun _=>gM (cG gh (fj rfl) gh) fun _=>cG gh (fj rfl) gh) _ ?_;exact fin H1 s1
   | _=>cases z1
theorem Ht:FnScope ["thing"] ["thing"] (aJ (top 26)):=fS
theorem jP (F:Fun K "are_promises" "are_promises" (top 26) f fd)(T:Mg mg)(N:Nums mg)(c1:Cal P w K mg base 3 "is_promise" ["thing"] (spT jh))(c2:Cal P w K mg base 1 "is_tuple_of" ["thing","fewest","most"] (jO bu)) :
  FnOk P w K mg base CX0 4 f fd ["thing"] (spT dR):=by
 refine F.ok Ht (fun vs H Q E h=>?_) (fun ai A outer s H vs Q E hr h=>?_)
 ·obtain ⟨S,v,d,rfl,_⟩:=h;rfl
 ·obtain ⟨S,v,d,rfl,th,hz,q⟩:=h;obtain ⟨t3,e3⟩:=N.proms
  refine ⟨_,aG (aQ (cz (aH c2 hr (aP (pv 0) (aP aB (aP (bK (v:=.int 10) rfl e3 ⟨_,rfl⟩) ao))))
   (dO (aO (eV rfl) rfl T.all boot_all (aP (bH ["part"] [none] rfl (fZ (pv 0))
    (fun C fp pins s₂ H₂=>⟨aY (i:=0) (nd1 _) rfl (Or.inl rfl),bL,aH c1 hr (aP (pv 0) ao)⟩) (fun C=>trivial) ⟨rfl,rfl,rfl,rfl⟩) ao))))),?_⟩
  refine ⟨_,rfl,S,v,d,0,10,rfl,th,hz,fun H1 s1=>⟨_,rfl,?_⟩⟩;have eM:=th.same s1;have fin:=fun H' (s:Same H H')=>q H' s;unfold dR at fin
  cases e:bu d 0 10 with
  | false =>
   rw [e] at fin;exact bD (fin _ s1)
  | true =>
   rw [e] at fin;refine bO ?_
   cases eM with
   | @tup a xs ds ea r=>exact cX jh rfl ea r (eZ r hz) (fun v d H2 Q2 hm s2 t2 q2=>⟨_,rfl,S,v,d,rfl,t2,ji hm hz,q2⟩) fun H2 s2=>fin _ (s1.trans s2)
   | _=>cases e
def ni (d:PyData)(lo hi:Int):Bool:=cV d && (decide (lo<=intOf d) && decide (intOf d<=hi))
theorem lM {X:Cx}{K:PySem.W.Frag}(hK:X.K=K):IxR X (Fi K):=by
 subst hK;exact bB
theorem boot_min:bootBuiltins "min" = some (.builtin "min"):=by decide +kernel
theorem room_un {A:Around}{k:Nat}(hr:Room k A):A.units < cLine:=by
 have:=hr.un;lia
def rowD (r:List Int):PyData:=.tuple (r.map .int)
def bT (rs:List (List Int)):PyData:=.tuple (rs.map rowD)
def fl (r:List Int)(i:Nat):Int:=r.getD i 0
def okP (r:List Int):Prop:=r.length=6/\(0<=fl r 0/\fl r 0 < 8)/\(0<=fl r 1/\fl r 1 < 3)/\(0<=fl r 2/\fl r 2<=fl r 3/\fl r 3<=19)/\(1<=fl r 4/\fl r 4<=99)/\(0<=fl r 5/\fl r 5<=1000000)
def dU (d:PyData):Bool:=bu d 0 12 && (items d).all fun x=>bw x 5
def rowsOf (d:PyData):List (List Int):=(items d).map fun x=>(items x).map intOf
theorem yh:∀ {ds:List PyData},(∀ x∈ds,cV x=true)->ds=(ds.map intOf).map PyData.int
 | [],_=>rfl
 | d::ds,h=>by
  rw [zAk,zAk,<- yh fun x hx=>h x (List.mem_cons_of_mem _ hx)];have:=h d List.mem_cons_self
  cases d with
  | int i=>rfl
  | _=>cases this
theorem iQ {x:PyData}{n:Nat}(h:bw x n=true):x=rowD ((items x).map intOf)/\((items x).map intOf).length=n:=by
 obtain ⟨h1,h2⟩:=jA h;unfold bu at h1;rw [zAc,zAc,decide_eq_true_eq,decide_eq_true_eq] at h1;obtain ⟨ht,cw,fF⟩:=h1
 cases x with
 | tuple ds =>
  have cw:(n:Int)<=ds.length:=cw;have fF:(ds.length:Int)<=n:=fF;refine ⟨?_,by show (ds.map intOf).length=n;rw [zA1];lia⟩;exact congrArg PyData.tuple (yh h2)
 | _=>cases ht
theorem uP {ds:List PyData}{n:Nat}(h:∀ x∈ds,bw x n=true):ds=(ds.map fun x=>(items x).map intOf).map rowD:=by
 induction ds with
 | nil=>rfl
 | cons d ds ih =>
  rw [zAk,zAk,<- ih fun x hx=>h x (List.mem_cons_of_mem _ hx),<- (iQ (h d List.mem_cons_self)).1]
theorem jC {d:PyData}{f m:Int}(h:bu d f m=true):∃ ds,d=.tuple ds/\f<=ds.length/\(ds.length:Int)<=m:=by
 unfold bu at h;rw [zAc,zAc,decide_eq_true_eq,decide_eq_true_eq] at h
 cases d with
 | tuple ds=>exact ⟨ds,rfl,h.2⟩
 | _=>cases h.1
theorem oA (r:List Int)(i:Nat)(h:i < r.length):at_ (rowD r) i=fl r i:=by
 show intOf ((r.map PyData.int).getD i .none)=r.getD i 0;rw [zA7,zA7,zAb,zA0 h];rfl
theorem tQ {d:PyData}(h:dR d=true):d=bT (rowsOf d)/\(rowsOf d).length<=10/\∀ r∈rowsOf d,okP r:=by
 unfold dR at h;rw [zAc] at h;obtain ⟨ds,rfl,_,hl⟩:=jC h.1;have h2:∀ x∈ds,jh x=true:=List.all_eq_true.mp h.2
 have h3:∀ x∈ds,bw x 6=true:=fun x hx=>by
  have:=h2 x hx;unfold jh at this;rw [zAc] at this;exact this.1
 refine ⟨congrArg PyData.tuple (uP (n:=6) h3),by show (ds.map _).length<=10;rw [zA1];lia,fun r hr=>?_⟩;obtain ⟨x,hx,rfl⟩:=zA5.mp hr;have hx:x∈ds:=hx;obtain ⟨e,K0⟩:=iQ (n:=6) (h3 x hx);have:=h2 x hx;unfold jh at this;rw [zAc] at this;have p:=this.2;rw [e] at p;rw [oA _ 0 (by lia),oA _ 1 (by lia),oA _ 2 (by lia),oA _ 3 (by lia),oA _ 4 (by lia),oA _ 5 (by lia)] at p;unfold qg at p;simp only [Bool.and_eq_true,decide_eq_true_eq] at p;obtain ⟨⟨a1,a2⟩,⟨b1,b2⟩,⟨c1,c2,c3⟩,⟨d1,d2⟩,e1,e2⟩:=p;exact ⟨K0,⟨a1,a2⟩,⟨b1,b2⟩,⟨c1,c2,c3⟩,⟨d1,d2⟩,e1,e2⟩
theorem tR {d:PyData}(h:dU d=true):d=bT (rowsOf d)/\(rowsOf d).length<=12/\∀ r∈rowsOf d,r.length=5:=by
 unfold dU at h;rw [zAc] at h;obtain ⟨ds,rfl,_,hl⟩:=jC h.1;have h3:∀ x∈ds,bw x 5=true:=List.all_eq_true.mp h.2;refine ⟨congrArg PyData.tuple (uP (n:=5) h3),by show (ds.map _).length<=12;rw [zA1];lia,fun r hr=>?_⟩;obtain ⟨x,hx,rfl⟩:=zA5.mp hr;exact (iQ (n:=5) (h3 x hx)).2
structure RowsAt (H:Hp)(a:Addr)(xs:List V)(rs:List (List Int)):Prop where
 e:H a=some (.tup xs)
 l:xs.length=rs.length
 g:∀ (i:Nat) (r:List Int),rs[i]?=some r->∃ t,xs[i]?=some (V.ref t)/\H t=some (.tup (r.map V.int))
theorem RowsAt.keep {H H':Hp}{a:Addr}{xs:List V}{rs:List (List Int)}(h:RowsAt H a xs rs)(k:∀ b l,H b=some (.tup l)->H' b=some (.tup l)):RowsAt H' a xs rs :=
 ⟨k _ _ h.e,h.l,fun i r e=>by
  obtain ⟨t,e1,e2⟩:=h.g i r e
  exact ⟨t,e1,k _ _ e2⟩⟩
theorem RowsAt.same {H H':Hp}{a:Addr}{xs:List V}{rs:List (List Int)}(h:RowsAt H a xs rs)(s:Same H H'):RowsAt H' a xs rs:=h.keep fun _ _ e=>s _ _ e
theorem rM {S:Addr->Prop}{H:Hp}:∀ {r:List Int} {xs:List V},IsThs S H xs (r.map .int)->xs=r.map V.int
 | [],_,.nil=>rfl
 | i::r,_,.cons h t=>by
  cases h;rw [rM (r:=r) t];rfl
theorem Eb {S:Addr->Prop}{H:Hp}{v:V}{r:List Int}(h:IsTh S H v (rowD r)):∃ t,v=V.ref t/\H t=some (.tup (r.map V.int)):=by
 generalize hd:rowD r=d at h
 cases h with
 | @tup a xs ds e t =>
  injection hd with hd;subst hd;rw [rM t] at e;exact ⟨a,rfl,e⟩
 | _=>cases hd
theorem th_rows {S:Addr->Prop}{H:Hp}{v:V}{rs:List (List Int)}(h:IsTh S H v (bT rs)):∃ a xs,v=.ref a/\RowsAt H a xs rs:=by
 generalize hd:bT rs=d at h
 cases h with
 | @tup a xs ds e t =>
  injection hd with hd;subst hd;refine ⟨a,xs,rfl,e,by rw [t.length,zA1],fun i r hr=>?_⟩;have hi:i < rs.length:=(zAa.mp hr).1;have hx:xs[i]?=some (xs[i]'(by rw [t.length,zA1];exact hi)):=zA0 _;obtain ⟨d,h1,h2⟩:=t.get hx;rw [zAb,hr] at h1;injection h1 with h1;subst h1;obtain ⟨t',e1,e2⟩:=Eb h2;exact ⟨t',by rw [hx,e1],e2⟩
 | _=>cases hd
theorem RowsAt.th {H:Hp}{a:Addr}:∀ {rs:List (List Int)} {xs:List V},RowsAt H a xs rs->IsTh (fun _=>False) H (.ref a) (bT rs):=by
 intro rs xs h;refine .tup h.e ?_
 have gen:∀ (rs:List (List Int)) (xs:List V),xs.length=rs.length->(∀ (i:Nat) (r:List Int),rs[i]?=some r->∃ t,xs[i]?=some (V.ref t)/\H t=some (.tup (r.map V.int)))->IsThs (fun _=>False) H xs (rs.map rowD):=by
  intro rs
  induction rs with
  | nil =>
   intro xs hl _;have:xs=[]:=List.length_eq_zero_iff.mp hl;subst this;exact .nil
  | cons r rs ih =>
   intro xs hl hg
   cases xs with
   | nil=>simp at hl
   | cons x xs =>
    obtain ⟨t,e1,e2⟩:=hg 0 r rfl;have e1:x=.ref t:=by simpa using e1
    subst e1;exact .cons (.tup e2 (IsThs.ints r)) (ih xs (by simpa using hl) fun i r' e=>hg (i+1) r' (by simpa using e))
 exact gen rs xs h.l h.g
def cU (L:List Int)(i:Int)(v:Int):List Int:=L.set i.toNat (L.getD i.toNat 0+v)
def hstep (n y:Int)(L:List Int)(s:List Int):List Int:=if fl s 0=n/\fl s 4<=y then cU (cU L (fl s 1) (-(fl s 3))) (fl s 2) (fl s 3) else L
def base0 (p:List Int):List Int:=(List.replicate 8 0).set (fl p 0).toNat (fl p 4)
def bI (p:List Int)(ss:List (List Int))(n y:Int):List Int:=if fl p 2<=y/\y<=fl p 3 then ss.foldl (hstep n y) (base0 p) else List.replicate 8 0
def qm (ps:List (List Int))(s:List Int):List Int:=ps.getD (fl s 0).toNat []
def rN (ps:List (List Int))(s:List Int):Bool:=(decide (0<=fl s 0) && decide (fl s 0 < ps.length)) && ((decide (0<=fl s 1) && decide (fl s 1 < 8)) && ((decide (0<=fl s 2) && decide (fl s 2 < 8)) && ((!decide (fl s 1=fl s 2)) && ((decide (1<=fl s 3) && decide (fl s 3<=99)) && (decide (fl (qm ps s) 2<=fl s 4) && decide (fl s 4<=fl (qm ps s) 3))))))
def years (a b:Int):List Int:=(List.range (b+1 - a).toNat).map fun (i:Nat)=>a+i
def bY (ps ss:List (List Int))(s:List Int):Bool:=rN ps s && (years (fl s 4) (fl (qm ps s) 3)).all fun y=>decide (fl s 3<=(bI (qm ps s) ss (fl s 0) y).getD (fl s 1).toNat 0)
def un (ps ss:List (List Int)):Option Nat:=(List.range ss.length).find? fun i=>!bY ps (ss.take i) (ss.getD i [])
theorem dM (L:List Int)(i v:Int):(cU L i v).length=L.length:=by unfold cU;rw [List.length_set]
theorem wC (n y:Int)(L s:List Int):(hstep n y L s).length=L.length:=by
 unfold hstep;split
 ·rw [dM,dM]
 ·rfl
theorem eG (p:List Int)(ss:List (List Int))(n y:Int):(bI p ss n y).length=8:=by
 unfold bI;split
 ·have:∀ (ss:List (List Int)) (L:List Int),L.length=8->(ss.foldl (hstep n y) L).length=8:=by
   intro ss
   induction ss with
   | nil=>exact fun L h=>h
   | cons s ss ih=>exact fun L h=>ih _ (by rw [wC];exact h)
  exact this ss _ (by unfold base0;rw [List.length_set,List.length_replicate])
 ·rw [List.length_replicate]
theorem fX {X:Cx}:Ew X (fun x y H Q=>∃ p xs i v,x=.ref p/\y=.int i/\SqL X.K H p xs/\0<=i/\xs[i.toNat]?=some v/\Q v H):=by
 intro pins s σ H x y v u Q I rx ry h;obtain ⟨p,xs,i,z,rfl,rfl,hq,h0,he,q⟩:=h;cases rx;obtain ⟨t,rfl⟩:=ry;obtain ⟨its,r,pl,hz⟩:=I.list hq;obtain ⟨w,ew,eI⟩:=r.get he;have hn:=jY;have hl:=r.length;have hi:=(zAa.mp he).1;exact PySem.wpAny_getItem_list pl.isList h0 (by lia) (by simpa using ew) ⟨z,H,I,eI,q⟩
theorem six_row {p:List Int}(h:p.length=6):p=[fl p 0,fl p 1,fl p 2,fl p 3,fl p 4,fl p 5]:=by
 obtain ⟨a,b,c,d,e,f,rfl⟩:=Ge h;rfl
theorem jk {p:List Int}(h:p.length=5):p=[fl p 0,fl p 1,fl p 2,fl p 3,fl p 4]:=by
 obtain ⟨a,b,c,d,e,rfl⟩:=Gb h;rfl
theorem jl (L:List Int)(i:Nat)(v:Int):(L.map V.int).set i (.int v)=(L.set i v).map V.int:=by rw [List.map_set]
theorem dw {L:List Int}{i:Nat}(h:i < L.length):(L.map V.int)[i]?=some (.int (L.getD i 0)):=by
 rw [zAb,zA0 h,zA7,zA0 h];rfl
theorem oE {n:Nat}{i:Int}(h0:0<=i)(h1:i < n):ixN n i=some i.toNat:=by
 unfold ixN;rw [zAw h0,zAw h1]
def okS (s:List Int):Prop:=s.length=5/\(0<=fl s 1/\fl s 1 < 8)/\(0<=fl s 2/\fl s 2 < 8)
inductive SpHeldI (vs:List V)(H:Hp)(Q:VK):Prop
 | mk:∀ ap xp ps ae xs ss n y,(vs=[.ref ap,.ref ae,.int n,.int y])->(RowsAt H ap xp ps)->(RowsAt H ae xs ss)->(0<=n)->(n < ps.length)->(okP (ps.getD n.toNat []))->(ss.length<=12)->((∀ s∈ss,okS s))->(∀ l H',Same H H'->H' l=some (.lst ((bI (ps.getD n.toNat []) ss n y).map V.int))->Q (.ref l) H')->SpHeldI  vs H Q
def tU:Sp:=fun vs H Q _=>SpHeldI  vs H Q
structure MS (mg:Str->Option Value):Prop where
 sales:∃ t,mg "MOST_SALES" = some (.int 12 t)
theorem Gf:FnScope ["thing"] ["thing"] (aJ (top 27)):=fS
theorem qp (F:Fun K "are_sales" "are_sales" (top 27) f fd)(T:Mg mg)(N:MS mg)(c1:Cal P w K mg base 2 "are_wholes" ["thing","many"] (Bb bw))(c2:Cal P w K mg base 1 "is_tuple_of" ["thing","fewest","most"] (jO bu)) :
  FnOk P w K mg base CX0 3 f fd ["thing"] (spT dU):=by
 refine F.ok Gf (fun vs H Q E h=>?_) (fun ai A outer s H vs Q E hr h=>?_)
 ·obtain ⟨S,v,d,rfl,_⟩:=h;rfl
 ·obtain ⟨S,v,d,rfl,th,hz,q⟩:=h;obtain ⟨t3,e3⟩:=N.sales
  refine ⟨_,aG (aQ (cz (aH c2 hr (aq (pv 0) (aq aB (aq (bK (v:=.int 12) rfl e3 ⟨_,rfl⟩) ao))))
   (dO (aO (eV rfl) rfl T.all boot_all (aq (bH ["part"] [none] rfl (fZ (pv 0))
    (fun C fp pins s₂ H₂=>⟨aY (i:=0) (nd1 _) rfl (Or.inl rfl),bL,aH c1 hr (aq (pv 0) (aq aB ao))⟩) (fun C=>trivial) ⟨rfl,rfl,rfl,rfl⟩) ao))))),?_⟩
  refine ⟨_,rfl,S,v,d,0,12,rfl,th,hz,fun H1 s1=>⟨_,rfl,?_⟩⟩;have eM:=th.same s1;have fin:=fun H' (s:Same H H')=>q H' s;unfold dU at fin
  cases e:bu d 0 12 with
  | false =>
   rw [e] at fin;exact bD (fin _ s1)
  | true =>
   rw [e] at fin;refine bO ?_
   cases eM with
   | @tup a xs ds ea r=>exact cX (fun x=>bw x 5) rfl ea r (eZ r hz) (fun v d H2 Q2 hm s2 t2 q2=>⟨_,rfl,S,v,d,5,rfl,t2,ji hm hz,q2⟩) fun H2 s2=>fin _ (s1.trans s2)
   | _=>cases e
theorem sc23s:FnScope ["promises","sales","number","year","holder","sort","first","last","sacks","price","held","promise","seller","buyer","sold","since"] ["promises","sales","number","year"] (aJ (top 28)):=fS
theorem Bc (F:Fun K "held_in" "held_in" (top 28) f fd)(N:Nums mg):FnOk P w K mg base CX0 1 f fd ["promises","sales","number","year"] tU:=by
 refine F.ok sc23s (fun vs H Q E h=>?_) (fun ai A outer s H vs Q E hr h=>?_)
 ·obtain ⟨ap,xp,ps,ae,xs,ss,n,y,rfl,_⟩:=h;rfl
 ·obtain ⟨ap,xp,ps,ae,xs,ss,n,y,rfl,rp,rs,n0,n1,okp,hl,df,q⟩:=h;obtain ⟨t1,e1⟩:=N.holders
  refine ⟨_,aA (bN (pX bW (pv 0) (pv 2)) (bz rfl (aj (pgn 4 sc23s.nd) (aj (pgn 5 sc23s.nd) (aj (pgn 6 sc23s.nd)
    (aj (pgn 7 sc23s.nd) (aj (pgn 8 sc23s.nd) (aj (pgn 9 sc23s.nd) aR))))))))
   (aA (pss 10 sc23s.nd (aV Dq (cQ (aq aB ao)) (bK (v:=.int 8) rfl e1 ⟨_,rfl⟩)))
   (aA (cB (dq (jX cj cj (pv 6) (pv 3) (pv 7))) (aG (aQ (pv 10))) bh)
   (aA (bN (pv 8) (iz (pv 10) (pv 4) set_list))
   (aA (bV zB5 rfl (fZ (pv 1)) (bz rfl (aj (pgn 11 sc23s.nd) (aj (pgn 12 sc23s.nd) (aj (pgn 13 sc23s.nd)
     (aj (pgn 14 sc23s.nd) (aj (pgn 15 sc23s.nd) aR))))))
    (aG (cB (PW.pt (sO (aZ jW (pv 11) (pv 2) (bj _)) (pq (aZ cj (pv 15) (pv 3) (bj _)))))
     (aA (jQ (pv 10) (pv 12) fX (pv 14) wZ set_list) (aG (jQ (pv 10) (pv 13) fX (pv 14) sS set_list))) bh)))
   (aG (aQ (pv 10))))))),?_⟩
  obtain ⟨p,hp⟩:∃ p,ps[n.toNat]?=some p:=⟨_,zA0 (by lia)⟩
  have ep:ps.getD n.toNat []=p:=by rw [zA7,hp];rfl
  rw [ep] at okp q;obtain ⟨t,ex,et⟩:=rp.g _ _ hp;have p6:=six_row okp.1;obtain ⟨l6,⟨a1,a2⟩,b,⟨c1,c2,c3⟩,⟨d1,d2⟩,ee⟩:=id okp
  have dv:atI xp n=some (.ref t):=by
   have:=cu ex;rw [show ((n.toNat:Nat):Int)=n by lia] at this;exact this
  rw [p6] at et;refine aF ?_;refine ⟨_,rfl,_,rfl,ap,xp,n,.ref t,rfl,rfl,SqT.of rp.e,dv,?_⟩;refine ⟨t,_,rfl,SqT.of et,rfl,_,_,rfl,_,_,rfl,_,_,rfl,_,_,rfl,_,_,rfl,_,_,rfl,rfl,?_⟩;dsimp only;refine aF (aW ?_);refine ⟨zL,fun l0 xC=>⟨l0,8,_,rfl,rfl,aa,by decide,by decide,zL,fun l1 cw=>?_⟩⟩;have s1:Same H (upd (upd H l0 (.lst [V.int 0])) l1 (.lst (List.replicate (8:Int).toNat [V.int 0]).flatten)):=(Same.upd xC).updR cw;have el1:upd (upd H l0 (.lst [V.int 0])) l1 (.lst (List.replicate (8:Int).toNat [V.int 0]).flatten) l1=some (.lst ((List.replicate 8 (0:Int)).map V.int)):=aa;have sR:H l1=none:=(Same.upd xC).free cw;generalize upd (upd H l0 (.lst [V.int 0])) l1 (.lst (List.replicate (8:Int).toNat [V.int 0]).flatten)=H1 at s1 el1 ⊢;refine aK ?_;dsimp only;refine aF ?_;refine cG (p:=fun i j=>decide (i<=j)) (q:=fun i j=>decide (i<=j)) (i:=fl p 2) (j:=y) (k:=fl p 3) (fj rfl) (fj rfl) (fj rfl) _ ⟨_,rfl,?_⟩;by_cases mP:fl p 2<=y/\y<=fl p 3
  ·rw [decide_eq_true mP.1,decide_eq_true mP.2];refine bD (du ?_);dsimp only;refine aF ?_;refine ⟨_,rfl,_,rfl,_,rfl,l1,_,fl p 0,(fl p 0).toNat,rfl,rfl,el1,oE a1 (by show fl p 0 < 8;exact a2),?_⟩;rw [jl];dsimp only;refine aF ?_;have K1:ae≠l1:=aD rs.e sR;refine ⟨_,rfl,ae,rfl,⟨xs,SqT.of (by rw [aC K1];exact s1 _ _ rs.e)⟩,?_⟩
   have DS:∀ {Hc:Hp} {o:HO},Same H Hc->Same H (upd Hc l1 o):=fun {Hc o} sm b u e=>by
    rw [aC (aD e sR)];exact sm _ _ e
   refine zR (xs:=xs) (fun i σ Hc=>∃ eW cx fe ff fg,σ=[some (.ref ap),some (.ref ae),some (.int n),some (.int y),some (.int (fl p 0)),some (.int (fl p 1)),some (.int (fl p 2)),some (.int (fl p 3)),some (.int (fl p 4)),some (.int (fl p 5)),some (.ref l1),eW,cx,fe,ff,fg]/\Same H Hc/\Hc l1=some (.lst (((ss.take i).foldl (hstep n y) (base0 p)).map V.int))) ?_ ?_ ?_ ?_
   ·exact ⟨none,none,none,none,none,rfl,DS s1,aa⟩
   ·rintro i σ Hc hi ⟨eW,cx,fe,ff,fg,rfl,sm,el⟩;exact SqT.of (sm _ _ rs.e)
   ·rintro i x σ Hc hx ⟨eW,cx,fe,ff,fg,rfl,sm,el⟩
    have hi:i < ss.length:=by
     have:=(zAa.mp hx).1;rw [rs.l] at this;exact this
    obtain ⟨tr,cy,bq⟩:=rs.g i ss[i] (zA0 hi)
    have:x=.ref tr:=by
     rw [hx] at cy;exact zAl cy
    subst this;obtain ⟨o1,⟨o2,o3⟩,o4,o5⟩:=df ss[i] (zAh hi);have s5:=jk o1;have fh:ss.take (i+1)=ss.take i++[ss[i]]:=by rw [zAj,zA0 hi];rfl
    have xE:(ss.take (i+1)).foldl (hstep n y) (base0 p)=hstep n y ((ss.take i).foldl (hstep n y) (base0 p)) ss[i]:=by rw [fh,List.foldl_append];rfl
    rw [xE];generalize hL:(ss.take i).foldl (hstep n y) (base0 p)=L at el ⊢
    have lL:L.length=8:=by
     have:=eG p (ss.take i) n y;unfold bI at this;rw [zAw mP,hL] at this;exact this
    generalize ss[i]=r at bq s5 o2 o3 o4 o5 ⊢;rw [s5] at bq;refine ⟨tr,_,rfl,SqT.of (sm _ _ bq),rfl,_,_,rfl,_,_,rfl,_,_,rfl,_,_,rfl,_,_,rfl,rfl,?_⟩;refine ⟨_,rfl,_,rfl,rfl,_,rfl,?_⟩;by_cases hn:fl r 0=n
    ·rw [zAt (show V.int (fl r 0)=V.int n by rw [hn])];refine bO ?_;refine ⟨_,rfl,_,rfl,_,_,rfl,rfl,_,rfl,?_⟩;by_cases hy:fl r 4<=y
     ·rw [zAt hy];refine bO ?_;have e1:hstep n y L r=cU (cU L (fl r 1) (-(fl r 3))) (fl r 2) (fl r 3):=zAw ⟨hn,hy⟩;rw [e1];refine aF ?_;refine ⟨_,rfl,_,rfl,l1,_,fl r 1,_,rfl,rfl,SqL.of el,o2,dw (by lia),_,rfl,_,_,rfl,rfl,l1,_,fl r 1,(fl r 1).toNat,rfl,rfl,el,oE o2 (by rw [zA1];lia),?_⟩;rw [jl]
      have e2:L.set (fl r 1).toNat (L.getD (fl r 1).toNat 0 - fl r 3)=cU L (fl r 1) (-(fl r 3)):=by
       unfold cU;rw [Int.sub_eq_add_neg]
      rw [e2];generalize DO:cU L (fl r 1) (-(fl r 3))=L1;have PN:L1.length=8:=by rw [<- DO,dM];exact lL
      refine ⟨_,rfl,_,rfl,l1,_,fl r 2,_,rfl,rfl,SqL.of aa,o4,dw (by lia),_,rfl,_,_,rfl,rfl,l1,_,fl r 2,(fl r 2).toNat,rfl,rfl,aa,oE o4 (by rw [zA1];lia),?_⟩;rw [jl];exact ⟨_,_,_,_,_,rfl,DS (DS sm),aa⟩
     ·rw [zB2 hy];refine bD ?_;have e1:hstep n y L r=L:=zAv fun z=>hy z.2;rw [e1];exact ⟨_,_,_,_,_,rfl,sm,el⟩
    ·rw [zB2 (fun z:V.int (fl r 0)=V.int n=>hn (by injection z))];refine bD (bD ?_);have e1:hstep n y L r=L:=zAv fun z=>hn z.1;rw [e1];exact ⟨_,_,_,_,_,rfl,sm,el⟩
   ·rintro σ Hc ⟨eW,cx,fe,ff,fg,rfl,sm,el⟩;rw [rs.l,zAm] at el;refine ⟨_,rfl,q _ _ sm ?_⟩;unfold bI;rw [zAw mP];exact el
  ·have hb:(decide (fl p 2<=y) && decide (y<=fl p 3))=false:=by
    cases e:(decide (fl p 2<=y) && decide (y<=fl p 3)) with
    | false=>rfl
    | true =>
     rw [zAc,decide_eq_true_eq,decide_eq_true_eq] at e;exact absurd e mP
   rw [hb];refine bO ⟨_,rfl,q _ _ s1 ?_⟩;unfold bI;rw [zAv mP];exact el1
theorem yj {te:TE}{lo:Int}{n:Nat}{eJ:St}{j:Nat}{H0:Hp}{Fin:List V->Hp->Prop}(Pv:List V->Hp->Prop)(h0:Pv [] H0)(hz:n < sizeLine)
  (step:∀ i ys H Q,i < n->ys.length=i->Pv ys H->(∀ y H',Pv (ys++[y]) H'->Q y H')->te (eJ.set j (some (.int (lo+i)))) H Q)
  (fin:∀ ys H,ys.length=n->Pv ys H->Fin ys H):kh (Itr lo n) (bF j) vL te Fin eJ H0:=by
 refine ⟨fun i m ys σ H=>m=n - i/\i<=n/\ys.length=i/\(∀ o,σ.set j o=eJ.set j o)/\Pv ys H,⟨_,rfl,zAp _,rfl,fun _=>rfl,h0⟩,?_⟩;rintro i m ys σ H ⟨rfl,hi,hy,mN,p⟩;refine ⟨by lia,?_⟩;by_cases ax:i < n
 ·refine .inr ⟨ax,fun x H' y=>?_⟩;obtain ⟨e,e2⟩:=y;subst e;subst e2;show te (σ.set j (some (.int (lo+i)))) H' _;rw [mN]
  exact step i ys H' _ ax hy p fun y H2 p2=>⟨n - (i+1),by lia,rfl,ax,by rw [zA2,hy];rfl,fun o=>by rw [List.set_set],p2⟩
 ·have e:i=n:=by lia
  subst e;exact .inl ⟨zA3 _,fin ys H hy p⟩
theorem Gg {σ:St}{H:Hp}{ta tb:TE}{i j:Int}(a:Ev σ H ta (.int i))(b:Ev σ H tb (.int j)):Ev σ H (tOp rNe ta tb) (.bl (!decide (i=j))):=fun Q q=>a _ (b _ ⟨rfl,by
 have ed:decide (V.int i=V.int j)=decide (i=j):=decide_eq_decide.mpr ⟨fun z=>by injection z,fun z=>by rw [z]⟩;rw [ed]
 exact q⟩)
theorem wF (a b:Int):(years a b).length=(b+1 - a).toNat:=by unfold years;rw [zA1,List.length_range]
theorem wG {a b:Int}{i:Nat}(h:i < (b+1 - a).toNat):(years a b)[i]?=some (a+i):=by
 unfold years;rw [zAb,List.getElem?_range h];rfl
theorem wH {α β:Type}{l:List α}{f:α->β}{ys:List β}{x:α}(ey:ys=(l.take ys.length).map f)(hx:l[ys.length]?=some x):ys++[f x]=(l.take (ys++[f x]).length).map f:=by
 rw [zA2,List.length_singleton,zAj,hx,zA4,<- ey];rfl
inductive SpBetwI (vs:List V)(H:Hp)(Q:VK):Prop
 | mk:∀ ap xp ps t s,(vs=[.ref ap,.ref t])->(RowsAt H ap xp ps)->((∀ r∈ps,okP r))->(H t=some (.tup (s.map V.int)))->(s.length=5)->(Q (.bl (rN ps s)) H)->SpBetwI  vs H Q
def yl:Sp:=fun vs H Q _=>SpBetwI  vs H Q
inductive SpHoldsI (vs:List V)(H:Hp)(Q:VK):Prop
 | mk:∀ ap xp ps ae xs ss t s,(vs=[.ref ap,.ref ae,.ref t])->(RowsAt H ap xp ps)->((∀ r∈ps,okP r))->(RowsAt H ae xs ss)->(ss.length<=12)->((∀ s∈ss,okS s))->(H t=some (.tup (s.map V.int)))->(s.length=5)->(∀ H',Same H H'->Q (.bl (bY ps ss s)) H')->SpHoldsI  vs H Q
def uQ:Sp:=fun vs H Q _=>SpHoldsI  vs H Q
def unV:Option Nat->V
 | none=>.non
 | some i=>.int i
inductive SpFirstI (vs:List V)(H:Hp)(Q:VK):Prop
 | mk:∀ S v d S' u e,(vs=[v,u])->(IsTh S H v d)->(IsTh S' H u e)->(dR d=true)->(dU e=true)->(sz d<=4000)->(sz e<=4000)->(∀ H',Same H H'->Q (unV (un (rowsOf d) (rowsOf e))) H')->SpFirstI  vs H Q
def uR:Sp:=fun vs H Q _=>SpFirstI  vs H Q
theorem prom_ok {ps:List (List Int)}{n:Int}(h:∀ r∈ps,okP r)(h0:0<=n)(h1:n < ps.length):∃ p,ps[n.toNat]?=some p/\ps.getD n.toNat []=p/\okP p:=by
 have hn:n.toNat < ps.length:=by lia
 refine ⟨ps[n.toNat],zA0 hn,?_,h _ (zAh hn)⟩;rw [zA7,zA0 hn];rfl
theorem rows_at {H:Hp}{a:Addr}{xs:List V}{rs:List (List Int)}{n:Int}{r:List Int}(h:RowsAt H a xs rs)(h0:0<=n)(e:rs[n.toNat]?=some r):∃ t,atI xs n=some (.ref t)/\H t=some (.tup (r.map V.int)):=by
 obtain ⟨t,e1,e2⟩:=h.g _ _ e;refine ⟨t,?_,e2⟩;have:=cu e1;rw [show ((n.toNat:Nat):Int)=n by lia] at this;exact this
theorem sc24s:FnScope ["promises","sale","number","seller","buyer","sacks","year","holder","sort","first","last","due","price"] ["promises","sale"] (aJ (top 29)):=fS
theorem Bd (F:Fun K "is_sale_between" "is_sale_between" (top 29) f fd)(T:Mg mg)(N:Nums mg):FnOk P w K mg base CX0 1 f fd ["promises","sale"] yl:=by
 refine F.ok sc24s (fun vs H Q E h=>?_) (fun ai A outer s H vs Q E hr h=>?_)
 ·obtain ⟨ap,xp,ps,t,r,rfl,_⟩:=h;rfl
 ·obtain ⟨ap,xp,ps,t,r,rfl,rp,okp,et,h5,q⟩:=h;obtain ⟨t1,e1⟩:=N.holders;obtain ⟨t4,e4⟩:=N.sacks
  refine ⟨_,aA (bN (pv 1) (bz rfl (aj (pgn 2 sc24s.nd) (aj (pgn 3 sc24s.nd) (aj (pgn 4 sc24s.nd) (aj (pgn 5 sc24s.nd) (aj (pgn 6 sc24s.nd) aR)))))))
   (aA (cB (dq (jX cj iU aB (pv 2) (aO bR rfl T.len PySem.boot_len (aq (pv 0) ao)))) (aG (aQ gG)) bh)
   (aA (bN (pX bW (pv 0) (pv 2)) (bz rfl (aj (pgn 7 sc24s.nd) (aj (pgn 8 sc24s.nd) (aj (pgn 9 sc24s.nd)
    (aj (pgn 10 sc24s.nd) (aj (pgn 11 sc24s.nd) (aj (pgn 12 sc24s.nd) aR))))))))
   (aG (aQ (cz (cP cj iU aB (pv 3) (bK (v:=.int 8) rfl e1 ⟨_,rfl⟩)) (cz (cP cj iU aB (pv 4) (bK (v:=.int 8) rfl e1 ⟨_,rfl⟩)) (cz (iW xj (pv 3) (pv 4) (bj _))
    (cz (cP cj cj aB (pv 5) (bK (v:=.int 99) rfl e4 ⟨_,rfl⟩)) (dO (cP cj cj (pv 9) (pv 6) (pv 10))))))))))),?_⟩
  rw [jk h5] at et;refine aF ?_;refine ⟨_,rfl,t,_,rfl,SqT.of et,rfl,_,_,rfl,_,_,rfl,_,_,rfl,_,_,rfl,_,_,rfl,rfl,?_⟩;dsimp only;refine aF ?_;refine cG (p:=fun i j=>decide (i<=j)) (q:=fun i j=>decide (i < j)) (i:=0) (j:=fl r 0) (k:=(xp.length:Int)) gh (fj rfl) (fun Q h=>⟨_,rfl,ap,xp,rfl,.inr (SqT.of rp.e),h⟩) _ ⟨_,rfl,?_⟩;have fin:=q;unfold rN at fin;rw [rp.l]
  cases e:(decide (0<=fl r 0) && decide (fl r 0 < ps.length)) with
  | false =>
   rw [e] at fin;exact bO fin
  | true =>
   rw [e] at fin;rw [zAc,decide_eq_true_eq,decide_eq_true_eq] at e;obtain ⟨p,hp,ep,op⟩:=prom_ok okp e.1 e.2;obtain ⟨tp,dv,gg⟩:=rows_at rp e.1 hp;rw [six_row op.1] at gg;refine bD (du ?_);dsimp only;refine aF ?_;refine ⟨_,rfl,_,rfl,ap,xp,_,.ref tp,rfl,rfl,SqT.of rp.e,dv,?_⟩;refine ⟨tp,_,rfl,SqT.of gg,rfl,_,_,rfl,_,_,rfl,_,_,rfl,_,_,rfl,_,_,rfl,_,_,rfl,rfl,?_⟩;have DT:qm ps r=p:=ep;rw [DT] at fin;exact gM (cG gh (fj rfl) gh) (fun _=>gM (cG gh (fj rfl) gh) fun _=>gM (Gg (fj rfl) (fj rfl)) fun _=>gM (cG gh (fj rfl) gh) fun _=>cG (fj rfl) (fj rfl) (fj rfl)) _ fin
theorem sc25s:FnScope ["promises","ahead","sale","number","seller","buyer","sacks","year","last"] ["promises","ahead","sale"] (aJ (top 30)):=fS
theorem Hu:(["at","promises","ahead","number","seller","sacks"]:List Str).Nodup:=by decide +kernel
theorem ym (F:Fun K "sale_holds" "sale_holds" (top 30) f fd)(T:Mg mg)(Tr:mg "range" = none)(c1:Cal P w K mg base 1 "is_sale_between" ["promises","sale"] yl)(c2:Cal P w K mg base 1 "held_in" ["promises","sales","number","year"] tU) :
  FnOk P w K mg base CX0 2 f fd ["promises","ahead","sale"] uQ:=by
 refine F.ok sc25s (fun vs H Q E h=>?_) (fun ai A outer s H vs Q E hr h=>?_)
 ·obtain ⟨ap,xp,ps,ae,xs,ss,t,r,rfl,_⟩:=h;rfl
 ·obtain ⟨ap,xp,ps,ae,xs,ss,t,r,rfl,rp,okp,rs,hl,df,et,h5,q⟩:=h
  refine ⟨_,aA (cB (dq (eQ (aH c1 hr (aq (pv 0) (aq (pv 2) ao))))) (aG (aQ gG)) bh)
   (aA (bN (pv 2) (bz rfl (aj (aY (i:=3) sc25s.nd rfl (Or.inr rfl)) (aj (aY (i:=4) sc25s.nd rfl (Or.inr rfl)) (aj (pgn 5 sc25s.nd) (aj (aY (i:=6) sc25s.nd rfl (Or.inr rfl)) (aj (pgn 7 sc25s.nd) aR)))))))
   (aA (pss 8 sc25s.nd (pX bW (pX bW (pv 0) (pv 3)) aB))
   (aG (aQ (aO (eV rfl) rfl T.all boot_all (aq (bH ["at","promises","ahead","number","seller","sacks"] [none,some 0,some 1,some 3,some 4,some 6] rfl (nC rfl Tr (aq (pv 7) (aq (aV bG (pv 8) aB) ao)))
    (fun C fp pins s₂ H₂=>⟨pgn 0 Hu,bL,iW BW (pX (lM (K:=K) rfl) (aH c2 hr (aq (pv 1) (aq (pv 2) (aq (pv 3) (aq (pv 0) ao))))) (pv 4)) (pv 5) (bj _)⟩)
    (fun C=>cI (cI (cI (cI (cI trivial))))) ⟨rfl,rfl,rfl,rfl⟩) ao)))))),?_⟩
  have fin:=q;unfold bY at fin;refine aF ?_;refine ⟨_,rfl,_,rfl,ap,xp,ps,t,r,rfl,rp,okp,et,h5,_,rfl,?_⟩
  cases e:rN ps r with
  | false =>
   rw [e] at fin;exact bO (fin _ (Same.refl _))
  | true =>
   rw [e] at fin;refine bD (du ?_);dsimp only;refine aF ?_;unfold rN at e;simp only [Bool.and_eq_true,decide_eq_true_eq] at e;obtain ⟨⟨n0,n1⟩,⟨b0,b1⟩,_,_,⟨k0,k1⟩,y0,y1⟩:=e;obtain ⟨p,hp,ep,op⟩:=prom_ok okp n0 n1;have DT:qm ps r=p:=ep;rw [DT] at fin y0 y1;obtain ⟨tp,dv,gg⟩:=rows_at rp n0 hp;rw [jk h5] at et;rw [six_row op.1] at gg;obtain ⟨_,_,_,⟨g1,g2,g3⟩,_⟩:=id op;refine ⟨_,rfl,t,_,rfl,SqT.of et,rfl,_,_,rfl,_,_,rfl,_,_,rfl,_,_,rfl,_,_,rfl,rfl,?_⟩;dsimp only;refine aF (aW ?_);refine ⟨_,rfl,_,rfl,ap,xp,_,.ref tp,rfl,rfl,SqT.of rp.e,dv,tp,_,3,.int (fl p 3),rfl,rfl,SqT.of gg,rfl,?_⟩;refine aK ?_;dsimp only;refine ⟨_,rfl,_,rfl,_,_,rfl,rfl,fl r 4,fl p 3+1,rfl,⟨by lia,by lia,by lia,by lia⟩,?_⟩;refine yj (fun ys Hc=>Same H Hc/\ys=((years (fl r 4) (fl p 3)).take ys.length).map fun y=>V.bl (decide (fl r 3<=(bI p ss (fl r 0) y).getD (fl r 1).toNat 0))) ⟨Same.refl _,rfl⟩ (by rw [sizeLine_eq];lia) ?_ ?_
   ·rintro i ys Hc Qc hi hy ⟨sc,ey⟩ qc;refine ⟨_,rfl,_,rfl,_,rfl,_,rfl,ap,xp,ps,ae,xs,ss,fl r 0,fl r 4+i,rfl,rp.same sc,rs.same sc,n0,n1,by rw [ep];exact op,hl,df,fun l H' s' el=>?_⟩;rw [ep] at el;refine ⟨_,rfl,l,_,fl r 1,.int ((bI p ss (fl r 0) (fl r 4+i)).getD (fl r 1).toNat 0),rfl,rfl,SqL.of el,?_,_,rfl,_,_,rfl,rfl,qc _ _ ⟨sc.trans s',?_⟩⟩
    ·unfold atI;rw [oE b0 (by rw [zA1,eG];lia)];exact dw (by rw [eG];lia)
    ·have hx:(years (fl r 4) (fl p 3))[ys.length]?=some (fl r 4+(i:Int)):=by
      rw [hy];exact wG hi
     exact wH ey hx
   ·rintro ys Hc hy ⟨sc,ey⟩ D hD;rw [List.take_of_length_le (by rw [wF,hy];exact zA3 _)] at ey;refine ⟨D,(years (fl r 4) (fl p 3)).map fun y=>decide (fl r 3<=(bI p ss (fl r 0) y).getD (fl r 1).toNat 0),rfl,SqL.of (by rw [zAr];rw [ey];exact aa),?_⟩;rw [List.all_map];exact fin _ (sc.updR hD)
theorem lN {xs:List V}{i:Nat}(h:i<=xs.length):mH xs none (some (i:Int))=xs.take i:=by
 unfold mH;rw [HT.sIx_none,HT.sIx_nat,List.drop_zero,Nat.min_eq_left h,Nat.sub_zero]
theorem RowsAt.cut {H:Hp}{a p:Addr}{xs:List V}{rs:List (List Int)}(h:RowsAt H a xs rs)(i:Nat)(hp:H p=none):RowsAt (upd H p (.tup (xs.take i))) p (xs.take i) (rs.take i):=by
 refine ⟨aa,by rw [zAd,zAd,h.l],fun j r e=>?_⟩
 have hj:j < i:=by
  rw [List.getElem?_take] at e;split at e
  ·assumption
  ·cases e
 rw [List.getElem?_take_of_lt hj] at e;obtain ⟨t,e1,e2⟩:=h.g j r e;exact ⟨t,by rw [List.getElem?_take_of_lt hj];exact e1,Same.upd hp _ _ e2⟩
theorem uT {ps ss:List (List Int)}{i:Nat}(h:∀ j,j < i->bY ps (ss.take j) (ss.getD j [])=true)(hi:i < ss.length)(hn:bY ps (ss.take i) (ss.getD i [])=false):un ps ss=some i:=by
 unfold un;rw [List.find?_range_eq_some];exact ⟨by rw [hn];rfl,List.mem_range.mpr hi,fun j hj=>by rw [h j hj];rfl⟩
theorem uU {ps ss:List (List Int)}(h:∀ j,j < ss.length->bY ps (ss.take j) (ss.getD j [])=true):un ps ss=none:=by
 unfold un;rw [List.find?_range_eq_none]
 exact fun j hj=>by rw [h j hj];rfl
theorem lO {ps ss:List (List Int)}{s:List Int}(h5:s.length=5)(h:bY ps ss s=true):okS s:=by
 unfold bY rN at h;simp only [Bool.and_eq_true,decide_eq_true_eq] at h;exact ⟨h5,h.1.2.1,h.1.2.2.1⟩
theorem getD_get {ss:List (List Int)}{i:Nat}(h:i < ss.length):ss.getD i []=ss[i]:=by
 rw [zA7,zA0 h];rfl
def part (d:PyData)(i:Nat):PyData:=(items d).getD i .none
def lQ (d:PyData):Bool:=bu d 3 3 && (gU (part d 0) && (dR (part d 1) && (dU (part d 2) && (un (rowsOf (part d 1)) (rowsOf (part d 2))).isNone)))
theorem sc26s:FnScope ["promises","sales","at","sale"] ["promises","sales"] (aJ (top 31)):=fS
theorem yo (F:Fun K "first_unheld" "first_unheld" (top 31) f fd)(Te:mg "enumerate" = none)(c1:Cal P w K mg base 4 "are_promises" ["thing"] (spT dR))(c2:Cal P w K mg base 3 "are_sales" ["thing"] (spT dU))(c3:Cal P w K mg base 2 "sale_holds" ["promises","ahead","sale"] uQ) :
  FnOk P w K mg base CX0 5 f fd ["promises","sales"] uR:=by
 refine F.ok sc26s (fun vs H Q E h=>?_) (fun ai A outer s H vs Q E hr h=>?_)
 ·obtain ⟨S,v,d,S',u,e,rfl,_⟩:=h;rfl
 ·obtain ⟨S,v,d,S',u,e,rfl,Il,ths,hp,hs,zp,zs,q⟩:=h
  refine ⟨_,aA (cB (dq (eQ (aH c1 hr (aq (pv 0) ao)))) nA bh)
   (aA (cB (dq (eQ (aH c2 hr (aq (pv 1) ao)))) nA bh)
   (aA (bV zB5 rfl (pi_enum rfl Te (aq (pv 1) ao)) (bz rfl (aj (pgn 2 sc26s.nd) (aj (pgn 3 sc26s.nd) aR)))
    (aG (cB (dq (eQ (aH c3 hr (aq (pv 0) (aq (qO An (pv 1) uo (uq (pv 2))) (aq (pv 3) ao)))))) (aG (aQ (pv 2))) bh)))
   (aG (aQ p8)))),?_⟩
  refine aF ?_;refine ⟨_,rfl,S,v,d,rfl,Il,zp,fun H1 s1=>⟨_,rfl,?_⟩⟩;rw [hp];refine bD (du ?_);dsimp only;refine aF ?_;refine ⟨_,rfl,S',u,e,rfl,ths.same s1,zs,fun H2 s2=>⟨_,rfl,?_⟩⟩;rw [hs];refine bD (du ?_);dsimp only;have AV:=s1.trans s2;obtain ⟨ep,lp,okp⟩:=tQ hp;obtain ⟨es,ls,df⟩:=tR hs;have eM:=Il.same AV;have DU:=ths.same AV;rw [ep] at eM;rw [es] at DU;generalize rowsOf d=ps at q lp okp eM;generalize rowsOf e=ss at q ls df DU;obtain ⟨ap,xp,rfl,rp⟩:=th_rows eM;obtain ⟨ae,xs,rfl,rs⟩:=th_rows DU;refine aF ?_;refine ⟨_,rfl,ae,xs,rfl,SqT.of rs.e,?_⟩;refine j8 (xs:=xs) (fun i σ Hc=>∃ x2 x3,σ=[some (.ref ap),some (.ref ae),x2,x3]/\Same H2 Hc/\∀ j,j < i->bY ps (ss.take j) (ss.getD j [])=true) ?_ ?_ ?_ ?_
  ·exact ⟨none,none,rfl,Same.refl _,fun j hj=>absurd hj (Nat.not_lt_zero _)⟩
  ·rintro i σ Hc hi ⟨x2,x3,rfl,sm,hh⟩;exact SqT.of (sm _ _ rs.e)
  ·rintro i x σ Hc T0 hx ⟨x2,x3,rfl,sm,hh⟩ nT
   have hi:i < ss.length:=by
    have:=(zAa.mp hx).1;rw [rs.l] at this;exact this
   have tf:i < xs.length:=by rw [rs.l];exact hi
   obtain ⟨tr,cy,bq⟩:=rs.g i ss[i] (zA0 hi)
   have:x=.ref tr:=by
    rw [hx] at cy;exact zAl cy
   subst this;have h5:=df ss[i] (zAh hi);have sT:=sm.updR (o:=.tup [V.int i,V.ref tr]) nT;refine ⟨T0,_,rfl,SqT.of aa,rfl,_,_,rfl,_,_,rfl,rfl,?_⟩;refine ⟨_,rfl,_,rfl,_,rfl,i,rfl,ae,xs,rfl,SqT.of (sT _ _ rs.e),fun hw=>?_,fun _ p Im=>?_⟩
   ·have:=hw.2;rw [HT.sIx_nat] at this;exact absurd this (by lia)
   rw [lN (Nat.le_of_lt tf)];have sp:=sT.updR (o:=.tup (xs.take i)) Im;refine ⟨_,rfl,ap,xp,ps,p,xs.take i,ss.take i,tr,ss[i],rfl,rp.same sp,okp,(rs.same sT).cut i Im,?_,?_,sp _ _ bq,h5,fun H' s'=>⟨_,rfl,?_⟩⟩
   ·rw [zAd];lia
   ·intro s bP;obtain ⟨j,hj,e'⟩:=List.getElem_of_mem bP;rw [zAd] at hj;have K2:j < i:=by lia
    have Io:j < ss.length:=by lia
    have e2:ss[j]=s:=by rw [<- e',List.getElem_take]
    rw [<- e2];have:=hh j K2;rw [getD_get Io] at this;exact lO (df _ (zAh Io)) this
   ·cases eh:bY ps (ss.take i) ss[i] with
    | false =>
     refine bO ⟨_,rfl,?_⟩;have:=q H' (AV.trans (sp.trans s'));rw [uT hh hi (by rw [getD_get hi];exact eh)] at this;exact this
    | true =>
     refine bD ⟨_,_,rfl,sp.trans s',fun j hj=>?_⟩;rcases Nat.lt_succ_iff_lt_or_eq.mp hj with z | z
     ·exact hh j z
     ·rw [z,getD_get hi];exact eh
  ·rintro σ Hc ⟨x2,x3,rfl,sm,hh⟩;have:=q Hc (AV.trans sm);rw [uU fun j hj=>hh j (by rw [rs.l];exact hj)] at this;exact this
theorem sc27s:FnScope ["thing","clips","promises","sales"] ["thing"] (aJ (top 32)):=fS
theorem ok_book (F:Fun K "is_book" "is_book" (top 32) f fd)(c0:Cal P w K mg base 1 "is_tuple_of" ["thing","fewest","most"] (jO bu))(c1:Cal P w K mg base 4 "are_clips" ["thing"] (spT gU))(c2:Cal P w K mg base 4 "are_promises" ["thing"] (spT dR))(c3:Cal P w K mg base 3 "are_sales" ["thing"] (spT dU))(c4:Cal P w K mg base 5 "first_unheld" ["promises","sales"] uR) :
  FnOk P w K mg base CX0 6 f fd ["thing"] (spT lQ):=by
 refine F.ok sc27s (fun vs H Q E h=>?_) (fun ai A outer s H vs Q E hr h=>?_)
 ·obtain ⟨S,v,d,rfl,_⟩:=h;rfl
 ·obtain ⟨S,v,d,rfl,th,hz,q⟩:=h
  refine ⟨_,aA (cB (dq (eQ (aH c0 hr (aq (pv 0) (aq aB (aq aB ao)))))) (aG (aQ gG)) bh)
   (aA (bN (pv 0) (bz rfl (aj (pgn 1 sc27s.nd) (aj (pgn 2 sc27s.nd) (aj (pgn 3 sc27s.nd) aR)))))
   (aG (aQ (cz (aH c1 hr (aq (pv 1) ao)) (cz (aH c2 hr (aq (pv 2) ao)) (cz (aH c3 hr (aq (pv 3) ao)) (dO (iW xm (aH c4 hr (aq (pv 2) (aq (pv 3) ao))) p8 (bj _))))))))),?_⟩
  have fin:=q;unfold lQ at fin;refine aF ?_;refine ⟨_,rfl,S,v,d,3,3,rfl,th,hz,fun H1 s1=>⟨_,rfl,?_⟩⟩
  cases e:bu d 3 3 with
  | false =>
   rw [e] at fin;exact bO (fin _ s1)
  | true =>
   rw [e] at fin;refine bD (du ?_);dsimp only;obtain ⟨ds,rfl,l1,l2⟩:=jC e;have eM:=th.same s1
   cases eM with
   | @tup a xs _ ea r =>
    obtain ⟨v0,v1,v2,d0,d1,d2,rfl,rfl,h0,h1,h2⟩:=wA r (show ds.length=3 by lia);have z0:=ji (d:=d0) (by simp) hz;have z1:=ji (d:=d1) (by simp) hz;have z2:=ji (d:=d2) (by simp) hz;refine aF ?_;refine ⟨_,rfl,a,_,rfl,SqT.of ea,rfl,_,_,rfl,_,_,rfl,_,_,rfl,rfl,?_⟩;dsimp only;have fin:∀ H',Same H H'->Q (.bl (true && (gU d0 && (dR d1 && (dU d2 && (un (rowsOf d1) (rowsOf d2)).isNone))))) H':=fin;refine ⟨_,rfl,S,_,d0,rfl,h0,z0,fun H2 s2=>⟨_,rfl,?_⟩⟩
    cases e0:gU d0 with
    | false =>
     rw [e0] at fin;exact bD (fin _ (s1.trans s2))
    | true =>
     rw [e0] at fin;refine bO ?_;refine ⟨_,rfl,S,_,d1,rfl,h1.same s2,z1,fun H3 s3=>⟨_,rfl,?_⟩⟩
     cases e1:dR d1 with
     | false =>
      rw [e1] at fin;exact bD (fin _ ((s1.trans s2).trans s3))
     | true =>
      rw [e1] at fin;refine bO ?_;refine ⟨_,rfl,S,_,d2,rfl,h2.same (s2.trans s3),z2,fun H4 s4=>⟨_,rfl,?_⟩⟩
      cases e2:dU d2 with
      | false =>
       rw [e2] at fin;exact bD (fin _ (((s1.trans s2).trans s3).trans s4))
      | true =>
       rw [e2] at fin;refine bO ?_;have DV:=(s2.trans s3).trans s4;refine ⟨_,rfl,_,rfl,S,_,d1,S,_,d2,rfl,h1.same DV,h2.same DV,e1,e2,z1,z2,fun H5 s5=>⟨rfl,?_⟩⟩;have:=fin H5 (s1.trans (DV.trans s5))
       cases eu:un (rowsOf d1) (rowsOf d2) with
       | none =>
        rw [eu] at this;exact this
       | some i =>
        rw [eu] at this;exact this
def Els (H:Hp)(xs:List V)(rs:List (List Int)):Prop:=xs.length=rs.length/\∀ (i:Nat) (r:List Int),rs[i]?=some r->∃ t,xs[i]?=some (V.ref t)/\H t=some (.tup (r.map V.int))
theorem Els.keep {H H':Hp}{xs:List V}{rs:List (List Int)}(h:Els H xs rs)(k:∀ b l,H b=some (.tup l)->H' b=some (.tup l)):Els H' xs rs :=
 ⟨h.1,fun i r e=>by
  obtain ⟨t,e1,e2⟩:=h.2 i r e
  exact ⟨t,e1,k _ _ e2⟩⟩
theorem Els.same {H H':Hp}{xs:List V}{rs:List (List Int)}(h:Els H xs rs)(s:Same H H'):Els H' xs rs:=h.keep fun _ _ e=>s _ _ e
theorem Els.nil {H:Hp}:Els H [] []:=⟨rfl,fun i r e=>by simp at e⟩
theorem Els.app {H:Hp}{xs ys:List V}{rs qs:List (List Int)}(h:Els H xs rs)(g:Els H ys qs):Els H (xs++ys) (rs++qs):=by
 refine ⟨by rw [zA2,zA2,h.1,g.1],fun i r e=>?_⟩;by_cases hi:i < rs.length
 ·rw [zBb hi] at e;obtain ⟨t,e1,e2⟩:=h.2 i r e;exact ⟨t,by rw [zBb (by rw [h.1];exact hi)];exact e1,e2⟩
 ·rw [zBc (by lia)] at e;obtain ⟨t,e1,e2⟩:=g.2 _ r e;exact ⟨t,by rw [zBc (by rw [h.1];lia),h.1];exact e1,e2⟩
theorem Els.one {H:Hp}{t:Addr}{r:List Int}(e:H t=some (.tup (r.map V.int))):Els H [.ref t] [r]:=⟨rfl,fun i q e'=>by
 cases i with
 | zero =>
  rw [List.getElem?_cons_zero] at e';cases e';exact ⟨t,rfl,e⟩
 | succ i=>simp at e'⟩
theorem cH {r:List Int}(h:r.length=4):r=[fl r 0,fl r 1,fl r 2,fl r 3]:=by
 match r,h with
 | [a,b,c,d],_=>rfl
theorem rO {t:TS}{D:Ends}{N:L2.St->Hp->Prop}{σ:L2.St}{H:Hp}(h:∀ D':Ends,(∀ σ H,N σ H->D'.nx σ H)->t D' σ H):t { D with nx:=N,ct:=N,bk:=D.nx } σ H:=h _ fun _ _ z=>z
theorem cJ {J:It}{g:TG}{te:TE}{eJ:St}{H0:Hp}{Fin:List V->Hp->Prop}(n:Nat)(Pv:Nat->List V->St->Hp->Prop)(h0:Pv 0 [] eJ H0)(hz:n < sizeLine)
  (step:∀ i ys σ H,i < n->ys.length=i->Pv i ys σ H->J.go i H/\∀ x H',J.yld i H x H'->∀ R:V->St->Hp->Prop,(∀ y ay H4,Pv (i+1) (ys++[y]) ay H4->R y ay H4)->g x σ H' fun ay H2=>te ay H2 fun y H4=>R y ay H4)
  (fin:∀ ys σ H,ys.length=n->Pv n ys σ H->J.stop n H/\Fin ys H):kh J g vL te Fin eJ H0:=by
 refine ⟨fun i m ys σ H=>m=n - i/\i<=n/\ys.length=i/\Pv i ys σ H,⟨_,rfl,zAp _,rfl,h0⟩,?_⟩;rintro i m ys σ H ⟨rfl,hi,hy,p⟩;refine ⟨by lia,?_⟩;by_cases ax:i < n
 ·obtain ⟨go,st⟩:=step i ys σ H ax hy p;exact .inr ⟨go,fun x H' y=>st x H' y _ fun y ay H4 p2=>⟨n - (i+1),by lia,rfl,ax,by rw [zA2,hy];rfl,p2⟩⟩
 ·have e:i=n:=by lia
  subst e;exact .inl (fin ys σ H hy p)
def wts (rs:List (List Int)):List Int:=rs.map fun r=>fl r 3
def aM (rs:List (List Int)):Int:=(wts rs).sum
inductive SpSacksI (vs:List V)(H:Hp)(Q:VK):Prop
 | mk:∀ l xs rs,(vs=[.ref l])->(H l=some (.lst xs))->(Els H xs rs)->((∀ r∈rs,r.length=4))->(rs.length<=100000)->(∀ H',Same H H'->Q (.int (aM rs)) H')->SpSacksI  vs H Q
def uV:Sp:=fun vs H Q _=>SpSacksI  vs H Q
theorem boot_sum:bootBuiltins "sum" = some (.builtin "sum"):=by decide +kernel
theorem nd4:(["due","number","holder","sacks"]:List Str).Nodup:=by decide +kernel
theorem Hv:FnScope ["rows"] ["rows"] (aJ (top 43)):=fS
theorem yp (F:Fun K "sacks_of" "sacks_of" (top 43) f fd)(Ts:mg "sum" = none):FnOk P w K mg base CX0 1 f fd ["rows"] uV:=by
 refine F.ok Hv (fun vs H Q E h=>?_) (fun ai A outer s H vs Q E hr h=>?_)
 ·obtain ⟨l,xs,rs,rfl,_⟩:=h;rfl
 ·obtain ⟨l,xs,rs,rfl,el,els,h4,hz,q⟩:=h
  refine ⟨_,aG (aQ (aO (d9 rfl) rfl Ts boot_sum (aq (bH (g:=jL K 4 (bQ (bF 0) (bQ (bF 1) (bQ (bF 2) (bQ (bF 3) jU))))) ["due","number","holder","sacks"] [none,none,none,none] rfl (cC (pv 0))
   (fun C fp pins s₂ H₂=>⟨dI rfl rfl (aj (pgn 0 nd4) (aj (pgn 1 nd4) (aj (pgn 2 nd4) (aj (pgn 3 nd4) aR)))),bL,pv 3⟩) (fun C=>trivial) ⟨rfl,rfl,rfl,rfl⟩) ao))),?_⟩
  refine ⟨_,rfl,l,rfl,⟨_,SqL.of el⟩,cJ rs.length (fun i ys σ Hc=>Same H Hc/\(∃ o1 o2 o3 o4,σ=[o1,o2,o3,o4])/\ys=(wts (rs.take i)).map V.int) ⟨Same.refl H,⟨_,_,_,_,rfl⟩,rfl⟩ (by rw [sizeLine_eq];lia) ?_ ?_⟩
  ·rintro i ys σ Hc hi hy ⟨s1,⟨o1,o2,o3,o4,rfl⟩,rfl⟩;obtain ⟨t,ex,et⟩:=els.2 i rs[i] (zA0 hi);rw [cH (h4 _ (zAh hi))] at et;refine ⟨⟨_,_,SqL.of (s1 _ _ el),ex⟩,fun v H' y R hR=>?_⟩;obtain ⟨rfl,y⟩:=y;have hv:=y _ (SqL.of (s1 _ _ el));rw [ex] at hv;cases hv;refine ⟨t,_,rfl,SqT.of (s1 _ _ et),rfl,_,_,rfl,_,_,rfl,_,_,rfl,_,_,rfl,rfl,_,rfl,hR _ _ _ ⟨s1,⟨_,_,_,_,rfl⟩,?_⟩⟩;unfold wts;rw [zAj,zA0 hi,zA4,zA4];rfl
  ·rintro ys σ Hc hy ⟨s1,_,rfl⟩;refine ⟨⟨_,SqL.of (s1 _ _ el),by rw [els.1];exact zA3 _⟩,fun D hD=>?_⟩;rw [zAm];exact ⟨D,wts rs,rfl,.inl (SqL.of aa),q _ (s1.updR hD)⟩
end K90
open K90 (top cV items intOf bu nd1 yf qi qj ji eZ spT jO Mg boot_tuple boot_all cX Cal aH ni boot_sum cJ sc1 fX lN)
namespace K90P
open PySem L2
structure Nums (mg:Str->Option Value):Prop where
 many:∃ t,mg "MOST_WEIGHTS" = some (.int 80 t)
 most:∃ t,mg "MOST_WEIGHT" = some (.int 99 t)
def gW (d:PyData):Bool:=bu d 1 80 && (items d).all fun x=>ni x 1 99
theorem boot_sorted:bootBuiltins "sorted" = some (.builtin "sorted"):=by decide +kernel
theorem nd2 (x y:Str)(h:x≠y):([x,y]:List Str).Nodup:=by simp [h]
section
variable {P:Program}{w:World}{K:PySem.W.Frag}{mg:Str->Option Value}{base:Heap}{f:Addr}{fd:FuncData}
theorem Hw:FnScope ["thing"] ["thing"] (aJ (top 37)):=fS
theorem ok_are_weights (F:Fun K "are_weights" "are_weights" (top 37) f fd)(T:Mg mg)(N:Nums mg)(c1:Cal P w K mg base 2 "is_whole_from" ["thing","least","most"] (jO ni))(c2:Cal P w K mg base 1 "is_tuple_of" ["thing","fewest","most"] (jO bu)) :
  FnOk P w K mg base CX0 4 f fd ["thing"] (spT gW):=by
 refine F.ok Hw (fun vs H Q E h=>?_) (fun ai A outer s H vs Q E hr h=>?_)
 ·obtain ⟨S,v,d,rfl,_⟩:=h;rfl
 ·obtain ⟨S,v,d,rfl,th,hz,q⟩:=h;obtain ⟨t3,e3⟩:=N.many;obtain ⟨t4,e4⟩:=N.most
  refine ⟨_,aG (aQ (cz (aH c2 hr (aP (pv 0) (aP aB (aP (bK (v:=.int 80) rfl e3 ⟨_,rfl⟩) ao))))
   (dO (aO (eV rfl) rfl T.all boot_all (aP (bH ["part"] [none] rfl (fZ (pv 0))
    (fun C fp pins s₂ H₂=>⟨aY (i:=0) (nd1 _) rfl (Or.inl rfl),bL,aH c1 hr (aP (pv 0) (aP aB (aP (bK (v:=.int 99) rfl e4 ⟨_,rfl⟩) ao)))⟩) (fun C=>trivial) ⟨rfl,rfl,rfl,rfl⟩) ao))))),?_⟩
  refine ⟨_,rfl,S,v,d,1,80,rfl,th,hz,fun H1 s1=>⟨_,rfl,?_⟩⟩;have eM:=th.same s1;have fin:=fun H' (s:Same H H')=>q H' s;unfold gW at fin
  cases e:bu d 1 80 with
  | false =>
   rw [e] at fin;exact bD (fin _ s1)
  | true =>
   rw [e] at fin;refine bO ?_
   cases eM with
   | @tup a xs ds ea r=>exact cX (fun x=>ni x 1 99) rfl ea r (eZ r hz) (fun v d H2 Q2 hm s2 t2 q2=>⟨_,rfl,S,v,d,1,99,rfl,t2,ji hm hz,q2⟩) fun H2 s2=>fin _ (s1.trans s2)
   | _=>cases e
end
section
variable {X:Cx}{K:PySem.W.Frag}{tg l:Expr}{tl:TE}
theorem yq (hK:X.K=K)(hl:PE X l tl):PI X tg l (BV K tl):=by
 subst hK;exact cC hl
theorem ix_tupK (hK:X.K=K):IxR X (Fj K):=by
 subst hK;exact bW
theorem lU (hK:X.K=K):dX X (.type "tuple") (fun xs H Q=>∃ p ys,xs=[.ref p]/\((SqL K H p ys/\∀ l,H l=none->Q (.ref l) (upd H l (.tup ys)))\/(SqT K H p ys/\Q (.ref p) H))):=by
 subst hK;exact cO
end
def StAt (H:Hp)(st:Addr):Prop:=∃ a b c:Int,H st=some (.lst [.int a,.int b,.int c])/\0<=a/\0<=b/\b < 4294967296
structure Dr (st:Addr)(H H':Hp):Prop where
 bt:∀ b o,H b=some o->b≠st->H' b=some o
 sa:StAt H' st
theorem Dr.same {st:Addr}{H H1 H2:Hp}(g:Dr st H H1)(s:Same H1 H2):Dr st H H2:=by
 obtain ⟨a,b,c,e,h⟩:=g.sa;exact ⟨fun b' o' e' ne=>s _ _ (g.bt b' o' e' ne),a,b,c,s _ _ e,h⟩
theorem Dr.trans {st:Addr}{H H1 H2:Hp}(g:Dr st H H1)(g':Dr st H1 H2):Dr st H H2:=⟨fun b' o' e' ne=>g'.bt _ _ (g.bt b' o' e' ne) ne,g'.sa⟩
theorem Dr.refl {st:Addr}{H:Hp}(h:StAt H st):Dr st H H:=⟨fun _ _ e _=>e,h⟩
theorem Dr.draw {st:Addr}{H H1:Hp}(g:Dr st H H1){a b c:Int}(h1:0<=a)(h2:0<=b)(h3:b < 4294967296):Dr st H (upd H1 st (.lst [.int a,.int b,.int c])) :=
 ⟨fun b' o' e' ne=>by rw [aC ne];exact g.bt _ _ e' ne,a,b,c,aa,h1,h2,h3⟩
theorem Dr.ne {st p:Addr}{H H1:Hp}(g:Dr st H H1)(hp:H1 p=none):p≠st:=fun z=>by
 obtain ⟨a,b,c,e,_⟩:=g.sa;rw [z,e] at hp;cases hp
theorem Dr.tups {st:Addr}{H H1:Hp}(g:Dr st H H1)(h0:StAt H st):∀ b xs,H b=some (.tup xs)->H1 b=some (.tup xs):=fun b xs e=>g.bt _ _ e fun z=>by
 obtain ⟨_,_,_,e',_⟩:=h0;rw [z,e'] at e;cases e
theorem Dr.ths {st:Addr}{H H1:Hp}{vs:List V}{ds:List PyData}(g:Dr st H H1)(h0:StAt H st)(t:IsThs (fun _=>False) H vs ds):IsThs (fun _=>False) H1 vs ds:=t.keep (g.tups h0) (fun _ _ z _=>z.elim) fun _ _ z _=>z.elim
inductive SpCellI (K:PySem.W.Frag)(vs:List V)(H:Hp)(Q:VK):Prop
 | mk:∀ (a:Addr) (ns:List Int) (k:Int),(vs=[.ref a,.int k])->(SqL K H a (ns.map V.int))->(0<=k)->(∀ i,Q (.int i) H)->SpCellI K vs H Q
def yr (K:PySem.W.Frag):Sp:=fun vs H Q _=>SpCellI K vs H Q
inductive SpStateI (K:PySem.W.Frag)(vs:List V)(H:Hp)(Q:VK):Prop
 | mk:∀ (a:Addr) (ns:List Int) (k:Int),(vs=[.ref a,.int k])->(SqL K H a (ns.map V.int))->(0<=k)->(∀ (p:Addr) (x y z:Int),H p=none->0<=x->0<=y->y < 4294967296->Q (.ref p) (upd H p (.lst [.int x,.int y,.int z])))->SpStateI K vs H Q
def spState (K:PySem.W.Frag):Sp:=fun vs H Q _=>SpStateI K vs H Q
inductive SpChoiceI (vs:List V)(H:Hp)(Q:VK):Prop
 | mk:∀ (st:Addr) (n:Int),(vs=[.ref st,.int n])->(StAt H st)->(1<=n)->(n < 1073741824)->(∀ r a b c:Int,0<=r->r < n->0<=a->0<=b->b < 4294967296->Q (.int r) (upd H st (.lst [.int a,.int b,.int c])))->SpChoiceI  vs H Q
def gY:Sp:=fun vs H Q _=>SpChoiceI  vs H Q
theorem oF:bootBuiltins "max" = some (.builtin "max"):=by decide +kernel
theorem oG:bootBuiltins "min" = some (.builtin "min"):=by decide +kernel
section
variable {P:Program}{w:World}{K:PySem.W.Frag}{mg:Str->Option Value}{base:Heap}{f:Addr}{fd:FuncData}
theorem Hx:FnScope ["_law_script","_law_k"] ["_law_script","_law_k"] (aJ (top 61)):=fS
theorem ok_cell (F:Fun K "_law_cell_at" "_law_cell_at" (top 61) f fd)(T:Mg mg):FnOk P w K mg base CX0 1 f fd ["_law_script","_law_k"] (yr K):=by
 refine F.ok Hx (fun vs H Q E h=>?_) (fun ai A outer s H vs Q E hr h=>?_)
 ·obtain ⟨a,ns,k,rfl,_⟩:=h;rfl
 ·obtain ⟨a,ns,k,rfl,hS,h0,q⟩:=h;refine ⟨_,aA (cB (aZ iU (pv 1) (aO bR rfl T.len PySem.boot_len (aP (pv 0) ao)) (bj _)) (aG (aQ (pX bB (pv 0) (pv 1)))) bh) (aG (aQ aB)),?_⟩;refine ⟨_,rfl,_,rfl,a,_,rfl,.inl hS,_,_,rfl,rfl,_,rfl,?_⟩;refine Ae (fun c=>?_) (fun _=>q 0);have c:=zB3 c;rw [zA1] at c;have hk:k.toNat < ns.length:=by lia
  refine ⟨_,rfl,_,rfl,a,_,k,.int ns[k.toNat],rfl,rfl,hS,?_,q _⟩;have e:(ns.map V.int)[k.toNat]?=some (.int ns[k.toNat]):=by rw [zAb,zA0 hk];rfl
  have:=cu e;rw [show ((k.toNat:Nat):Int)=k by lia] at this;exact this
theorem sc26:FnScope ["_law_script","_law_k","_law_cell"] ["_law_script","_law_k"] (aJ (top 62)):=fS
theorem ok_state (F:Fun K "_law_state" "_law_state" (top 62) f fd)(Tm:mg "max" = none)(c1:Cal P w K mg base 1 "_law_cell_at" ["_law_script","_law_k"] (yr K)):FnOk P w K mg base CX0 2 f fd ["_law_script","_law_k"] (spState K):=by
 refine F.ok sc26 (fun vs H Q E h=>?_) (fun ai A outer s H vs Q E hr h=>?_)
 ·obtain ⟨a,ns,k,rfl,_⟩:=h;rfl
 ·obtain ⟨a,ns,k,rfl,hS,h0,q⟩:=h
  refine ⟨_,aA (pss 2 sc26.nd (aH c1 hr (aP (pv 0) (aP (pv 1) ao))))
   (aG (aQ (cQ (aq (aO (il rfl) rfl Tm oF (aq aB (aq (aV gH (pv 2) (aV Dh aB aB)) ao))) (aq (aV bG (aV iC (pv 2) aB) aB) (aq aB ao)))))),?_⟩
  refine ⟨_,rfl,_,rfl,a,ns,k,rfl,hS,h0,fun c=>?_⟩;refine ⟨_,rfl,_,_,rfl,rfl,⟨by decide,by decide,by decide⟩,_,_,rfl,rfl,_,_,rfl,_,rfl,_,_,rfl,rfl,(by show (0:Int) < 2147483629;decide),_,_,rfl,rfl,zL,fun p hp=>?_⟩;refine q p _ _ _ hp ?_ ?_ ?_
  ·split <;> lia
  ·show 0<=c % 2147483629+1;lia
  ·show c % 2147483629+1 < 4294967296;lia
theorem sc27:FnScope ["_law_state_here","_law_many","_law_found","_law_mixed"] ["_law_state_here","_law_many"] (aJ (top 63)):=fS
theorem ok_choice (F:Fun K "_law_choice" "_law_choice" (top 63) f fd):FnOk P w K mg base CX0 1 f fd ["_law_state_here","_law_many"] gY:=by
 refine F.ok sc27 (fun vs H Q E h=>?_) (fun ai A outer s H vs Q E hr h=>?_)
 ·obtain ⟨st,n,rfl,_⟩:=h;rfl
 ·obtain ⟨st,n,rfl,⟨a,b,c,es,ha,hb,DZ⟩,h1,h2,q⟩:=h
  refine ⟨_,aA (cB (aZ iV (pX bB (pv 0) aB) aB (bj _))
    (aA (pss 2 sc27.nd (aV iC (pX bB (pv 0) aB) (pv 1)))
     (aA (bN (aV pG (pX bB (pv 0) aB) (pv 1)) (iz (pv 0) aB set_list)) (aG (aQ (pv 2))))) bh)
   (aA (bN (aV bG (pX bB (pv 0) aB) aB) (iz (pv 0) aB set_list))
   (aA (bN (aV iC (aV bG (aV bG (aV gJ (pX bB (pv 0) aB) aB) aB) (pX bB (pv 0) aB)) aB) (iz (pv 0) aB set_list))
   (aA (pss 3 sc27.nd (aV iC (aV bG (aV bG (aV gJ (pX bB (pv 0) aB) (pX bB (pv 0) aB)) (aV gJ aB (pX bB (pv 0) aB))) aB) aB))
   (aA (pss 3 sc27.nd (aV iC (aV bG (aV gJ (pv 3) (pv 3)) (aV gJ aB (pv 3))) aB))
   (aG (aQ (aV iC (aV pG (pv 3) aB) (pv 1)))))))),?_⟩
  refine ⟨_,rfl,st,_,0,.int a,rfl,rfl,SqL.of es,rfl,_,_,rfl,rfl,_,rfl,?_⟩;refine Ae (fun hc=>?_) (fun _=>?_)
  ·refine ⟨_,rfl,st,_,0,.int a,rfl,rfl,SqL.of es,rfl,_,rfl,_,_,rfl,rfl,(by show 0 < n;lia),?_⟩;refine ⟨_,rfl,st,_,0,.int a,rfl,rfl,SqL.of es,rfl,_,rfl,_,_,rfl,rfl,⟨by lia,h2⟩,_,rfl,st,_,0,0,rfl,rfl,es,rfl,_,rfl,?_⟩;exact q (a % n) (a / n) b c (Int.emod_nonneg a (by lia)) (Int.emod_lt_of_pos a (by lia)) (Int.ediv_nonneg ha (by lia)) hb DZ
  ·refine ⟨_,rfl,st,_,2,.int c,rfl,rfl,SqL.of es,rfl,_,_,rfl,rfl,_,rfl,st,_,2,2,rfl,rfl,es,rfl,?_⟩;have eL:([V.int a,V.int b,V.int c].set 2 ((fun i j:Int=>V.int (i+j)) c 1))=[V.int a,V.int b,V.int (c+1)]:=rfl;rw [eL];have jv:upd H st (.lst [.int a,.int b,.int (c+1)]) st=some (.lst [.int a,.int b,.int (c+1)]):=aa;refine ⟨_,rfl,st,_,1,.int b,rfl,rfl,SqL.of jv,rfl,_,_,rfl,rfl,.inl ⟨by lia,by lia⟩,_,_,rfl,rfl,_,rfl,st,_,2,.int (c+1),rfl,rfl,SqL.of jv,rfl,_,_,rfl,rfl,_,_,rfl,rfl,(by show (0:Int) < 2147483647;decide),_,rfl,st,_,1,1,rfl,rfl,jv,rfl,?_⟩;have Ip:0<=(b * 48271+29+(c+1)) % 2147483647:=Int.emod_nonneg _ (by decide);have K3:(b * 48271+29+(c+1)) % 2147483647 < 2147483647:=Int.emod_lt_of_pos _ (by decide)
   obtain ⟨m,hm⟩:∃ m,m=(b * 48271+29+(c+1)) % 2147483647:=⟨_,rfl⟩
   rw [<- hm] at Ip K3;have eL:([V.int a,V.int b,V.int (c+1)].set 1 ((fun i j:Int=>V.int (i % j)) (b * 48271+29+(c+1)) 2147483647))=[V.int a,V.int m,V.int (c+1)]:=by rw [hm];rfl
   rw [eL]
   have eu:upd (upd H st (.lst [.int a,.int b,.int (c+1)])) st (.lst [.int a,.int m,.int (c+1)])=upd H st (.lst [.int a,.int m,.int (c+1)]):=by
    funext z;by_cases hz:z=st
    ·rw [hz,aa,aa]
    ·rw [aC hz,aC hz,aC hz]
   rw [eu];have dE:upd H st (.lst [.int a,.int m,.int (c+1)]) st=some (.lst [.int a,.int m,.int (c+1)]):=aa;refine ⟨_,rfl,st,_,1,.int m,rfl,rfl,SqL.of dE,rfl,_,rfl,st,_,1,.int m,rfl,rfl,SqL.of dE,rfl,_,_,rfl,rfl,.inl ⟨by lia,by lia⟩,_,rfl,st,_,1,.int m,rfl,rfl,SqL.of dE,rfl,_,_,rfl,rfl,.inl ⟨by decide,by decide⟩,_,_,rfl,rfl,_,_,rfl,rfl,_,_,rfl,rfl,(by show (0:Int) < 2147483629;decide),?_⟩;have D0:0<=(m * m+39373 * m+7) % 2147483629:=Int.emod_nonneg _ (by decide);have qq:(m * m+39373 * m+7) % 2147483629 < 2147483629:=Int.emod_lt_of_pos _ (by decide);refine ⟨_,rfl,_,rfl,_,_,rfl,rfl,.inl ⟨Int.lt_of_lt_of_le (by decide) D0,Int.lt_trans qq (by decide)⟩,_,rfl,_,_,rfl,rfl,.inl ⟨by decide,by decide⟩,_,_,rfl,rfl,_,_,rfl,rfl,(by show (0:Int) < 2147483587;decide),?_⟩;refine ⟨_,rfl,_,_,rfl,rfl,⟨by decide,by decide⟩,_,rfl,_,_,rfl,rfl,(by show 0 < n;lia),?_⟩;exact q _ a m (c+1) (Int.emod_nonneg _ (by lia)) (Int.emod_lt_of_pos _ (by lia)) ha Ip (by lia)
end
theorem ok_b {X:Cx}{body:List Stmt}{t:TS}{R:TS->Prop}(h:BSs X body t)(q:R t):∃ t,PSs X body t/\R t:=⟨t,h.run,q⟩
def rr (rs:List Int)(i:Nat):Int:=rs.getD i 0
def bef (rs:List Int)(i j:Nat):Bool:=decide (rr rs j < rr rs i) || (decide (rr rs i=rr rs j) && decide (i<=j))
theorem jm {rs:List Int}{i j:Nat}:bef rs i j=true↔rr rs j < rr rs i\/(rr rs i=rr rs j/\i<=j):=by
 unfold bef;rw [Bool.or_eq_true,zAc,decide_eq_true_iff,decide_eq_true_iff,decide_eq_true_iff]
structure Ord (rs:List Int)(pl:List Nat):Prop where
 pm:pl.Perm (List.range rs.length)
 so:pl.Pairwise fun i j=>bef rs i j=true
theorem gZ (rs:List Int):∃ pl,Ord rs pl:=by
 refine ⟨(List.range rs.length).mergeSort (bef rs),List.mergeSort_perm _ _,List.pairwise_mergeSort (fun a b c h1 h2=>?_) (fun a b=>?_) _⟩
 ·rw [jm] at h1 h2 ⊢;lia
 ·rw [Bool.or_eq_true,jm,jm];lia
theorem Ec {rs:List Int}{p q:List Nat}(h:Ord rs p)(h':Ord rs q):p=q:=by
 refine List.Perm.eq_of_pairwise (fun a b _ _ h1 h2=>?_) h.so h'.so (h.pm.trans h'.pm.symm);rw [jm] at h1 h2;lia
def di (fs:List Int)(pl:List Nat):List Int:=pl.foldl (fun l i=>l.set i (l.getD i 0+1)) fs
theorem tV (fs:List Int)(pl:List Nat)(i:Nat):di fs (pl++[i])=(di fs pl).set i ((di fs pl).getD i 0+1):=by
 unfold di;rw [List.foldl_append];rfl
theorem jD:∀ (pl:List Nat) (fs:List Int),(di fs pl).length=fs.length
 | [],_=>rfl
 | i::pl,fs=>by
  show (di (fs.set i _) pl).length=_;rw [jD pl,List.length_set]
def fs (n:Int)(ws:List Int):List Int:=ws.map fun w=>n * w / ws.sum
def rs (n:Int)(ws:List Int):List Int:=ws.map fun w=>n * w % ws.sum
def lf (n:Int)(ws:List Int):Int:=n - (fs n ws).sum
def OkW (ws:List Int):Prop:=1<=ws.length/\ws.length<=80/\∀ w∈ws,1<=w/\w<=99
theorem qt {B:Int}:∀ {l:List Int},(∀ a∈l,a<=B)->l.sum<=B * l.length
 | [],_=>by simp
 | a::l,h=>by
  have h1:=qt (B:=B) (l:=l) fun b hb=>h b (.tail _ hb);have h2:=h a (.head _);rw [List.sum_cons,List.length_cons,show B * ((l.length+1:Nat):Int)=B * l.length+B by rw [Int.natCast_add,Int.mul_add];simp];lia
theorem gq:∀ {l:List Int},(∀ a∈l,0<=a)->0<=l.sum
 | [],_=>by simp
 | a::l,h=>by
  have h1:=gq (l:=l) fun b hb=>h b (.tail _ hb);have h2:=h a (.head _);rw [List.sum_cons];lia
theorem OkW.pos {ws:List Int}(h:OkW ws):1<=ws.sum:=by
 obtain ⟨h1,_,h3⟩:=h
 match ws,h1,h3 with
 | w::ws,_,h3 =>
  have:=gq (l:=ws) fun a ha=>by have:=h3 a (.tail _ ha);lia
  have:=h3 w (.head _);rw [List.sum_cons];lia
theorem OkW.top {ws:List Int}(h:OkW ws):ws.sum<=7920:=by
 have h1:=qt (B:=99) fun a ha=>(h.2.2 a ha).2;have:=h.2.1;lia
theorem divs (n T:Int):∀ ws:List Int,T * (ws.map fun w=>n * w / T).sum+(ws.map fun w=>n * w % T).sum=n * ws.sum
 | []=>by simp
 | w::ws=>by
  have h1:=divs n T ws;have h2:=Int.mul_ediv_add_emod (n * w) T;simp only [List.map_cons,List.sum_cons,Int.mul_add];lia
theorem Ed (n:Int)(ws:List Int):ws.sum * lf n ws=(rs n ws).sum:=by
 have h:=divs n ws.sum ws;unfold lf fs rs;rw [Int.mul_sub,Int.mul_comm ws.sum n];lia
theorem Gh {n:Int}{ws:List Int}(h:OkW ws):∀ r∈rs n ws,0<=r:=fun r hr=>by
 obtain ⟨w,_,rfl⟩:=zA5.mp hr;have:=h.pos;exact Int.emod_nonneg _ (by lia)
theorem Gi {n:Int}{ws:List Int}(h:OkW ws):∀ r∈rs n ws,r<=ws.sum:=fun r hr=>by
 obtain ⟨w,_,rfl⟩:=zA5.mp hr;have:=h.pos;exact Int.le_of_lt (Int.emod_lt_of_pos _ (by lia))
theorem qu (n:Int)(ws:List Int):(fs n ws).length=ws.length:=zA1 _
theorem jE (n:Int)(ws:List Int):(rs n ws).length=ws.length:=zA1 _
theorem yt {n:Int}{ws:List Int}(h:OkW ws):0<=lf n ws:=by
 have h1:=Ed n ws;have h2:=gq (Gh (n:=n) h);have h3:=h.pos;refine Int.le_of_not_gt fun c=>?_;have:=Int.mul_le_mul_of_nonneg_left (c:=ws.sum) (show lf n ws<=-1 by lia) (by lia);lia
theorem Cj {n:Int}{ws:List Int}(h:OkW ws):lf n ws<=ws.length:=by
 have h1:=Ed n ws;have h2:=qt (Gi (n:=n) h);rw [jE] at h2;have h3:=h.pos;refine Int.le_of_not_gt fun c=>?_;have:=Int.mul_le_mul_of_nonneg_left (c:=ws.sum) (show (ws.length:Int)+1<=lf n ws by lia) (by lia);rw [Int.mul_add] at this;lia
theorem Ef {ws:List Int}(h:OkW ws):lf ws.sum ws=0:=by
 have h1:=Ed ws.sum ws
 have h2:(rs ws.sum ws).sum<=0:=by
  have:=qt (B:=0) (l:=rs ws.sum ws) fun r hr=>by
   obtain ⟨w,_,rfl⟩:=zA5.mp hr;rw [Int.mul_emod_right];exact Int.le_refl _
  lia
 have h3:=h.pos;have h4:=yt (n:=ws.sum) h;refine Int.le_antisymm (Int.le_of_not_gt fun c=>?_) h4;have:=Int.mul_le_mul_of_nonneg_left (c:=ws.sum) (show 1<=lf ws.sum ws by lia) (by lia);lia
theorem oH:∀ (pl:List Nat) (l:List Int) (i:Nat),i < l.length->(di l pl).getD i 0=l.getD i 0+pl.count i
 | [],l,i,_=>by simp [di]
 | j::pl,l,i,h=>by
  show (di (l.set j (l.getD j 0+1)) pl).getD i 0=_;rw [oH pl _ i (by rw [List.length_set];exact h),List.count_cons];by_cases e:j=i
  ·subst e;rw [zA7,List.getElem?_set_self h,Option.getD_some,beq_self_eq_true,zAw rfl];lia
  ·rw [List.getD_eq_getElem?_getD,List.getElem?_set_ne e,<- List.getD_eq_getElem?_getD,if_neg (by simp [e])];lia
theorem Ord.nd {r:List Int}{pl:List Nat}(h:Ord r pl):pl.Nodup:=h.pm.nodup_iff.mpr List.nodup_range
theorem Ord.len {r:List Int}{pl:List Nat}(h:Ord r pl):pl.length=r.length:=by rw [h.pm.length_eq,List.length_range]
theorem Ord.lt {r:List Int}{pl:List Nat}(h:Ord r pl):∀ i∈pl,i < r.length:=fun i hi=>List.mem_range.mp (h.pm.mem_iff.mp hi)
def res (n:Int)(ws:List Int):List Int:=di (fs n ws) ((gZ (rs n ws)).choose.take (lf n ws).toNat)
theorem Eg {n:Int}{ws:List Int}{pl:List Nat}(h:Ord (rs n ws) pl):di (fs n ws) (pl.take (lf n ws).toNat)=res n ws:=by
 unfold res;rw [Ec h (gZ (rs n ws)).choose_spec]
theorem res_len (n:Int)(ws:List Int):(res n ws).length=ws.length:=by
 unfold res;rw [jD,qu]
theorem res_get {n:Int}{ws:List Int}(h:OkW ws)(n0:0<=n)(n1:n<=ws.sum){i:Nat}{r w:Int}(hr:(res n ws)[i]?=some r)(hw:ws[i]?=some w):0<=r/\r<=w:=by
 have hi:i < ws.length:=(zAa.mp hw).1;have hp:=h.pos;have ww:=h.2.2 w (zB6 hw)
 have e:r=n * w / ws.sum+((gZ (rs n ws)).choose.take (lf n ws).toNat).count i:=by
  have:=oH ((gZ (rs n ws)).choose.take (lf n ws).toNat) (fs n ws) i (by rw [qu];exact hi)
  have e2:(fs n ws).getD i 0=n * w / ws.sum:=by
   unfold fs;rw [zA7,zAb,hw];rfl
  rw [e2] at this;rw [<- this,show di (fs n ws) _=res n ws from rfl,zA7,hr];rfl
 have c1:((gZ (rs n ws)).choose.take (lf n ws).toNat).count i<=1:=List.nodup_iff_count.mp ((gZ (rs n ws)).choose_spec.nd.sublist (List.take_sublist _ _)) i;have q0:0<=n * w / ws.sum:=Int.ediv_nonneg (Int.mul_nonneg n0 (by lia)) (by lia);refine ⟨by lia,?_⟩;by_cases en:n=ws.sum
 ·have:((gZ (rs n ws)).choose.take (lf n ws).toNat)=[]:=by
   rw [en,Ef h];rfl
  rw [this] at e;rw [en,Int.mul_ediv_cancel_left _ (by lia)] at e;simp at e;lia
 ·have:n * w / ws.sum < w:=by
   refine Int.ediv_lt_of_lt_mul (by lia) ?_;rw [Int.mul_comm w];exact Int.mul_lt_mul_of_pos_right (by lia) (by lia)
  lia
theorem oJ {K:PySem.W.Frag}{te:TE}{p:Addr}{ws:List Int}{eJ:St}{H0:Hp}{Fin:List V->Hp->Prop}(f:Int->Int)(ep:H0 p=some (.tup (ws.map V.int)))(hl:ws.length < sizeLine)
  (vS:∀ (z:Int) (Q:VK),z∈ws->Q (.int (f z)) H0->te (eJ.set 0 (some (.int z))) H0 Q) (fin:Fin ((ws.map f).map V.int) H0):kh (Itt K p) (bF 0) vL te Fin eJ H0:=by
 refine cJ ws.length (fun i ys σ H=>H=H0/\(∀ o,σ.set 0 o=eJ.set 0 o)/\ys=((ws.take i).map f).map V.int) ⟨rfl,fun _=>rfl,rfl⟩ hl ?_ ?_
 ·rintro i ys σ H hi hy ⟨rfl,mN,rfl⟩;have hz:(ws.map V.int)[i]?=some (.int ws[i]):=by rw [zAb,zA0 hi];rfl
  refine ⟨⟨_,_,SqT.of ep,hz⟩,fun v H' y' R hR=>?_⟩;obtain ⟨rfl,y'⟩:=y';have hv:=y' _ (SqT.of ep);rw [hz] at hv;cases hv;show te (σ.set 0 (some (.int ws[i]))) _ _;rw [mN];refine vS ws[i] _ (zAh hi) (hR _ _ _ ⟨rfl,fun o=>by rw [List.set_set],?_⟩);rw [zAj,zA0 hi,zA4,zA4];rfl
 ·rintro ys σ H hy ⟨rfl,mN,rfl⟩;refine ⟨⟨_,SqT.of ep,by rw [zA1];exact zA3 _⟩,?_⟩;rw [zAm];exact fin
def wD (ws:List Int):PyData:=.tuple (ws.map PyData.int)
theorem rP:∀ (r:List Int),szs (r.map PyData.int)=r.length
 | []=>rfl
 | _::r=>by
  show 1+szs (r.map PyData.int)=r.length+1;rw [rP r,Nat.add_comm]
theorem Hy (ws:List Int):sz (wD ws)=1+ws.length:=by
 show 1+szs (ws.map PyData.int)=_;rw [rP]
theorem HB {ws:List Int}(h:OkW ws):gW (wD ws)=true:=by
 unfold gW;rw [zAc];refine ⟨?_,List.all_eq_true.mpr fun d hd=>?_⟩
 ·show (true && (decide (1<=((ws.map PyData.int).length:Int)) && decide (((ws.map PyData.int).length:Int)<=80)))=true;have h1:=h.1;have h2:=h.2.1;rw [zA1,zAt (by lia),zAt (by lia)];rfl
 ·obtain ⟨w,hw,rfl⟩:=zA5.mp hd;have:=h.2.2 w hw;show (true && (decide (1<=w) && decide (w<=99)))=true;rw [zAt this.1,zAt this.2];rfl
inductive SpRefuseI (vs:List V)(H:Hp)(Q:VK):Prop
 | mk:∀ n p ws,(vs=[.int n,.ref p])->(H p=some (.tup (ws.map V.int)))->(OkW ws)->(0<=n)->(n<=ws.sum)->(∀ H',Same H H'->Q .non H')->SpRefuseI  vs H Q
def rQ:Sp:=fun vs H Q _=>SpRefuseI  vs H Q
inductive SpPlacesI (vs:List V)(H:Hp)(Q:VK):Prop
 | mk:∀ p rests,(vs=[.ref p])->(H p=some (.lst ((rests:List Int).map V.int)))->(rests.length < sizeLine)->(∀ H' q pl,Ord rests pl->Same H H'->H q=none->H' q=some (.lst (pl.map fun j:Nat=>V.int (j:Int)))->Q (.ref q) H')->SpPlacesI  vs H Q
def rR:Sp:=fun vs H Q _=>SpPlacesI  vs H Q
inductive SpPartsI (vs:List V)(H:Hp)(Q:VK):Prop
 | mk:∀ n p ws,(vs=[.int n,.ref p])->(H p=some (.tup (ws.map V.int)))->(OkW ws)->(0<=n)->(n<=ws.sum)->(∀ H' q,Same H H'->H' q=some (.tup ((res n ws).map V.int))->Q (.ref q) H')->SpPartsI  vs H Q
def spParts:Sp:=fun vs H Q _=>SpPartsI  vs H Q
def gB (H:Hp)(a:Addr):Nat:=match H a with
 | some (.tup [_,.int y])=>y.toNat
 | _=>0
def rowAt (H:Hp)(a:Addr):List Int:=match H a with
 | some (.tup [.int x,.int y])=>[x,y]
 | _=>[]
theorem Gj {rests:List Int}{i:Nat}{x:Int}(h:rests[i]?=some x):rr rests i=x:=by
 unfold rr;rw [zA7,h];rfl
theorem Be {rests:List Int}{i j:Nat}(h:HT.lexLt [-(rr rests j),(j:Int)] [-(rr rests i),(i:Int)]=false):bef rests i j=true:=by
 rw [jm];rw [HT.lexLt_cons] at h;by_cases e:-(rr rests j)=-(rr rests i)
 ·rw [zAw e,HT.lexLt_cons] at h;by_cases e2:(j:Int)=(i:Int)
  ·exact .inr ⟨by lia,by lia⟩
  ·rw [zAv e2] at h;have:=of_decide_eq_false h;exact .inr ⟨by lia,by lia⟩
 ·rw [zAv e] at h;have:=of_decide_eq_false h;exact .inl (by lia)
section
variable {P:Program}{w:World}{K:PySem.W.Frag}{mg:Str->Option Value}{base:Heap}{f:Addr}{fd:FuncData}
theorem HD:FnScope ["sacks","weights"] ["sacks","weights"] (aJ (top 38)):=fS
theorem ok_refuse (F:Fun K "refuse_unpartable" "refuse_unpartable" (top 38) f fd)(Ts:mg "sum" = none)(c1:Cal P w K mg base 4 "are_weights" ["thing"] (spT gW))(c2:Cal P w K mg base 2 "is_whole_from" ["thing","least","most"] (jO ni)) :
  FnOk P w K mg base CX0 5 f fd ["sacks","weights"] rQ:=by
 refine F.ok HD (fun vs H Q E h=>?_) (fun ai A outer s H vs Q E hr h=>?_)
 ·obtain ⟨n,p,ws,rfl,_⟩:=h;rfl
 ·obtain ⟨n,p,ws,rfl,ep,ok,n0,n1,q⟩:=h
  refine ⟨_,aA (cB (dq (eQ (aH c1 hr (aP (pv 1) ao)))) (aG iT) bh)
   (aG (cB (dq (eQ (aH c2 hr (aP (pv 0) (aP aB (aP (aO (d9 rfl) rfl Ts boot_sum (aq (pv 1) ao)) ao)))))) (aG iT) bh)),?_⟩
  refine aF ?_;refine ⟨_,rfl,fun _=>False,_,wD ws,rfl,.tup ep (IsThs.ints ws),by rw [Hy];have:=ok.2.1;lia,fun H1 s1=>⟨_,rfl,?_⟩⟩;rw [HB ok];refine bD ?_;dsimp only;refine ⟨_,rfl,_,rfl,p,ws,rfl,.inr (SqT.of (s1 _ _ ep)),fun _=>False,_,.int n,0,_,rfl,.int n,(by show 1<=4000;decide),fun H2 s2=>⟨_,rfl,?_⟩⟩
  have e:ni (.int n) 0 ws.sum=true:=by
   show (true && (decide (0<=n) && decide (n<=ws.sum)))=true;rw [zAt n0,zAt n1];rfl
  rw [e];exact bD (q H2 (s1.trans s2))
theorem sc13:FnScope ["rests","ranked"] ["rests"] (aJ (top 39)):=fS
theorem ok_places (F:Fun K "places_by_rest" "places_by_rest" (top 39) f fd)(Te:mg "enumerate" = none)(Ts:mg "sorted" = none):FnOk P w K mg base CX0 1 f fd ["rests"] rR:=by
 refine F.ok sc13 (fun vs H Q E h=>?_) (fun ai A outer s H vs Q E hr h=>?_)
 ·obtain ⟨p,rests,rfl,_⟩:=h;rfl
 ·obtain ⟨p,rests,rfl,ep,hz,q⟩:=h
  refine ⟨_,aA (pss 1 sc13.nd (aO qe rfl Ts boot_sorted (aq (bH (g:=jL K 2 (bQ (bF 0) (bQ (bF 1) jU))) ["at","rest"] [none,none] rfl (EL.pi_enum rfl Te (aq (pv 0) ao))
    (fun C fp pins s₂ H₂=>⟨dI rfl rfl (aj (aY (i:=0) (nd2 _ _ (by decide)) rfl (Or.inl rfl) (Or.inr rfl)) (aj (aY (i:=1) (nd2 _ _ (by decide)) rfl (Or.inl rfl) (Or.inr rfl)) aR)),bL,
     bA (aq (EY Di (pv 1)) (aq (pv 0) ao))⟩) (fun C=>trivial) ⟨rfl,rfl,rfl,rfl⟩) ao)))
   (aG (aQ (bH (g:=jL K 2 (bQ (bF 0) (bQ (bF 1) jU))) ["minus","at"] [none,none] rfl (cC (pv 1))
    (fun C fp pins s₂ H₂=>⟨dI rfl rfl (aj (aY (i:=0) (nd2 _ _ (by decide)) rfl (Or.inl rfl) (Or.inr rfl)) (aj (aY (i:=1) (nd2 _ _ (by decide)) rfl (Or.inl rfl) (Or.inr rfl)) aR)),bL,
     pv 1⟩) (fun C=>trivial) ⟨rfl,rfl,rfl,rfl⟩))),?_⟩
  refine aF ?_;refine ⟨_,rfl,p,_,rfl,SqL.of ep,cJ rests.length (fun i ys σ Hc=>Same H Hc/\(∃ o1 o2,σ=[o1,o2])/\∃ ts:List Addr,ys=ts.map V.ref/\∀ j,j < i->∃ a,ts[j]?=some a/\Hc a=some (.tup [.int (-(rr rests j)),.int (j:Int)])) ⟨Same.refl H,⟨_,_,rfl⟩,[],rfl,fun j hj=>absurd hj (Nat.not_lt_zero _)⟩ hz ?_ ?_⟩
  ·rintro i ys σ Hc hi hy ⟨s1,⟨o1,o2,rfl⟩,ts,rfl,AW⟩;rw [zA1] at hy;have nr:SqL K Hc p (rests.map V.int):=SqL.of (s1 _ _ ep)
   have hx:(rests.map V.int)[i]?=some (.int (rr rests i)):=by
    rw [zAb,zA0 hi,Gj (zA0 hi)];rfl
   refine ⟨⟨_,_,nr,hx⟩,fun v H' y R hR=>?_⟩;obtain ⟨T,nT,rfl,y⟩:=y;obtain ⟨x',iN,rfl⟩:=y _ nr;rw [hx] at iN;cases iN;have s2:=s1.updR (o:=.tup [.int (i:Int),.int (rr rests i)]) nT;refine ⟨T,_,rfl,SqT.of aa,rfl,_,_,rfl,_,_,rfl,rfl,_,rfl,rr rests i,rfl,_,rfl,zL,fun t ht=>?_⟩;refine hR _ _ _ ⟨s2.updR ht,⟨_,_,rfl⟩,ts++[t],by rw [zA4];rfl,fun j hj=>?_⟩;by_cases e:j < i
   ·obtain ⟨a,h1,h2⟩:=AW j e;refine ⟨a,by rw [zBb (by lia)];exact h1,?_⟩;exact Same.upd ht _ _ (Same.upd nT _ _ h2)
   ·have e:j=i:=by lia
    subst e;refine ⟨t,by rw [zBc (by lia),hy,Nat.sub_self];rfl,aa⟩
  ·rintro ys σ Hc hy ⟨s1,_,ts,rfl,AW⟩;rw [zA1] at hy;refine ⟨⟨_,SqL.of (s1 _ _ ep),by rw [zA1];exact zA3 _⟩,fun D hD=>?_⟩;have s2:=s1.updR (o:=.lst (ts.map V.ref)) hD
   have qr:∀ j,j < rests.length->∃ a,ts[j]?=some a/\upd Hc D (.lst (ts.map V.ref)) a=some (.tup [.int (-(rr rests j)),.int (j:Int)]):=fun j hj=>by
    obtain ⟨a,h1,h2⟩:=AW j hj;exact ⟨a,h1,Same.upd hD _ _ h2⟩
   have eD:=aa (H:=Hc) (a:=D) (o:=.lst (ts.map V.ref));generalize upd Hc D (.lst (ts.map V.ref))=H2 at s2 qr eD ⊢;clear AW hD s1
   have nv:∀ a∈ts,∃ j,j < rests.length/\H2 a=some (.tup [.int (-(rr rests j)),.int (j:Int)]):=fun a ha=>by
    obtain ⟨j,hj,e⟩:=List.getElem_of_mem ha;obtain ⟨b,h1,h2⟩:=qr j (by lia);rw [zA0 hj] at h1;injection h1 with h1;refine ⟨j,by lia,?_⟩;rw [<- e,h1];exact h2
   refine ⟨D,ts,rowAt H2,rfl,SqL.of eD,fun a ha=>?_,fun q' l' hq pm so=>?_⟩
   ·obtain ⟨j,hj,e⟩:=nv a ha;have er:rowAt H2 a=[-(rr rests j),(j:Int)]:=by unfold rowAt;rw [e]
    rw [er];exact ⟨SqT.of e,by simp⟩
   have kX:∀ a∈l',∃ j,j < rests.length/\H2 a=some (.tup [.int (-(rr rests j)),.int (j:Int)]):=fun a ha=>nv a (pm.mem_iff.mp ha)
   have sn:∀ a∈l',H2 a=some (.tup [.int (-(rr rests (gB H2 a))),.int (gB H2 a:Int)])/\rowAt H2 a=[-(rr rests (gB H2 a)),(gB H2 a:Int)]:=fun a ha=>by
    obtain ⟨j,hj,e⟩:=kX a ha;have er:rowAt H2 a=[-(rr rests j),(j:Int)]:=by unfold rowAt;rw [e]
    have es:gB H2 a=j:=by unfold gB;rw [e];exact zAi j
    rw [er,es];exact ⟨e,rfl⟩
   have ord:Ord rests (l'.map (gB H2)):=by
    refine ⟨?_,?_⟩
    ·refine (pm.map _).trans (List.Perm.of_eq (List.ext_getElem? fun j=>?_));by_cases hj:j < rests.length
     ·obtain ⟨a,h1,h2⟩:=qr j hj;rw [zAb,h1,List.getElem?_range hj];show some (gB H2 a)=some j;unfold gB;rw [h2];exact congrArg some (zAi j)
     ·rw [List.getElem?_eq_none (by rw [zA1];lia),List.getElem?_eq_none (by rw [List.length_range];lia)]
    ·refine List.pairwise_map.mpr (so.imp_of_mem fun {a b} ha hb h=>?_);rw [(sn a ha).2,(sn b hb).2] at h;exact Be h
   have s3:=s2.updR (o:=.lst (l'.map V.ref)) hq;have PQ:l'.length=rests.length:=by rw [pm.length_eq,hy]
   have xI:=aa (H:=H2) (a:=q') (o:=.lst (l'.map V.ref));have D1:∀ a∈l',upd H2 q' (.lst (l'.map V.ref)) a=some (.tup [.int (-(rr rests (gB H2 a))),.int (gB H2 a:Int)]):=fun a ha=>Same.upd hq _ _ (sn a ha).1;generalize gB H2=sd at ord D1;generalize upd H2 q' (.lst (l'.map V.ref))=H3 at s3 xI D1 ⊢;dsimp only;refine iM ?_;refine ⟨_,rfl,q',rfl,⟨_,SqL.of xI⟩,cJ rests.length (fun i ys σ Hc=>Same H3 Hc/\(∃ o1 o2,σ=[o1,o2])/\ys=((l'.take i).map sd).map fun j:Nat=>V.int (j:Int)) ⟨Same.refl H3,⟨_,_,rfl⟩,rfl⟩ hz ?_ ?_⟩
   ·rintro i ys σ Hc hi hy ⟨s4,⟨o1,o2,rfl⟩,rfl⟩;have fw:i < l'.length:=by lia
    have hu:(l'.map V.ref)[i]?=some (.ref l'[i]):=by rw [zAb,zA0 fw];rfl
    refine ⟨⟨_,_,SqL.of (s4 _ _ xI),hu⟩,fun v H' y R hR=>?_⟩;obtain ⟨rfl,y⟩:=y;have hv:=y _ (SqL.of (s4 _ _ xI));rw [hu] at hv;cases hv;refine ⟨l'[i],_,rfl,SqT.of (s4 _ _ (D1 _ (zAh fw))),rfl,_,_,rfl,_,_,rfl,rfl,_,rfl,hR _ _ _ ⟨s4,⟨_,_,rfl⟩,?_⟩⟩;rw [zAj,zA0 fw,zA4,zA4];rfl
   ·rintro ys σ Hc nB ⟨s4,_,rfl⟩;refine ⟨⟨_,SqL.of (s4 _ _ xI),by rw [zA1];lia⟩,fun D' Iq=>?_⟩;have s5:=s3.trans s4;have hn:H D'=none:=s5.free Iq;refine q _ D' _ ord (s5.updR Iq) hn ?_;rw [aa,List.take_of_length_le (by lia)]
end
theorem Bf {n j:Nat}(h:j < n):ixN n (j:Int)=some j:=by
 unfold ixN;rw [zAw (by lia),zAw (by lia),zAi]
theorem Eh {ws:List Int}(ok:OkW ws):ws.length < sizeLine:=by
 have:=ok.2.1;rw [sizeLine_eq];lia
section
variable {P:Program}{w:World}{K:PySem.W.Frag}{mg:Str->Option Value}{base:Heap}{f:Addr}{fd:FuncData}
theorem Gk:(["weight","sacks","together"]:List Str).Nodup:=by decide +kernel
theorem sc14:FnScope ["sacks","weights","together","parts","rests","left","at"] ["sacks","weights"] (aJ (top 40)):=fS
theorem ok_parts (F:Fun K "parts_of" "parts_of" (top 40) f fd)(T:Mg mg)(Ts:mg "sum" = none)(c1:Cal P w K mg base 1 "places_by_rest" ["rests"] rR):FnOk P w K mg base CX0 2 f fd ["sacks","weights"] spParts:=by
 refine F.ok sc14 (fun vs H Q E h=>?_) (fun ai A outer s H vs Q E hr h=>?_)
 ·obtain ⟨n,p,ws,rfl,_⟩:=h;rfl
 ·obtain ⟨n,p,ws,rfl,ep,ok,n0,n1,q⟩:=h
  refine ⟨_,aA (pC (i:=2) sc14.nd rfl (Or.inr rfl) (aO (d9 rfl) rfl Ts boot_sum (aq (pv 1) ao)))
   (aA (ir (i:=3) ["weight","sacks","together"] [none,some 0,some 2] rfl sc14.nd rfl (Or.inl rfl) (fZ (pv 1))
    (fun C fp pins s₂ H₂=>⟨pgn 0 Gk,bL,aV pG (aV gJ (pv 1) (pv 0)) (pv 2)⟩) (fun C=>cI (cI trivial)) ⟨rfl,rfl,rfl,rfl⟩)
   (aA (ir (i:=4) ["weight","sacks","together"] [none,some 0,some 2] rfl sc14.nd rfl (Or.inl rfl) (fZ (pv 1))
    (fun C fp pins s₂ H₂=>⟨pgn 0 Gk,bL,aV iC (aV gJ (pv 1) (pv 0)) (pv 2)⟩) (fun C=>cI (cI trivial)) ⟨rfl,rfl,rfl,rfl⟩)
   (aA (pss 5 sc14.nd (aV gH (pv 0) (aO (d9 rfl) rfl Ts boot_sum (aq (pv 3) ao))))
   (aA (bV zB5 rfl (cC (qO Ab (aH c1 hr (aq (pv 4) ao)) uo (uq (pv 5)))) (pgn 6 sc14.nd)
    (aG (jQ (pv 3) (pv 6) fX aB sS set_list)))
   (aG (aQ (cZ cO rfl T.tuple boot_tuple (aq (pv 3) ao)))))))),?_⟩
  have hp:=ok.pos;have ht:=ok.top;have xS:=Eh ok;refine aF ?_;refine ⟨_,rfl,p,ws,rfl,.inr (SqT.of ep),?_⟩;dsimp only;refine aF ?_;refine ⟨_,rfl,p,rfl,⟨_,SqT.of ep⟩,oJ (fun z=>n * z / ws.sum) ep xS (fun z Q hz h=>⟨_,rfl,_,rfl,_,_,rfl,rfl,.inl ⟨by lia,by lia⟩,_,rfl,_,_,rfl,rfl,⟨by lia,by lia⟩,h⟩) ?_⟩;rw [show ws.map (fun z=>n * z / ws.sum)=fs n ws from rfl];intro l1 cw;have s1:=Same.upd (o:=.lst ((fs n ws).map V.int)) cw;have el1:=aa (H:=H) (a:=l1) (o:=.lst ((fs n ws).map V.int));generalize upd H l1 _=H1 at s1 el1 ⊢;dsimp only;refine aF ?_;refine ⟨_,rfl,p,rfl,⟨_,SqT.of (s1 _ _ ep)⟩,oJ (fun z=>n * z % ws.sum) (s1 _ _ ep) xS (fun z Q hz h=>⟨_,rfl,_,rfl,_,_,rfl,rfl,.inl ⟨by lia,by lia⟩,_,rfl,_,_,rfl,rfl,(by show 0 < ws.sum;lia),h⟩) ?_⟩;rw [show ws.map (fun z=>n * z % ws.sum)=rs n ws from rfl];intro l2 fF;have s2:=s1.updR (o:=.lst ((rs n ws).map V.int)) fF;have el2:=aa (H:=H1) (a:=l2) (o:=.lst ((rs n ws).map V.int));have ki:=Same.upd (o:=.lst ((rs n ws).map V.int)) fF _ _ el1;have sR:H l1=none:=cw;clear cw fF;generalize upd H1 l2 _=H2 at s2 el2 ki ⊢;clear el1 s1;dsimp only;refine aF ?_;refine ⟨_,rfl,_,rfl,l1,fs n ws,rfl,.inl (SqL.of ki),_,_,rfl,rfl,?_⟩;show _;dsimp only;rw [show n - (fs n ws).sum=lf n ws from rfl];refine aF ?_;refine ⟨_,rfl,l2,rs n ws,rfl,el2,by rw [jE];exact xS,fun H3 l3 pl ord s3 K4 el3=>⟨_,rfl,_,rfl,l3,_,rfl,SqL.of el3,fun l4 tj=>⟨l4,rfl,⟨_,SqL.of aa⟩,?_⟩⟩⟩;have PR:=yt (n:=n) ok;have PU:=Cj (n:=n) ok;have K5:=ord.len;rw [jE] at K5
  have D2:mH (pl.map fun j:Nat=>V.int (j:Int)) none (some (lf n ws))=(pl.take (lf n ws).toNat).map fun j:Nat=>V.int (j:Int):=by
   rw [List.map_take,<- lN (i:=(lf n ws).toNat) (by rw [zA1];lia),show ((lf n ws).toNat:Int)=lf n ws by lia]
  rw [D2];have fin:=Eg ord
  have inr:∀ j∈pl.take (lf n ws).toNat,j < ws.length:=fun j hj=>by
   have:=ord.lt j (List.mem_of_mem_take hj);rw [jE] at this;exact this
  generalize pl.take (lf n ws).toNat=pk at fin inr tj ⊢;have s4:=(s2.trans s3).updR (o:=.lst (pk.map fun j:Nat=>V.int (j:Int))) tj;have el4:=aa (H:=H3) (a:=l4) (o:=.lst (pk.map fun j:Nat=>V.int (j:Int)));have yb:=Same.upd (o:=.lst (pk.map fun j:Nat=>V.int (j:Int))) tj _ _ (s3 _ _ ki)
  have K6:l4≠l1:=fun z=>by
   rw [z,s3 _ _ ki] at tj;cases tj
  generalize upd H3 l4 (.lst (pk.map fun j:Nat=>V.int (j:Int)))=H4 at s4 el4 yb ⊢;clear tj el3 K4 s3 ki el2 s2;refine eU (xs:=pk.map fun j:Nat=>V.int (j:Int)) (fun i σ Hc=>∃ o6,σ=[some (.int n),some (.ref p),some (.int ws.sum),some (.ref l1),some (.ref l2),some (.int (lf n ws)),o6]/\Same H Hc/\Hc l4=some (.lst (pk.map fun j:Nat=>V.int (j:Int)))/\Hc l1=some (.lst ((di (fs n ws) (pk.take i)).map V.int))) ?_ ?_ ?_ ?_
  ·exact ⟨none,rfl,s4,el4,yb⟩
  ·rintro i σ Hc hi ⟨o6,rfl,s5,e4,e1⟩;exact SqL.of e4
  ·rintro i v σ Hc hv ⟨o6,rfl,s5,e4,e1⟩;rw [zAb] at hv
   cases hj:pk[i]? with
   | none=>rw [hj] at hv;cases hv
   | some j =>
    rw [hj] at hv;cases hv;refine aK ?_
    have kp:∀ o,Same H (upd Hc l1 o):=fun o b u e=>by
     rw [aC (aD e sR)];exact s5 _ _ e
    have ax:j < (di (fs n ws) (pk.take i)).length:=by
     rw [jD,qu];exact inr j (zB6 hj)
    have hx:((di (fs n ws) (pk.take i)).map V.int)[((j:Nat):Int).toNat]?=some (.int ((di (fs n ws) (pk.take i)).getD j 0)):=by
     rw [zAi,zAb,zA0 ax,zA7,zA0 ax];rfl
    refine ⟨_,rfl,_,rfl,l1,_,(j:Int),_,rfl,rfl,SqL.of e1,by lia,hx,_,_,rfl,rfl,l1,_,(j:Int),j,rfl,rfl,e1,Bf (by rw [zA1];exact ax),?_⟩;refine ⟨_,rfl,kp _,by rw [aC K6];exact e4,?_⟩;rw [aa,zAj,hj];show _=some (HO.lst ((di (fs n ws) (pk.take i++[j])).map V.int));rw [tV,List.map_set]
  ·rintro σ Hc ⟨o6,rfl,s5,e4,e1⟩;rw [zA1,zAm,fin] at e1;dsimp only;refine iM ?_;exact ⟨_,rfl,l1,_,rfl,.inl ⟨SqL.of e1,fun t ht=>q _ t (s5.updR ht) aa⟩⟩
theorem sc15:FnScope ["sacks","weights"] ["sacks","weights"] (aJ (top 41)):=fS
theorem ok_parted (F:Fun K "parted" "parted" (top 41) f fd)(c1:Cal P w K mg base 5 "refuse_unpartable" ["sacks","weights"] rQ)(c2:Cal P w K mg base 2 "parts_of" ["sacks","weights"] spParts):FnOk P w K mg base CX0 6 f fd ["sacks","weights"] spParts:=by
 refine F.ok sc15 (fun vs H Q E h=>?_) (fun ai A outer s H vs Q E hr h=>?_)
 ·obtain ⟨n,p,ws,rfl,_⟩:=h;rfl
 ·obtain ⟨n,p,ws,rfl,ep,ok,n0,n1,q⟩:=h;refine ⟨_,aA (dH (aH c1 hr (aq (pv 0) (aq (pv 1) ao)))) (aG (aQ (aH c2 hr (aq (pv 0) (aq (pv 1) ao))))),?_⟩;refine aF ?_;refine ⟨_,rfl,_,rfl,n,p,ws,rfl,ep,ok,n0,n1,fun H1 s1=>?_⟩;dsimp only;refine iM ?_;exact ⟨_,rfl,_,rfl,n,p,ws,rfl,s1 _ _ ep,ok,n0,n1,fun H2 t s2 et=>q H2 t (s1.trans s2) et⟩
end
end K90P
namespace K90
open PySem L2
def cM:Int->List (List Int)->List Int
 | _,[]=>[]
 | w,r::rs=>(if w < fl r 3 then w else fl r 3)::cM (w - (if w < fl r 3 then w else fl r 3)) rs
theorem iR:∀ (w:Int) (rs:List (List Int)) (r:List Int),cM w (rs++[r])=cM w rs++[if w - (cM w rs).sum < fl r 3 then w - (cM w rs).sum else fl r 3]
 | w,[],r=>by
  show [_]=[_];rw [show (cM w []).sum=0 from rfl,Int.sub_zero]
 | w,q::rs,r=>by
  rw [List.cons_append];unfold cM;rw [iR _ rs r,List.cons_append,List.sum_cons,show ∀ a b c:Int,a - b - c=a - (b+c) from fun a b c=>by lia]
theorem dC:∀ (w:Int) (rs:List (List Int)),(cM w rs).length=rs.length
 | _,[]=>rfl
 | w,r::rs=>by
  unfold cM;rw [zAe,zAe,dC]
inductive SpMadeI (vs:List V)(H:Hp)(Q:VK):Prop
 | mk:∀ w l xs rs,(vs=[.int w,.ref l])->(H l=some (.lst xs))->(Els H xs rs)->((∀ r∈rs,r.length=4))->(rs.length<=100000)->(∀ m H',Same H H'->H m=none->H' m=some (.lst ((cM w rs).map V.int))->Q (.ref m) H')->SpMadeI  vs H Q
def yu:Sp:=fun vs H Q _=>SpMadeI  vs H Q
def bf (w:Int)(rs:List (List Int)):List Int:=if (wts rs).sum<=w then wts rs else K90P.res w (wts rs)
inductive SpSharesI (vs:List V)(H:Hp)(Q:VK):Prop
 | mk:∀ w l xs rs,(vs=[.int w,.ref l])->(H l=some (.lst xs))->(Els H xs rs)->((∀ r∈rs,r.length=4/\1<=fl r 3/\fl r 3<=99))->(rs.length<=80)->(0<=w)->(∀ t H',Same H H'->H' t=some (.tup ((bf w rs).map V.int))->Q (.ref t) H')->SpSharesI  vs H Q
def rT:Sp:=fun vs H Q _=>SpSharesI  vs H Q
variable {P:Program}{w:World}{K:PySem.W.Frag}{mg:Str->Option Value}{base:Heap}{f:Addr}{fd:FuncData}
theorem scT1:FnScope ["wool","owed","shares","left","due","number","holder","sacks","share"] ["wool","owed"] (aJ (top 46)):=fS
theorem Bg (F:Fun K "made_good" "made_good" (top 46) f fd)(Tn:mg "min" = none):FnOk P w K mg base CX0 1 f fd ["wool","owed"] yu:=by
 refine F.ok scT1 (fun vs H Q E h=>?_) (fun ai A outer s H vs Q E hr h=>?_)
 ·obtain ⟨w0,l,xs,rs,rfl,_⟩:=h;rfl
 ·obtain ⟨w0,l,xs,rs,rfl,el,els,h4,hz,q⟩:=h
  refine ⟨_,aA (pss 2 scT1.nd (cQ ao))
   (aA (pss 3 scT1.nd (pv 0))
   (aA (bV zB5 rfl (cC (pv 1)) (bz rfl (aj (pgn 4 scT1.nd) (aj (pgn 5 scT1.nd) (aj (pgn 6 scT1.nd) (aj (pgn 7 scT1.nd) aR)))))
    (aA (pss 8 scT1.nd (aO (fM rfl) rfl Tn boot_min (aq (pv 7) (aq (pv 3) ao))))
    (aA (dH (xq zBg zBf zBe jt (pv 2) (aq (pv 8) ao)))
    (aG (iB (i:=3) scT1.nd rfl (Or.inl rfl) (pv 8) wZ)))))
   (aG (aQ (pv 2))))),?_⟩
  refine aF (aW ?_);refine ⟨zL,fun m hm=>?_⟩;refine aK ?_;dsimp only;refine aF (aW ?_);refine ⟨_,rfl,?_⟩;refine aK ?_;dsimp only;refine aF ?_;have s1:=Same.upd (o:=.lst []) hm;have nl:l≠m:=aD el hm;refine ⟨_,rfl,l,rfl,⟨_,SqL.of (s1 _ _ el)⟩,?_⟩;refine eU (xs:=xs) (fun i σ Hc=>∃ x4 x5 x6 x7 x8,σ=[some (.int w0),some (.ref l),some (.ref m),some (.int (w0 - (cM w0 (rs.take i)).sum)),x4,x5,x6,x7,x8]/\(∀ b o,H b=some o->Hc b=some o)/\Hc m=some (.lst ((cM w0 (rs.take i)).map V.int))) ?_ ?_ ?_ ?_
  ·refine ⟨none,none,none,none,none,?_,fun b o e=>s1 _ _ e,aa⟩;rw [List.take_zero,show (cM w0 []).sum=0 from rfl,Int.sub_zero];rfl
  ·rintro i σ Hc hi ⟨x4,x5,x6,x7,x8,rfl,k,em⟩;exact SqL.of (k _ _ el)
  ·rintro i x σ Hc hx ⟨x4,x5,x6,x7,x8,rfl,k,em⟩
   have hi:i < rs.length:=by
    have:=(zAa.mp hx).1;rw [els.1] at this;exact this
   obtain ⟨t,ex,et⟩:=els.2 i rs[i] (zA0 hi);rw [ex] at hx;cases hx;rw [cH (h4 _ (zAh hi))] at et;refine ⟨t,_,rfl,SqT.of (k _ _ et),rfl,_,_,rfl,_,_,rfl,_,_,rfl,_,_,rfl,rfl,?_⟩;refine aF (aW ?_);refine ⟨_,rfl,_,rfl,_,_,rfl,?_⟩;refine aK ?_;dsimp only;refine aF ?_;refine ⟨_,rfl,.inl ⟨rfl,_,SqL.of em⟩,_,rfl,m,_,_,rfl,rfl,em,?_,?_⟩
   ·rw [zA1,dC,zAd,sizeLine_eq];lia
   have fh:rs.take (i+1)=rs.take i++[rs[i]]:=by rw [zAj,zA0 hi];rfl
   dsimp only;refine ⟨_,rfl,_,rfl,_,_,rfl,rfl,some (.int (fl rs[i] 0)),some (.int (fl rs[i] 1)),some (.int (fl rs[i] 2)),some (.int (fl rs[i] 3)),some (.int (if w0 - (cM w0 (rs.take i)).sum < fl rs[i] 3 then w0 - (cM w0 (rs.take i)).sum else fl rs[i] 3)),?_,fun b o e=>?_,?_⟩
   ·rw [fh,iR,List.sum_append,List.sum_cons,List.sum_nil,Int.add_zero,show ∀ a b c:Int,a - (b+c)=a - b - c from fun a b c=>by lia];rfl
   ·rw [aC (aD e hm)];exact k _ _ e
   ·rw [aa,fh,iR,zA4];rfl
  ·rintro σ Hc ⟨x4,x5,x6,x7,x8,rfl,k,em⟩;rw [show xs.length=rs.length from els.1,zAm] at em;exact ⟨_,rfl,q m Hc (fun b o e=>k b o e) hm em⟩
theorem scT2:FnScope ["wool","claims","weights"] ["wool","claims"] (aJ (top 45)):=fS
theorem wI (F:Fun K "shares_of" "shares_of" (top 45) f fd)(T:Mg mg)(Ts:mg "sum" = none)(c1:Cal P w K mg base 6 "parted" ["sacks","weights"] K90P.spParts):FnOk P w K mg base CX0 7 f fd ["wool","claims"] rT:=by
 refine F.ok scT2 (fun vs H Q E h=>?_) (fun ai A outer s H vs Q E hr h=>?_)
 ·obtain ⟨w0,l,xs,rs,rfl,_⟩:=h;rfl
 ·obtain ⟨w0,l,xs,rs,rfl,el,els,h4,hz,hw,q⟩:=h
  refine ⟨_,aA (pss 2 scT2.nd (cZ cO rfl T.tuple boot_tuple (aq (bH (g:=jL K 4 (bQ (bF 0) (bQ (bF 1) (bQ (bF 2) (bQ (bF 3) jU))))) ["due","number","holder","sacks"] [none,none,none,none] rfl (cC (pv 1))
    (fun C fp pins s₂ H₂=>⟨dI rfl rfl (aj (pgn 0 nd4) (aj (pgn 1 nd4) (aj (pgn 2 nd4) (aj (pgn 3 nd4) aR)))),bL,pv 3⟩) (fun C=>trivial) ⟨rfl,rfl,rfl,rfl⟩) ao)))
   (aG (aQ (wV (aZ cj (aO (d9 rfl) rfl Ts boot_sum (aq (pv 2) ao)) (pv 0) (bj _)) (pv 2) (aH c1 hr (aq (pv 0) (aq (pv 2) ao)))))),?_⟩
  refine aF (aW ?_);refine ⟨_,rfl,l,rfl,⟨_,SqL.of el⟩,cJ rs.length (fun i ys σ Hc=>Same H Hc/\(∃ o1 o2 o3 o4,σ=[o1,o2,o3,o4])/\ys=(wts (rs.take i)).map V.int) ⟨Same.refl H,⟨_,_,_,_,rfl⟩,rfl⟩ (by rw [sizeLine_eq];lia) ?_ ?_⟩
  ·rintro i ys σ Hc hi hy ⟨s1,⟨o1,o2,o3,o4,rfl⟩,rfl⟩;obtain ⟨t,ex,et⟩:=els.2 i rs[i] (zA0 hi);rw [cH (h4 _ (zAh hi)).1] at et;refine ⟨⟨_,_,SqL.of (s1 _ _ el),ex⟩,fun v H' y R hR=>?_⟩;obtain ⟨rfl,y⟩:=y;have hv:=y _ (SqL.of (s1 _ _ el));rw [ex] at hv;cases hv;refine ⟨t,_,rfl,SqT.of (s1 _ _ et),rfl,_,_,rfl,_,_,rfl,_,_,rfl,_,_,rfl,rfl,_,rfl,hR _ _ _ ⟨s1,⟨_,_,_,_,rfl⟩,?_⟩⟩;unfold wts;rw [zAj,zA0 hi,zA4,zA4];rfl
  ·rintro ys σ Hc hy ⟨s1,_,rfl⟩;refine ⟨⟨_,SqL.of (s1 _ _ el),by rw [els.1];exact zA3 _⟩,fun D hD=>?_⟩;rw [zAm];refine ⟨D,_,rfl,.inl ⟨SqL.of aa,fun t ht=>?_⟩⟩;have s2:=(s1.updR (o:=.lst ((wts rs).map V.int)) hD).updR (o:=.tup ((wts rs).map V.int)) ht;have et:=aa (H:=upd Hc D (.lst ((wts rs).map V.int))) (a:=t) (o:=.tup ((wts rs).map V.int));generalize upd (upd Hc D (.lst ((wts rs).map V.int))) t (.tup ((wts rs).map V.int))=H2 at s2 et ⊢;refine aK ?_;dsimp only;refine ⟨_,rfl,t,wts rs,rfl,.inr (SqT.of et),_,rfl,_,_,rfl,rfl,_,rfl,?_⟩;by_cases hs:(wts rs).sum<=w0
   ·rw [zAt hs];refine bO ⟨_,rfl,q t H2 s2 ?_⟩;unfold bf;rw [zAw hs];exact et
   ·rw [zB2 hs];refine bD ⟨_,rfl,_,rfl,w0,t,wts rs,rfl,et,⟨?_,?_,fun x hx=>?_⟩,hw,by lia,fun H3 t3 s3 e3=>q t3 H3 (s2.trans s3) ?_⟩
    ·cases fA:rs with
     | nil =>
      rw [fA] at hs;exact absurd hw hs
     | cons r qv =>
      unfold wts;rw [zA1,zAe];lia
    ·unfold wts;rw [zA1];exact hz
    ·obtain ⟨r,fA,rfl⟩:=zA5.mp hx;exact (h4 r fA).2
    ·unfold bf;rw [zAv hs];exact e3
theorem fc {J:It}{g:TG}{tt:TT}{te:TE}{eJ:St}{H0:Hp}{Fin:List V->Hp->Prop}(n:Nat)(Pv:Nat->List V->St->Hp->Prop)(h0:Pv 0 [] eJ H0)(hz:n < sizeLine)
  (step:∀ i ys σ H,i < n->ys.length<=i->Pv i ys σ H->J.go i H/\∀ x H',J.yld i H x H'->∀ R:List V->St->Hp->Prop,(∀ nc ay H4,nc.length<=i+1->Pv (i+1) nc ay H4->R nc ay H4)->g x σ H' fun ay H2=>tt ay H2 fun b H3=>if b=true then te ay H3 fun y H4=>R (ys++[y]) ay H4 else R ys ay H3)
  (fin:∀ ys σ H,ys.length<=n->Pv n ys σ H->J.stop n H/\Fin ys H):kh J g tt te Fin eJ H0:=by
 refine ⟨fun i m ys σ H=>m=n - i/\i<=n/\ys.length<=i/\Pv i ys σ H,⟨_,rfl,zAp _,zA3 _,h0⟩,?_⟩;rintro i m ys σ H ⟨rfl,hi,hy,p⟩;refine ⟨by lia,?_⟩;by_cases ax:i < n
 ·obtain ⟨go,st⟩:=step i ys σ H ax hy p;exact .inr ⟨go,fun x H' y=>st x H' y (fun nc ay H4=>∃ m',m' < n - i/\m'=n - (i+1)/\i+1<=n/\nc.length<=i+1/\Pv (i+1) nc ay H4) fun nc ay H4 l2 p2=>⟨n - (i+1),by lia,rfl,ax,l2,p2⟩⟩
 ·have e:i=n:=by lia
  subst e;exact .inl (fin ys σ H hy p)
def cW (P:List (List Int×Int)):List (List Int):=(P.filter fun p=>decide (0 < p.2)).map fun p=>[fl p.1 0,fl p.1 1,fl p.1 2,p.2]
def bC (P:List (List Int×Int)):List (List Int):=(P.filter fun p=>decide (p.2 < fl p.1 3)).map fun p=>[fl p.1 0,fl p.1 1,fl p.1 2,fl p.1 3 - p.2]
theorem oK (P:List (List Int×Int))(p:List Int×Int):cW (P++[p])=cW P++(if 0 < p.2 then [[fl p.1 0,fl p.1 1,fl p.1 2,p.2]] else []):=by
 unfold cW;rw [List.filter_append,zA4];congr 1;by_cases h:0 < p.2
 ·rw [zAw h,zB7 (p:=fun (p:List Int×Int)=>decide (0 < p.2)) (zAt h)];rfl
 ·rw [zAv h,zB9 (p:=fun (p:List Int×Int)=>decide (0 < p.2)) (by rw [decide_eq_true_eq];exact h)];rfl
theorem lV (P:List (List Int×Int))(p:List Int×Int):bC (P++[p])=bC P++(if p.2 < fl p.1 3 then [[fl p.1 0,fl p.1 1,fl p.1 2,fl p.1 3 - p.2]] else []):=by
 unfold bC;rw [List.filter_append,zA4];congr 1;by_cases h:p.2 < fl p.1 3
 ·rw [zAw h,zB7 (p:=fun (p:List Int×Int)=>decide (p.2 < fl p.1 3)) (zAt h)];rfl
 ·rw [zAv h,zB9 (p:=fun (p:List Int×Int)=>decide (p.2 < fl p.1 3)) (by rw [decide_eq_true_eq];exact h)];rfl
theorem shares_len {w:Int}{rs:List (List Int)}:(bf w rs).length=rs.length:=by
 unfold bf;split
 ·unfold wts;rw [zA1]
 ·rw [K90P.res_len];unfold wts;rw [zA1]
def shr (w:Int)(cl ow:List (List Int)):List Int:=bf w cl++cM (w - (bf w cl).sum) ow
inductive SpSortI (vs:List V)(H:Hp)(Q:VK):Prop
 | mk:∀ w lc xc cl lo xo ow,(vs=[.int w,.ref lc,.ref lo])->(H lc=some (.lst xc))->(Els H xc cl)->((∀ r∈cl,r.length=4/\1<=fl r 3/\fl r 3<=99))->(cl.length<=80)->(0<=w)->(H lo=some (.lst xo))->(Els H xo ow)->((∀ r∈ow,r.length=4))->(ow.length<=10000)->(∀ t g k xg xk H',Same H H'->H' t=some (.tup [.ref g,.ref k])->H g=none->H k=none->H' g=some (.lst xg)->Els H' xg (cW ((cl++ow).zip (shr w cl ow)))->H' k=some (.lst xk)->Els H' xk (bC ((cl++ow).zip (shr w cl ow)))->Q (.ref t) H')->SpSortI  vs H Q
def yw:Sp:=fun vs H Q _=>SpSortI  vs H Q
theorem rW:bootBuiltins "list" = some (.type "list"):=by decide +kernel
theorem nd5:(["due","number","holder","sacks","share"]:List Str).Nodup:=by decide +kernel
theorem scU1:FnScope ["wool","claims","owed","shares","rows","gifts","lacking"] ["wool","claims","owed"] (aJ (top 47)):=fS
theorem yx (F:Fun K "sort_given" "sort_given" (top 47) f fd)(Ts:mg "sum" = none)(Tl:mg "list" = none)(Tz:mg "zip" = none)(c1:Cal P w K mg base 7 "shares_of" ["wool","claims"] rT)(c2:Cal P w K mg base 1 "made_good" ["wool","owed"] yu):FnOk P w K mg base CX0 8 f fd ["wool","claims","owed"] yw:=by
 refine F.ok scU1 (fun vs H Q E h=>?_) (fun ai A outer s H vs Q E hr h=>?_)
 ·obtain ⟨w0,lc,xc,cl,lo,xo,ow,rfl,_⟩:=h;rfl
 ·obtain ⟨w0,lc,xc,cl,lo,xo,ow,rfl,ec,yi,Ir,K7,hw,eo,dA,Iu,K8,q⟩:=h
  refine ⟨_,aA (pss 3 scU1.nd (cZ pJ rfl Tl rW (aq (aH c1 hr (aq (pv 0) (aq (pv 1) ao))) ao)))
   (aA (pss 4 scU1.nd (aV Dp (pv 1) (pv 2)))
   (aA (iB (i:=3) scU1.nd rfl (Or.inl rfl) (aH c2 hr (aq (aV gH (pv 0) (aO (d9 rfl) rfl Ts boot_sum (aq (pv 3) ao))) (aq (pv 2) ao))) jz)
   (aA (ir (g:=jL K 2 (bQ (jL K 4 (bQ (bF 0) (bQ (bF 1) (bQ (bF 2) (bQ (bF 3) jU))))) (bQ (bF 4) jU))) (i:=5) ["due","number","holder","sacks","share"] [none,none,none,none,none] rfl scU1.nd rfl (Or.inl rfl) (ZL.pi_zip rfl Tz (aq (pv 4) (aq (pv 3) ao))) (fun C fp pins s₂ H₂=>⟨dI rfl rfl (aj (dI rfl rfl (aj (pgn 0 nd5) (aj (pgn 1 nd5) (aj (pgn 2 nd5) (aj (pgn 3 nd5) aR))))) (aj (pgn 4 nd5) aR)),gf (aZ iV (pv 4) aB (bj _)),bA (aq (pv 0) (aq (pv 1) (aq (pv 2) (aq (pv 4) ao))))⟩) (fun C=>trivial) ⟨rfl,rfl,rfl,rfl⟩)
   (aA (ir (g:=jL K 2 (bQ (jL K 4 (bQ (bF 0) (bQ (bF 1) (bQ (bF 2) (bQ (bF 3) jU))))) (bQ (bF 4) jU))) (i:=6) ["due","number","holder","sacks","share"] [none,none,none,none,none] rfl scU1.nd rfl (Or.inl rfl) (ZL.pi_zip rfl Tz (aq (pv 4) (aq (pv 3) ao))) (fun C fp pins s₂ H₂=>⟨dI rfl rfl (aj (dI rfl rfl (aj (pgn 0 nd5) (aj (pgn 1 nd5) (aj (pgn 2 nd5) (aj (pgn 3 nd5) aR))))) (aj (pgn 4 nd5) aR)),gf (aZ iV (pv 3) (pv 4) (bj _)),bA (aq (pv 0) (aq (pv 1) (aq (pv 2) (aq (aV gH (pv 3) (pv 4)) ao))))⟩) (fun C=>trivial) ⟨rfl,rfl,rfl,rfl⟩)
   (aG (aQ (bA (aq (pv 5) (aq (pv 6) ao))))))))),?_⟩
  refine j7 fun c_ gN=>?_;refine aW ?_;refine ⟨_,rfl,_,rfl,w0,lc,xc,cl,rfl,ec,yi,Ir,K7,hw,fun t H1 s1 et=>⟨t,_,rfl,.inr (SqT.of et),fun ls yn=>?_⟩⟩;have s2:=s1.updR (o:=.lst ((bf w0 cl).map V.int)) yn;have Iv:H ls=none:=s1.free yn;have els:=aa (H:=H1) (a:=ls) (o:=.lst ((bf w0 cl).map V.int));generalize upd H1 ls (.lst ((bf w0 cl).map V.int))=H2 at s2 els ⊢;refine aK ?_;refine gN _ _ ?_;clear gN c_
  try dsimp only
  refine j7 fun c_ gN=>?_;refine aW ?_;refine ⟨_,rfl,_,rfl,lc,lo,xc,xo,rfl,rfl,s2 _ _ ec,s2 _ _ eo,by rw [yi.1,dA.1,sizeLine_eq];lia,fun lr ip=>?_⟩;have s3:=s2.updR (o:=.lst (xc++xo)) ip;have PV:H lr=none:=s2.free ip;have lh:=Same.upd (o:=.lst (xc++xo)) ip _ _ els;have D4:=aa (H:=H2) (a:=lr) (o:=.lst (xc++xo))
  have K9:lr≠ls:=fun z=>by rw [z,els] at ip;cases ip
  generalize upd H2 lr (.lst (xc++xo))=H3 at s3 lh D4 ⊢;refine aK ?_;refine gN _ _ ?_;clear gN c_
  try dsimp only
  refine j7 fun c_ gN=>?_;refine ⟨_,rfl,_,rfl,_,rfl,ls,bf w0 cl,rfl,.inl (SqL.of lh),_,_,rfl,rfl,_,rfl,_,lo,xo,ow,rfl,s3 _ _ eo,dA.same s3,Iu,by lia,fun m H4 s4 nm em=>?_⟩;refine ⟨ls,m,_,_,rfl,rfl,s4 _ _ lh,em,by rw [zA1,zA1,shares_len,dC,sizeLine_eq];lia,?_⟩;have Iw:(bf w0 cl).map V.int++(cM (w0 - (bf w0 cl).sum) ow).map V.int=(shr w0 cl ow).map V.int:=by unfold shr;rw [zA4]
  rw [Iw]
  have qA:(shr w0 cl ow).length=(cl++ow).length:=by
   unfold shr;rw [zA2,zA2,shares_len,dC]
  generalize shr w0 cl ow=SH at q qA;refine gN _ _ ?_;clear gN c_
  try dsimp only
  have k5:Same H (upd H4 ls (.lst (SH.map V.int))):=fun b o e=>by
   rw [aC (aD e Iv)];exact s4 _ _ (s3 _ _ e)
  have ix:=aa (H:=H4) (a:=ls) (o:=.lst (SH.map V.int));have gi:upd H4 ls (.lst (SH.map V.int)) lr=some (.lst (xc++xo)):=by rw [aC K9];exact s4 _ _ D4
  generalize upd H4 ls (.lst (SH.map V.int))=H5 at k5 ix gi ⊢;have tq:Els H (xc++xo) (cl++ow):=yi.app dA;have Iy:∀ r∈cl++ow,r.length=4:=fun r hr=>(zA6.mp hr).elim (fun z=>(Ir r z).1) (Iu r);have La:(cl++ow).length<=20000:=by rw [zA2];lia
  generalize xc++xo=xr at gi tq;generalize cl++ow=rr at q qA tq Iy La;clear els lh D4 Iw s1 s2 s3 s4 em et
  obtain ⟨ZP,AX⟩:∃ ZP,ZP=rr.zip SH:=⟨_,rfl⟩
  rw [<- AX] at q;have lI:ZP.length=rr.length:=by rw [AX,zAs,qA,Nat.min_self]
  have qB:∀ i (h:i < ZP.length),rr[i]?=some ZP[i].1:=fun i h=>by
   have hi:i < rr.length:=by lia
   rw [zA0 hi];congr 1;simp only [AX,List.getElem_zip]
  have yy:∀ i (h:i < ZP.length),SH[i]?=some ZP[i].2:=fun i h=>by
   have hi:i < SH.length:=by lia
   rw [zA0 hi];congr 1;simp only [AX,List.getElem_zip]
  have yA:∀ i (h:i < ZP.length),(ZP[i].1).length=4:=fun i h=>Iy _ (zB6 (qB i h));refine j7 fun c_ gN=>?_;refine ⟨_,rfl,_,rfl,lr,ls,xr,_,rfl,SqL.of gi,SqL.of ix,fc rr.length (fun i ys σ Hc=>Same H5 Hc/\(∃ o1 o2 o3 o4 o5,σ=[o1,o2,o3,o4,o5])/\Els Hc ys (cW (ZP.take i))) ⟨Same.refl _,⟨_,_,_,_,_,rfl⟩,Els.nil⟩ (by rw [sizeLine_eq];lia) ?_ ?_⟩
  ·rintro i ys σ Hc hi hy ⟨sc,⟨o1,o2,o3,o4,o5,rfl⟩,ht⟩;have hP:i < ZP.length:=by rw [lI];exact hi
   obtain ⟨tr,ex,et⟩:=tq.2 i ZP[i].1 (qB i hP);have er:SqL K Hc lr xr:=SqL.of (sc _ _ gi);have es:SqL K Hc ls (SH.map V.int):=SqL.of (sc _ _ ix);have nB:(SH.map V.int)[i]?=some (.int ZP[i].2):=by rw [zAb,yy i hP];rfl
   have fh:ZP.take (i+1)=ZP.take i++[ZP[i]]:=by rw [zAj,zA0 hP];rfl
   have yB:=sc _ _ (k5 _ _ et);rw [cH (yA i hP)] at yB;refine ⟨⟨_,_,_,_,er,es,ex,nB⟩,fun x H' yv R hR=>?_⟩;obtain ⟨T0,nT,rfl,yv⟩:=yv;obtain ⟨x',y',qq,qE,rfl⟩:=yv _ _ er es;rw [ex] at qq;cases qq;rw [nB] at qE;cases qE;have nE:=sc.updR (o:=.tup [.ref tr,.int ZP[i].2]) nT;refine ⟨T0,_,rfl,SqT.of aa,rfl,_,_,rfl,?_⟩;refine ⟨tr,_,rfl,SqT.of (Same.upd nT _ _ yB),rfl,_,_,rfl,_,_,rfl,_,_,rfl,_,_,rfl,rfl,?_⟩;refine ⟨_,_,rfl,rfl,?_⟩;refine ⟨_,rfl,_,_,rfl,rfl,_,rfl,?_⟩;by_cases bo:0 < ZP[i].2
   ·rw [zAt bo];refine bO ⟨_,rfl,_,rfl,_,rfl,_,rfl,zL,fun t hZ=>hR _ _ _ (by rw [zA2];show ys.length+1<=i+1;lia) ⟨nE.updR hZ,⟨_,_,_,_,_,rfl⟩,?_⟩⟩;rw [fh,oK,zAw bo];exact (((ht.same (Same.upd nT)).same (Same.upd hZ))).app (Els.one aa)
   ·rw [zB2 bo];refine bD (hR _ _ _ (by lia) ⟨nE,⟨_,_,_,_,_,rfl⟩,?_⟩);rw [fh,oK,zAv bo,zAn];exact ht.same (Same.upd nT)
  rintro ys σ Hc hy ⟨sc,_,ht⟩;rw [<- lI,zAm] at ht;refine ⟨⟨_,_,SqL.of (sc _ _ gi),SqL.of (sc _ _ ix),.inl (by rw [tq.1];exact zA3 _)⟩,fun g hg=>?_⟩;have k6:=(k5.trans sc).updR (o:=.lst ys) hg;have ng:H g=none:=(k5.trans sc).free hg;have eg:=aa (H:=Hc) (a:=g) (o:=.lst ys);have cm:=ht.same (Same.upd (o:=.lst ys) hg);have lP:=Same.upd (o:=.lst ys) hg _ _ (sc _ _ gi);have lS:=Same.upd (o:=.lst ys) hg _ _ (sc _ _ ix);generalize upd Hc g (.lst ys)=H6 at k6 eg cm lP lS ⊢;clear sc ht hy ix gi k5;refine gN _ _ ?_;clear gN c_
  try dsimp only
  refine j7 fun c_ gN=>?_;refine ⟨_,rfl,_,rfl,lr,ls,xr,_,rfl,SqL.of lP,SqL.of lS,fc rr.length (fun i ys σ Hc=>Same H6 Hc/\(∃ o1 o2 o3 o4 o5,σ=[o1,o2,o3,o4,o5])/\Els Hc ys (bC (ZP.take i))) ⟨Same.refl _,⟨_,_,_,_,_,rfl⟩,Els.nil⟩ (by rw [sizeLine_eq];lia) ?_ ?_⟩
  ·rintro i ys σ Hc hi hy ⟨sc,⟨o1,o2,o3,o4,o5,rfl⟩,ht⟩;have hP:i < ZP.length:=by rw [lI];exact hi
   obtain ⟨tr,ex,et⟩:=tq.2 i ZP[i].1 (qB i hP);have er:SqL K Hc lr xr:=SqL.of (sc _ _ lP);have es:SqL K Hc ls (SH.map V.int):=SqL.of (sc _ _ lS);have nB:(SH.map V.int)[i]?=some (.int ZP[i].2):=by rw [zAb,yy i hP];rfl
   have fh:ZP.take (i+1)=ZP.take i++[ZP[i]]:=by rw [zAj,zA0 hP];rfl
   have yB:=sc _ _ (k6 _ _ et);rw [cH (yA i hP)] at yB;refine ⟨⟨_,_,_,_,er,es,ex,nB⟩,fun x H' yv R hR=>?_⟩;obtain ⟨T0,nT,rfl,yv⟩:=yv;obtain ⟨x',y',qq,qE,rfl⟩:=yv _ _ er es;rw [ex] at qq;cases qq;rw [nB] at qE;cases qE;have nE:=sc.updR (o:=.tup [.ref tr,.int ZP[i].2]) nT;refine ⟨T0,_,rfl,SqT.of aa,rfl,_,_,rfl,?_⟩;refine ⟨tr,_,rfl,SqT.of (Same.upd nT _ _ yB),rfl,_,_,rfl,_,_,rfl,_,_,rfl,_,_,rfl,rfl,?_⟩;refine ⟨_,_,rfl,rfl,?_⟩;refine ⟨_,rfl,_,rfl,_,_,rfl,rfl,_,rfl,?_⟩;by_cases bo:ZP[i].2 < fl ZP[i].1 3
   ·rw [zAt bo];refine bO ⟨_,rfl,_,rfl,_,rfl,_,rfl,_,rfl,_,_,rfl,rfl,zL,fun t hZ=>hR _ _ _ (by rw [zA2];show ys.length+1<=i+1;lia) ⟨nE.updR hZ,⟨_,_,_,_,_,rfl⟩,?_⟩⟩;rw [fh,lV,zAw bo];exact (((ht.same (Same.upd nT)).same (Same.upd hZ))).app (Els.one aa)
   ·rw [zB2 bo];refine bD (hR _ _ _ (by lia) ⟨nE,⟨_,_,_,_,_,rfl⟩,?_⟩);rw [fh,lV,zAv bo,zAn];exact ht.same (Same.upd nT)
  rintro D5 σ Hc hy ⟨sc,_,ht⟩;rw [<- lI,zAm] at ht;refine ⟨⟨_,_,SqL.of (sc _ _ lP),SqL.of (sc _ _ lS),.inl (by rw [tq.1];exact zA3 _)⟩,fun k hk=>?_⟩;have k7:=(k6.trans sc).updR (o:=.lst D5) hk;have nk:H k=none:=(k6.trans sc).free hk;have sk:=Same.upd (o:=.lst D5) hk;refine gN _ _ ?_;clear gN c_
  try dsimp only
  refine ⟨_,rfl,_,rfl,zL,fun t hZ=>?_⟩;have st:=Same.upd (o:=.tup [.ref g,.ref k]) hZ;exact q t g k ys D5 _ (k7.trans st) aa ng nk (st _ _ (sk _ _ (sc _ _ eg))) (((cm.same sc).same sk).same st) (st _ _ aa) ((ht.same sk).same st)
def dD (L:List Int)(i:Nat):List (List Int):=((List.range i).filter fun h=>decide (0 < L.getD h 0)).map fun (h:Nat)=>[(h:Int),L.getD h 0]
theorem ie (L:List Int)(i:Nat):dD L (i+1)=dD L i++(if 0 < L.getD i 0 then [[(i:Int),L.getD i 0]] else []):=by
 unfold dD;rw [List.range_succ,List.filter_append,zA4];congr 1;by_cases h:0 < L.getD i 0
 ·rw [zAw h,zB7 (p:=fun h=>decide (0 < L.getD h 0)) (zAt h)];rfl
 ·rw [zAv h,zB9 (p:=fun h=>decide (0 < L.getD h 0)) (by rw [decide_eq_true_eq];exact h)];rfl
theorem tW (L:List Int)(i:Nat):(dD L i).length<=i:=by
 unfold dD;rw [zA1];have:=List.length_filter_le (fun h=>decide (0 < L.getD h 0)) (List.range i);rw [List.length_range] at this;exact this
def gC (ps ss:List (List Int))(sort year:Int)(n:Nat):List (List Int):=if fl (ps.getD n []) 1=sort then (dD (bI (ps.getD n []) ss n year) 8).map (fun r=>year::(n:Int)::r) else []
def gD (ps ss:List (List Int))(sort year:Int):Nat->List (List Int)
 | 0=>[]
 | k+1=>gD ps ss sort year k++gC ps ss sort year k
def az (ps ss:List (List Int))(sort year:Int):List (List Int):=gD ps ss sort year ps.length
theorem yz (ps ss:List (List Int))(sort year:Int)(n:Nat):(gC ps ss sort year n).length<=8:=by
 unfold gC;split
 ·rw [zA1];exact tW _ 8
 ·exact zAp _
theorem lW (ps ss:List (List Int))(sort year:Int):∀ k,(gD ps ss sort year k).length<=8 * k
 | 0=>zA3 _
 | k+1=>by
  unfold gD;rw [zA2];have:=lW ps ss sort year k;have:=yz ps ss sort year k;lia
inductive SpClaimsI (vs:List V)(H:Hp)(Q:VK):Prop
 | mk:∀ ap xp ps ae xs ss sort year,(vs=[.ref ap,.ref ae,.int sort,.int year])->(RowsAt H ap xp ps)->(ps.length<=10)->((∀ r∈ps,okP r))->(RowsAt H ae xs ss)->(ss.length<=12)->((∀ s∈ss,okS s))->(∀ l xl H',Same H H'->H l=none->H' l=some (.lst xl)->Els H' xl (az ps ss sort year)->Q (.ref l) H')->SpClaimsI  vs H Q
def lZ:Sp:=fun vs H Q _=>SpClaimsI  vs H Q
theorem ndV:(["holder","sacks","year","number"]:List Str).Nodup:=by decide +kernel
theorem scV1:FnScope ["promises","sales","sort","year","claims","number","promise","held"] ["promises","sales","sort","year"] (aJ (top 44)):=fS
theorem wJ (F:Fun K "claims_in" "claims_in" (top 44) f fd)(Te:mg "enumerate" = none)(c1:Cal P w K mg base 1 "held_in" ["promises","sales","number","year"] tU):FnOk P w K mg base CX0 2 f fd ["promises","sales","sort","year"] lZ:=by
 refine F.ok scV1 (fun vs H Q E h=>?_) (fun ai A outer s H vs Q E hr h=>?_)
 ·obtain ⟨ap,xp,ps,ae,xs,ss,sort,year,rfl,_⟩:=h;rfl
 ·obtain ⟨ap,xp,ps,ae,xs,ss,sort,year,rfl,rp,lp,okp,rs,ls,df,q⟩:=h
  refine ⟨_,aA (pss 4 scV1.nd (cQ ao))
   (aA (bV zB5 rfl (pi_enum rfl Te (aq (pv 0) ao)) (bz rfl (aj (aY (i:=5) scV1.nd rfl (Or.inr rfl)) (aj (pgn 6 scV1.nd) aR)))
    (aG (cB (aZ jW (pX bW (pv 6) aB) (pv 2) (bj _))
     (aA (pss 7 scV1.nd (aH c1 hr (aq (pv 0) (aq (pv 1) (aq (pv 5) (aq (pv 3) ao))))))
     (aG (iB (i:=4) scV1.nd rfl (Or.inl rfl) (bH (g:=jL K 2 (bQ (bF 0) (bQ (bF 1) jU))) ["holder","sacks","year","number"] [none,none,some 3,some 5] rfl (EL.pi_enum rfl Te (aq (pv 7) ao))
      (fun C fp pins s₂ H₂=>⟨dI rfl rfl (aj (pgn 0 ndV) (aj (pgn 1 ndV) aR)),gf (aZ iV (pv 1) aB (bj _)),bA (aq (pv 2) (aq (pv 3) (aq (pv 0) (aq (pv 1) ao))))⟩)
      (fun C=>cI (cI trivial)) ⟨rfl,rfl,rfl,rfl⟩) jz))) bh)))
   (aG (aQ (pv 4)))),?_⟩
  refine aF (aW ?_);refine ⟨zL,fun l hl=>?_⟩;refine aK ?_;dsimp only;refine aF ?_;have s0:=Same.upd (o:=.lst []) hl;refine ⟨_,rfl,ap,xp,rfl,SqT.of (s0 _ _ rp.e),?_⟩;refine j8 (xs:=xp) (fun i σ Hc=>∃ x5 x6 x7 xl,σ=[some (.ref ap),some (.ref ae),some (.int sort),some (.int year),some (.ref l),x5,x6,x7]/\(∀ b o,H b=some o->Hc b=some o)/\Hc l=some (.lst xl)/\Els Hc xl (gD ps ss sort year i)) ?_ ?_ ?_ ?_
  ·exact ⟨none,none,none,[],rfl,fun b o e=>s0 _ _ e,aa,Els.nil⟩
  ·rintro i σ Hc hi ⟨x5,x6,x7,xl,rfl,k,el,ht⟩;exact SqT.of (k _ _ rp.e)
  ·rintro i x σ Hc T0 hx ⟨x5,x6,x7,xl,rfl,k,el,ht⟩ nT
   have hi:i < ps.length:=by
    have:=(zAa.mp hx).1;rw [rp.l] at this;exact this
   obtain ⟨tr,cy,bq⟩:=rp.g i ps[i] (zA0 hi)
   have:x=.ref tr:=by
    rw [hx] at cy;exact zAl cy
   subst this;have op:=okp ps[i] (zAh hi);have ep:ps.getD i []=ps[i]:=getD_get hi;rw [six_row op.1] at bq;have sT:=Same.upd (o:=.tup [V.int i,V.ref tr]) nT;have kT:Same H (upd Hc T0 (.tup [V.int i,V.ref tr])):=fun b o e=>sT _ _ (k _ _ e);have D6:=sT _ _ el;have D7:=ht.same sT;have eT:=aa (H:=Hc) (a:=T0) (o:=.tup [V.int i,V.ref tr]);generalize upd Hc T0 (.tup [V.int i,V.ref tr])=H1 at kT D6 D7 eT ⊢;refine ⟨T0,_,rfl,SqT.of eT,rfl,_,_,rfl,_,_,rfl,rfl,?_⟩;refine ⟨_,rfl,tr,_,1,.int (fl ps[i] 1),rfl,rfl,SqT.of (kT _ _ bq),rfl,_,rfl,rfl,_,rfl,?_⟩;by_cases hs:fl ps[i] 1=sort
   ·rw [zAt (by rw [hs])];refine bO (aF ?_);refine aW ?_;refine ⟨_,rfl,_,rfl,_,rfl,_,rfl,ap,xp,ps,ae,xs,ss,i,year,rfl,rp.same kT,rs.same kT,by lia,by lia,by rw [zAi,ep];exact op,ls,df,fun hd H2 s2 e2=>?_⟩;rw [zAi,ep] at e2;have Iz:=eG ps[i] ss i year
    have IA:gC ps ss sort year i=(dD (bI ps[i] ss i year) 8).map (fun r=>year::(i:Int)::r):=by
     unfold gC;rw [ep,zAw hs]
    generalize bI ps[i] ss i year=L at e2 Iz IA;have k2:=kT.trans s2;have el2:=s2 _ _ D6;have lT:=D7.same s2;refine aK ?_;dsimp only;refine ⟨_,rfl,_,rfl,hd,_,rfl,SqL.of e2,fc 8 (fun j ys σ Hj=>Same H2 Hj/\(∃ o1 o2,σ=[o1,o2,some (.int year),some (.int i)])/\Els Hj ys ((dD L j).map (fun r=>year::(i:Int)::r))) ⟨Same.refl _,⟨_,_,rfl⟩,Els.nil⟩ (by rw [sizeLine_eq];decide) ?_ ?_⟩
    ·rintro j ys σ Hj hj hy ⟨sc,⟨o1,o2,rfl⟩,qS⟩;have nr:SqL K Hj hd (L.map V.int):=SqL.of (sc _ _ e2)
     have IB:(L.map V.int)[j]?=some (.int (L.getD j 0)):=by
      have cq:j < L.length:=by lia
      rw [zAb,zA7,zA0 cq];rfl
     refine ⟨⟨_,_,nr,IB⟩,fun x H' yv R hR=>?_⟩;obtain ⟨T1,D8,rfl,yv⟩:=yv;obtain ⟨x',iN,rfl⟩:=yv _ nr;rw [IB] at iN;cases iN;have nE:=sc.updR (o:=.tup [.int (j:Int),.int (L.getD j 0)]) D8;refine ⟨T1,_,rfl,SqT.of aa,rfl,_,_,rfl,_,_,rfl,rfl,?_⟩;refine ⟨_,rfl,_,_,rfl,rfl,_,rfl,?_⟩;by_cases bo:0 < L.getD j 0
     ·rw [zAt bo];refine bO ⟨_,rfl,_,rfl,_,rfl,_,rfl,zL,fun t hZ=>hR _ _ _ (by rw [zA2];show ys.length+1<=j+1;lia) ⟨nE.updR hZ,⟨_,_,rfl⟩,?_⟩⟩;rw [ie,zAw bo,zA4];exact ((qS.same (Same.upd D8)).same (Same.upd hZ)).app (Els.one aa)
     ·rw [zB2 bo];refine bD (hR _ _ _ (by lia) ⟨nE,⟨_,_,rfl⟩,?_⟩);rw [ie,zAv bo,zAn];exact qS.same (Same.upd D8)
    ·rintro ys σ Hj hy ⟨sc,_,qS⟩;refine ⟨⟨_,SqL.of (sc _ _ e2),by rw [zA1];lia⟩,fun D hD=>?_⟩;have sD:=sc.updR (o:=.lst ys) hD
     have nD:D≠l:=fun z=>by rw [z,sc _ _ el2] at hD;cases hD
     have ll:=lW ps ss sort year i;have:=ht.1;refine ⟨l,D,xl,ys,rfl,rfl,sD _ _ el2,aa,by rw [sizeLine_eq];lia,?_⟩;refine ⟨_,_,_,xl++ys,rfl,fun b o e=>?_,aa,?_⟩
     ·rw [aC (aD e hl)];exact sD _ _ (k2 _ _ e)
     ·have e3:=(lT.same sD).app (qS.same (Same.upd (o:=.lst ys) hD));rw [<- IA] at e3;refine e3.keep fun b z e=>?_;rw [aC fun w=>by rw [w,sD _ _ el2] at e;cases e];exact e
   ·rw [zB2 (fun z=>hs (by injection z))];refine bD ?_;refine ⟨_,_,_,xl,rfl,fun b o e=>kT _ _ e,D6,?_⟩
    have:gD ps ss sort year (i+1)=gD ps ss sort year i:=by
     show gD ps ss sort year i++gC ps ss sort year i=_;unfold gC;rw [ep,zAv hs,zAn]
    rw [this];exact D7
  ·rintro σ Hc ⟨x5,x6,x7,xl,rfl,k,el,ht⟩;rw [show xp.length=ps.length from rp.l] at ht;exact ⟨_,rfl,q l xl Hc (fun b o e=>k b o e) hl el ht⟩
theorem sum_set:∀ (L:List Int) (i:Nat) (a:Int),i < L.length->(L.set i a).sum=L.sum - L.getD i 0+a
 | [],i,a,h=>by simp at h
 | x::L,0,a,h=>by
  rw [List.set_cons_zero,List.sum_cons,List.sum_cons,List.getD_cons_zero];lia
 | x::L,i+1,a,h=>by
  rw [List.set_cons_succ,List.sum_cons,List.sum_cons,List.getD_cons_succ,sum_set L i a (by simpa using h)];lia
theorem rY {L:List Int}{i v:Int}(h:i.toNat < L.length):(cU L i v).sum=L.sum+v:=by
 unfold cU;rw [sum_set _ _ _ h];lia
theorem gq:∀ {L:List Int},(∀ x∈L,0<=x)->0<=L.sum/\∀ x∈L,x<=L.sum
 | [],_=>⟨Int.le_refl _,fun x hx=>by cases hx⟩
 | y::L,h=>by
  obtain ⟨h1,h2⟩:=gq (L:=L) fun x hx=>h x (.tail _ hx);have hy:=h y (.head _);rw [List.sum_cons];refine ⟨by lia,fun x hx=>?_⟩;rcases zAo.mp hx with z | z
  ·lia
  ·have:=h2 x z;lia
theorem gw {L:List Int}(h:∀ x∈L,0<=x)(i:Nat):0<=L.getD i 0:=by
 rw [zA7]
 cases e:L[i]? with
 | none=>exact Int.le_refl _
 | some y=>exact h y (zB6 e)
theorem uW {L:List Int}{i v:Int}(h:∀ x∈L,0<=x)(hv:0<=L.getD i.toNat 0+v):∀ x∈cU L i v,0<=x:=by
 intro x hx;unfold cU at hx;rcases List.mem_or_eq_of_mem_set hx with z | z
 ·exact h x z
 ·rw [z];exact hv
theorem yC {ps ss:List (List Int)}(h:un ps ss=none):∀ j,j < ss.length->bY ps (ss.take j) (ss.getD j [])=true:=fun j hj=>by
 unfold un at h;have:=List.find?_eq_none.mp h j (List.mem_range.mpr hj);simpa using this
theorem uX {ps ss:List (List Int)}{n:Nat}{y:Int}(hu:un ps ss=none)(h5:∀ s∈ss,s.length=5)(op:okP (ps.getD n [])) :
  ∀ k,k<=ss.length->(∀ x∈bI (ps.getD n []) (ss.take k) n y,0<=x)/\(bI (ps.getD n []) (ss.take k) n y).sum<=99:=by
 intro k;by_cases hy:fl (ps.getD n []) 2<=y/\y<=fl (ps.getD n []) 3
 ·obtain ⟨_,⟨a1,a2⟩,_,_,⟨e1,e2⟩,_⟩:=id op
  induction k with
  | zero =>
   intro _;rw [List.take_zero];unfold bI;rw [zAw hy];show (∀ x∈base0 (ps.getD n []),0<=x)/\(base0 (ps.getD n [])).sum<=99;unfold base0;refine ⟨fun x hx=>?_,?_⟩
   ·rcases List.mem_or_eq_of_mem_set hx with z | z
    ·rw [List.eq_of_mem_replicate z];exact Int.le_refl _
    ·lia
   ·rw [sum_set _ _ _ (by rw [List.length_replicate];lia)];have:(List.replicate 8 (0:Int)).sum=0:=rfl
    have e:(List.replicate 8 (0:Int)).getD (fl (ps.getD n []) 0).toNat 0=0:=by
     rw [zA7,List.getElem?_replicate,zAw (by lia)];rfl
    rw [this,e];lia
  | succ k ih =>
   intro hk;have cq:k < ss.length:=by lia
   obtain ⟨i1,i2⟩:=ih (by lia);have hB:=yC hu k cq;rw [getD_get cq] at hB;have fh:ss.take (k+1)=ss.take k++[ss[k]]:=by rw [zAj,zA0 cq];rfl
   have eh:bI (ps.getD n []) (ss.take (k+1)) n y=hstep n y (bI (ps.getD n []) (ss.take k) n y) ss[k]:=by
    unfold bI;rw [zAw hy,zAw hy,fh,List.foldl_append];rfl
   have Lb:=lO (h5 _ (zAh cq)) hB;obtain ⟨_,⟨b1,b2⟩,c1,c2⟩:=Lb;have hl:=eG (ps.getD n []) (ss.take k) n y;rw [eh];unfold hstep;by_cases hc:fl ss[k] 0=n/\fl ss[k] 4<=y
   ·rw [zAw hc];unfold bY at hB;rw [zAc] at hB;obtain ⟨D9,DZ⟩:=hB
    have ep:qm ps ss[k]=ps.getD n []:=by
     unfold qm;rw [hc.1,zAi]
    have pV:fl ss[k] 3<=(bI (ps.getD n []) (ss.take k) n y).getD (fl ss[k] 1).toNat 0:=by
     have:=List.all_eq_true.mp DZ y (by
      unfold years;refine zA5.mpr ⟨(y - fl ss[k] 4).toNat,List.mem_range.mpr ?_,?_⟩
      ·rw [ep];lia
      ·lia)
     have:=zB3 this;rw [ep,hc.1] at this;exact this
    unfold rN at D9;simp only [Bool.and_eq_true,decide_eq_true_eq,Bool.not_eq_true',decide_eq_false_iff_not] at D9;obtain ⟨_,_,_,PX,⟨v1,v2⟩,_⟩:=D9;generalize bI (ps.getD n []) (ss.take k) n y=L at i1 i2 hl pV;have n1:=uW (i:=fl ss[k] 1) (v:=-(fl ss[k] 3)) i1 (by lia);refine ⟨uW n1 ?_,?_⟩
    ·have:=gw n1 (fl ss[k] 2).toNat;lia
    ·rw [rY (by rw [dM];lia),rY (by lia)];lia
   ·rw [zAv hc];exact ⟨i1,i2⟩
 ·intro _;unfold bI;rw [zAv hy];refine ⟨fun x hx=>by rw [List.eq_of_mem_replicate hx];exact Int.le_refl _,by decide⟩
theorem Ck {ps ss:List (List Int)}{sort year:Int}(hu:un ps ss=none)(h5:∀ s∈ss,s.length=5)(okp:∀ r∈ps,okP r):∀ k,k<=ps.length->∀ r∈gD ps ss sort year k,r.length=4/\1<=fl r 3/\fl r 3<=99/\fl r 0=year/\0<=fl r 1/\fl r 1 < k:=by
 intro k
 induction k with
 | zero=>intro _ r hr;cases hr
 | succ k ih =>
  intro hk r hr;rcases zA6.mp (show r∈gD ps ss sort year k++gC ps ss sort year k from hr) with z | z
  ·obtain ⟨h1,h2,h3,h4,h6,h7⟩:=ih (by lia) r z;exact ⟨h1,h2,h3,h4,h6,by lia⟩
  ·unfold gC at z;split at z
   ·obtain ⟨q,hq,rfl⟩:=zA5.mp z;unfold dD at hq;obtain ⟨h,hh,rfl⟩:=zA5.mp hq;have hp:=zB3 (zAq.mp hh).2;have cq:k < ps.length:=by lia
    obtain ⟨a,b⟩:=uX (n:=k) (y:=year) hu h5 (by rw [getD_get cq];exact okp _ (zAh cq)) ss.length (zA3 _);rw [zAm] at a b
    have le:(bI (ps.getD k []) ss k year).getD h 0<=99:=by
     rw [zA7] at hp ⊢
     cases e:(bI (ps.getD k []) ss k year)[h]? with
     | none=>show (0:Int)<=99;decide
     | some y =>
      have:=(gq a).2 y (zB6 e);show y<=99;lia
    refine ⟨rfl,?_,le,rfl,?_,?_⟩
    ·show 1<=(bI (ps.getD k []) ss k year).getD h 0;lia
    ·show (0:Int)<=(k:Int);lia
    ·show (k:Int) < ((k+1:Nat):Int);lia
   ·cases z
end K90
namespace K90P
open PySem L2
theorem sum_set:∀ {l:List Int} {i:Nat} {x:Int},i < l.length->(l.set i (l.getD i 0+x)).sum=l.sum+x
 | a::l,0,x,_=>by simp;lia
 | a::l,i+1,x,h=>by
  have:=sum_set (l:=l) (i:=i) (x:=x) (by simpa using h);simp only [List.set_cons_succ,List.sum_cons,List.getD_cons_succ];lia
theorem oM:∀ (pl:List Nat) (l:List Int),(∀ i∈pl,i < l.length)->(di l pl).sum=l.sum+pl.length
 | [],l,_=>by simp [di]
 | i::pl,l,h=>by
  show (di (l.set i (l.getD i 0+1)) pl).sum=_;rw [oM pl _ fun j hj=>by rw [List.length_set];exact h j (.tail _ hj),sum_set (h i (.head _)),zAe];lia
theorem res_sum {n:Int}{ws:List Int}(ok:OkW ws):(res n ws).sum=n:=by
 have o:=(gZ (rs n ws)).choose_spec;have hl:=o.len;rw [jE] at hl;have l0:=yt (n:=n) ok;have l1:=Cj (n:=n) ok;unfold res;rw [oM _ _ fun i hi=>by rw [qu];have:=o.lt i (List.mem_of_mem_take hi);rw [jE] at this;exact this,zAd,Nat.min_eq_left (by lia)];have:lf n ws=n - (fs n ws).sum:=rfl;lia
end K90P
namespace K90
open PySem L2
theorem mj:∀ {w:Int} {rs:List (List Int)},0<=w->(∀ r∈rs,0<=fl r 3)->(∀ x∈cM w rs,0<=x)/\0<=(cM w rs).sum/\(cM w rs).sum<=w
 | w,[],h,_=>⟨fun x hx=>(by cases hx),Int.le_refl _,h⟩
 | w,r::rs,h,hr=>by
  have h3:=hr r (.head _);unfold cM;by_cases hc:w < fl r 3
  ·rw [zAw hc];obtain ⟨a,b,c⟩:=mj (w:=w - w) (rs:=rs) (by lia) fun q hq=>hr q (.tail _ hq);refine ⟨fun x hx=>?_,by rw [List.sum_cons];lia,by rw [List.sum_cons];lia⟩;rcases zAo.mp hx with z | z
   ·lia
   ·exact a x z
  ·rw [zAv hc];obtain ⟨a,b,c⟩:=mj (w:=w - fl r 3) (rs:=rs) (by lia) fun q hq=>hr q (.tail _ hq);refine ⟨fun x hx=>?_,by rw [List.sum_cons];lia,by rw [List.sum_cons];lia⟩;rcases zAo.mp hx with z | z
   ·lia
   ·exact a x z
theorem uY:∀ {rs:List (List Int)} {sh:List Int},sh.length=rs.length->(∀ x∈sh,0<=x)->aM (cW (rs.zip sh))=sh.sum
 | [],[],_,_=>rfl
 | [],_::_,h,_=>by simp at h
 | _::_,[],h,_=>by simp at h
 | r::rs,x::sh,h,hn=>by
  have ih:=uY (rs:=rs) (sh:=sh) (by simpa using h) fun y hy=>hn y (.tail _ hy);have hx:=hn x (.head _);rw [List.zip_cons_cons,List.sum_cons,<- ih];unfold cW;by_cases hp:0 < x
  ·rw [zB7 (p:=fun (p:List Int×Int)=>decide (0 < p.2)) (zAt hp),zAk];unfold aM wts;rw [zAk,List.sum_cons];rfl
  ·rw [zB9 (p:=fun (p:List Int×Int)=>decide (0 < p.2)) (by rw [decide_eq_true_eq];exact hp)];have:x=0:=by lia
   rw [this,Int.zero_add]
theorem tX {w:Int}{cl ow:List (List Int)}(hw:0<=w)(hc:∀ r∈cl,r.length=4/\1<=fl r 3/\fl r 3<=99)(hz:cl.length<=80)(ho:∀ r∈ow,0<=fl r 3):(∀ x∈shr w cl ow,0<=x)/\0<=(shr w cl ow).sum/\(shr w cl ow).sum<=w:=by
 have hs:(∀ x∈bf w cl,0<=x)/\(bf w cl).sum<=w:=by
  unfold bf;by_cases h:(wts cl).sum<=w
  ·rw [zAw h];refine ⟨fun x hx=>?_,h⟩;obtain ⟨r,hr,rfl⟩:=zA5.mp hx;have:=(hc r hr).2.1;lia
  ·rw [zAv h]
   have ok:K90P.OkW (wts cl):=by
    refine ⟨?_,by unfold wts;rw [zA1];exact hz,fun x hx=>?_⟩
    ·cases fA:cl with
     | nil =>
      rw [fA] at h;exact absurd hw h
     | cons r qv =>
      unfold wts;rw [zA1,zAe];lia
    ·obtain ⟨r,hr,rfl⟩:=zA5.mp hx;exact (hc r hr).2
   refine ⟨fun x hx=>?_,by rw [K90P.res_sum ok];exact Int.le_refl _⟩;obtain ⟨i,hi,e⟩:=List.getElem_of_mem hx;have fw:i < (wts cl).length:=by rw [K90P.res_len] at hi;exact hi
   exact (K90P.res_get ok hw (by lia) (i:=i) (r:=x) (w:=(wts cl)[i]) (by rw [zA0 hi,e]) (zA0 fw)).1
 obtain ⟨h1,h2⟩:=hs;have h3:=(gq h1).1;obtain ⟨m1,m2,m3⟩:=mj (w:=w - (bf w cl).sum) (rs:=ow) (by lia) ho;unfold shr;refine ⟨fun x hx=>(zA6.mp hx).elim (h1 x) (m1 x),?_,?_⟩
 ·rw [List.sum_append];lia
 ·rw [List.sum_append];lia
theorem uZ {w:Int}{cl ow:List (List Int)}(hw:0<=w)(hc:∀ r∈cl,r.length=4/\1<=fl r 3/\fl r 3<=99)(hz:cl.length<=80)(ho:∀ r∈ow,0<=fl r 3):aM (cW ((cl++ow).zip (shr w cl ow)))=(shr w cl ow).sum/\0<=w - aM (cW ((cl++ow).zip (shr w cl ow))):=by
 obtain ⟨a,b,c⟩:=tX hw hc hz ho;have e:=uY (rs:=cl++ow) (sh:=shr w cl ow) (by unfold shr;rw [zA2,zA2,shares_len,dC]) a;exact ⟨e,by rw [e];lia⟩
def rle (a b:List Int):Bool:=!HT.lexLt b a
theorem Ei (a b c:List Int)(h1:rle a b=true)(h2:rle b c=true):rle a c=true:=by
 unfold rle at *;rw [Bool.not_eq_true'] at *
 cases h:HT.lexLt c a with
 | false=>rfl
 | true =>
  rcases uL c b a h with z | z
  ·rw [z] at h2;cases h2
  ·rw [z] at h1;cases h1
theorem Bh (a b:List Int):(rle a b || rle b a)=true:=by
 unfold rle
 cases h:HT.lexLt b a with
 | false=>rfl
 | true =>
  cases h':HT.lexLt a b with
  | false=>rfl
  | true =>
   have:=qd a b a h' h;rw [qb] at this;cases this
def srt (rs:List (List Int)):List (List Int):=rs.mergeSort rle
theorem yD {rs qv:List (List Int)}(pm:qv.Perm rs)(so:qv.Pairwise (fun a b=>HT.lexLt b a=false)):qv=srt rs:=by
 have Lc:qv.Pairwise (fun a b=>rle a b=true):=so.imp fun {a b} h=>by unfold rle;rw [h];rfl
 refine List.Perm.eq_of_pairwise (le:=fun a b=>rle a b=true) (fun a b _ _ h1 h2=>?_) Lc (List.pairwise_mergeSort Ei Bh rs) (pm.trans (List.mergeSort_perm rs rle).symm);unfold rle at h1 h2;rw [Bool.not_eq_true'] at h1 h2;exact jR a b h2 h1
structure Yr where
 g:List (List Int)
 k:List (List Int)
 l:List Int
 d:Int
def au (ps ow:List (List Int))(sort:Int):List (List Int):=ow.filter fun r=>decide (fl (ps.getD (fl r 1).toNat []) 1=sort)
def Gm (c:List Int)(ps ss ow:List (List Int))(y:Int)(a:Yr)(sort:Nat):Yr :=
 ⟨a.g++cW ((az ps ss sort y++au ps ow sort).zip (shr (c.getD sort 0+a.d) (az ps ss sort y) (au ps ow sort))),
  a.k++bC ((az ps ss sort y++au ps ow sort).zip (shr (c.getD sort 0+a.d) (az ps ss sort y) (au ps ow sort))),
  a.l++[c.getD sort 0+a.d - aM (cW ((az ps ss sort y++au ps ow sort).zip (shr (c.getD sort 0+a.d) (az ps ss sort y) (au ps ow sort))))],
  c.getD sort 0+a.d - aM (cW ((az ps ss sort y++au ps ow sort).zip (shr (c.getD sort 0+a.d) (az ps ss sort y) (au ps ow sort))))⟩
def yTo (c:List Int)(ps ss ow:List (List Int))(y:Int):Nat->Yr
 | 0=>⟨[],[],[],0⟩
 | n+1=>Gm c ps ss ow y (yTo c ps ss ow y n) n
def okO (ps:List (List Int))(r:List Int):Prop:=r.length=4/\0<=fl r 1/\fl r 1 < ps.length/\1<=fl r 3
theorem fY {ps ow:List (List Int)}{sort:Int}(h:∀ r∈ow,okO ps r):∀ r∈au ps ow sort,okO ps r:=fun r hr=>h r (zAq.mp hr).1
theorem oN (ps ow:List (List Int))(sort:Int):(au ps ow sort).length<=ow.length:=List.length_filter_le _ _
theorem dF {ps ss:List (List Int)}{sort year:Int}(hu:un ps ss=none)(h5:∀ s∈ss,s.length=5)(okp:∀ r∈ps,okP r):∀ r∈az ps ss sort year,r.length=4/\1<=fl r 3/\fl r 3<=99:=fun r hr=>by
 obtain ⟨a,b,c,_⟩:=Ck (sort:=sort) (year:=year) hu h5 okp ps.length (zA3 _) r hr;exact ⟨a,b,c⟩
theorem bZ {ps ss:List (List Int)}{sort year:Int}(h:ps.length<=10):(az ps ss sort year).length<=80:=by
 have:=lW ps ss sort year ps.length;unfold az;lia
theorem yE {c:List Int}{ps ss ow:List (List Int)}{y:Int}(hc:∀ x∈c,0<=x)(hu:un ps ss=none)(h5:∀ s∈ss,s.length=5)(okp:∀ r∈ps,okP r)(hl:ps.length<=10)(ho:∀ r∈ow,okO ps r):∀ n,0<=(yTo c ps ss ow y n).d
 | 0=>Int.le_refl _
 | n+1=>by
  have ih:=yE (y:=y) hc hu h5 okp hl ho n
  have hw:0<=c.getD n 0+(yTo c ps ss ow y n).d:=by
   have:=gw hc n;lia
  exact (uZ hw (dF hu h5 okp) (bZ hl) fun r hr=>by have:=(fY ho r hr).2.2.2;lia).2
theorem v7 (P:List (List Int×Int)):(cW P).length<=P.length:=by
 unfold cW;rw [zA1];exact List.length_filter_le _ _
theorem mq (P:List (List Int×Int)):(bC P).length<=P.length:=by
 unfold bC;rw [zA1];exact List.length_filter_le _ _
theorem yF {c:List Int}{ps ss ow:List (List Int)}{y:Int}(hl:ps.length<=10):∀ n,(yTo c ps ss ow y n).g.length<=n * (80+ow.length)/\(yTo c ps ss ow y n).k.length<=n * (80+ow.length)/\(yTo c ps ss ow y n).l.length=n
 | 0=>⟨zAp _,zAp _,rfl⟩
 | n+1=>by
  obtain ⟨a,b,d⟩:=yF (c:=c) (ss:=ss) (ow:=ow) (y:=y) hl n;have h1:=bZ (ss:=ss) (sort:=n) (year:=y) hl;have h2:=oN ps ow n
  have hz:∀ sh:List Int,((az ps ss n y++au ps ow n).zip sh).length<=80+ow.length:=fun sh=>by
   rw [zAs,zA2];lia
  rw [Nat.succ_mul];refine ⟨?_,?_,?_⟩
  ·show ((yTo c ps ss ow y n).g++cW _).length<=_;rw [zA2];have:=v7 ((az ps ss n y++au ps ow n).zip (shr (c.getD n 0+(yTo c ps ss ow y n).d) (az ps ss n y) (au ps ow n)));have:=hz (shr (c.getD n 0+(yTo c ps ss ow y n).d) (az ps ss n y) (au ps ow n));lia
  ·show ((yTo c ps ss ow y n).k++bC _).length<=_;rw [zA2];have:=mq ((az ps ss n y++au ps ow n).zip (shr (c.getD n 0+(yTo c ps ss ow y n).d) (az ps ss n y) (au ps ow n)));have:=hz (shr (c.getD n 0+(yTo c ps ss ow y n).d) (az ps ss n y) (au ps ow n));lia
  ·show ((yTo c ps ss ow y n).l++[_]).length=n+1;rw [zA2,d];rfl
theorem y_row {c:List Int}{ps ss ow:List (List Int)}{y:Int}:∀ n,(∀ r∈(yTo c ps ss ow y n).g,r.length=4)/\∀ r∈(yTo c ps ss ow y n).k,r.length=4
 | 0=>⟨fun r hr=>(by cases hr),fun r hr=>(by cases hr)⟩
 | n+1=>by
  obtain ⟨a,b⟩:=y_row (c:=c) (ps:=ps) (ss:=ss) (ow:=ow) (y:=y) n;refine ⟨fun r hr=>?_,fun r hr=>?_⟩
  ·rcases zA6.mp (show r∈(yTo c ps ss ow y n).g++cW _ from hr) with z | z
   ·exact a r z
   ·obtain ⟨p,_,rfl⟩:=zA5.mp z;rfl
  ·rcases zA6.mp (show r∈(yTo c ps ss ow y n).k++bC _ from hr) with z | z
   ·exact b r z
   ·obtain ⟨p,_,rfl⟩:=zA5.mp z;rfl
def vInt:V->Int
 | .int i=>i
 | _=>0
def jF (H:Hp)(a:Addr):List Int:=match H a with
 | some (.tup xs)=>xs.map vInt
 | _=>[]
theorem Bj {H:Hp}{a:Addr}{r:List Int}(e:H a=some (.tup (r.map V.int))):jF H a=r:=by
 unfold jF;rw [e];show (r.map V.int).map vInt=r;rw [zAr];exact List.map_id _
theorem qw {H:Hp}:∀ {xs:List V} {rs:List (List Int)},Els H xs rs->∃ ads:List Addr,xs=ads.map V.ref/\rs=ads.map (jF H)/\∀ a∈ads,H a=some (.tup ((jF H a).map V.int))
 | [],[],_=>⟨[],rfl,rfl,fun a ha=>(by cases ha)⟩
 | [],_::_,h=>by have:=h.1;simp at this
 | _::_,[],h=>by have:=h.1;simp at this
 | x::xs,r::rs,h=>by
  obtain ⟨t,e1,e2⟩:=h.2 0 r rfl;rw [List.getElem?_cons_zero] at e1;cases e1
  obtain ⟨ads,f1,f2,f3⟩:=qw (xs:=xs) (rs:=rs) ⟨by have:=h.1;simpa using this,fun i q e=>by
   obtain ⟨u,g1,g2⟩:=h.2 (i+1) q (by rw [List.getElem?_cons_succ];exact e);rw [List.getElem?_cons_succ] at g1
   exact ⟨u,g1,g2⟩⟩
  have er:=Bj e2;refine ⟨t::ads,by rw [f1];rfl,by rw [f2,zAk,er,<- f2],fun a ha=>?_⟩;rcases zAo.mp ha with z | z
  ·rw [z,er];exact e2
  ·exact f3 a z
theorem yG {H H':Hp}{l':List Addr}(h:∀ a∈l',H' a=some (.tup ((jF H a).map V.int))):Els H' (l'.map V.ref) (l'.map (jF H)):=by
 refine ⟨by rw [zA1,zA1],fun i r e=>?_⟩;rw [zAb] at e
 cases z:l'[i]? with
 | none=>rw [z] at e;cases e
 | some a =>
  rw [z] at e;cases e;exact ⟨a,by rw [zAb,z];rfl,h a (zB6 z)⟩
inductive SpYearI (vs:List V)(H:Hp)(Q:VK):Prop
 | mk:∀ bk y lo ac xc cs ap xp ps ae xs ss xo ow,(vs=[.ref bk,.int y,.ref lo])->(H bk=some (.tup [.ref ac,.ref ap,.ref ae]))->(RowsAt H ac xc cs)->((∀ r∈cs,r.length=3/\∀ x∈r,0<=x))->(0<=y)->(y < cs.length)->(RowsAt H ap xp ps)->(ps.length<=10)->((∀ r∈ps,okP r))->(RowsAt H ae xs ss)->(ss.length<=12)->((∀ s∈ss,s.length=5))->(un ps ss=none)->(H lo=some (.lst xo))->(Els H xo ow)->((∀ r∈ow,okO ps r))->(ow.length<=10000)->(∀ t g k tl xg xk H',Same H H'->H' t=some (.tup [.ref g,.ref k,.ref tl])->H g=none->H k=none->(g≠sysModules/\k≠sysModules)->H' g=some (.lst xg)->Els H' xg (srt (yTo (cs.getD y.toNat []) ps ss ow y 3).g)->H' k=some (.lst xk)->Els H' xk (srt (yTo (cs.getD y.toNat []) ps ss ow y 3).k)->H' tl=some (.tup ((yTo (cs.getD y.toNat []) ps ss ow y 3).l.map V.int))->Q (.ref t) H')->SpYearI  vs H Q
def yH:Sp:=fun vs H Q _=>SpYearI  vs H Q
theorem v8 {ps ss:List (List Int)}(h:un ps ss=none)(h5:∀ s∈ss,s.length=5):∀ s∈ss,okS s:=fun s hs=>by
 obtain ⟨j,hj,e⟩:=List.getElem_of_mem hs;have:=yC h j hj;rw [getD_get hj,e] at this;exact lO (h5 s hs) this
theorem tY {D:Ends}{tb:TS}{σ:L2.St}{H:Hp}(R:Hp->Prop)(h:R H)(g:∀ H,R H->tb D σ H):tb D σ H:=g H h
variable {P:Program}{w:World}{K:PySem.W.Frag}{mg:Str->Option Value}{base:Heap}{f:Addr}{fd:FuncData}
theorem boot_sorted:bootBuiltins "sorted" = some (.builtin "sorted"):=by decide +kernel
theorem ndZ:(["row","promises","sort"]:List Str).Nodup:=by decide +kernel
theorem scZ1:FnScope ["book","year","owed","clips","promises","sales","gifts","lacking","left","down","sort","wool","claims","ahead","given","lacked"] ["book","year","owed"] (aJ (top 48)):=fS
theorem Bk (F:Fun K "year_given" "year_given" (top 48) f fd)(T:Mg mg)(N:Nums mg)(Tr:mg "range" = none)(Ts:mg "sorted" = none)(c1:Cal P w K mg base 2 "claims_in" ["promises","sales","sort","year"] lZ)(c2:Cal P w K mg base 8 "sort_given" ["wool","claims","owed"] yw)(c3:Cal P w K mg base 1 "sacks_of" ["rows"] uV):FnOk P w K mg base CX0 9 f fd ["book","year","owed"] yH:=by
 refine F.ok scZ1 (fun vs H Q E h=>?_) (fun ai A outer s H vs Q E hr h=>?_)
 ·obtain ⟨bk,y,lo,ac,xc,cs,ap,xp,ps,ae,xs,ss,xo,ow,rfl,_⟩:=h;rfl
 ·obtain ⟨bk,y,lo,ac,xc,cs,ap,xp,ps,ae,xs,ss,xo,ow,rfl,eb,rc,okc,y0,y1,rp,lp,okp,rs,ls,h5,hu,eo,dA,l7,K8,q⟩:=h;obtain ⟨t3,e3⟩:=N.sorts
  refine K90P.ok_b (aN ⟨bN (pv 0) (bz rfl (aj (pgn 3 scZ1.nd) (aj (aY (i:=4) scZ1.nd rfl (Or.inr rfl)) (aj (pgn 5 scZ1.nd) aR))))⟩
   (aN (lA 6 scZ1.nd (pW fJ))
   (aN (lA 7 scZ1.nd (pW fJ))
   (aN (lA 8 scZ1.nd (pW fJ))
   (aN (lA 9 scZ1.nd DK)
   (aN ⟨bV zB5 rfl (cA rfl Tr (aq (bK (v:=.int 3) rfl e3 ⟨_,rfl⟩) ao)) (aY (i:=10) scZ1.nd rfl (Or.inr rfl))
    (j6 (aN (lA 11 scZ1.nd (Ci bG (xK bW (xK bW ⟨pv 3⟩ ⟨pv 1⟩ (fun _ _=>rfl)) ⟨pv 10⟩ (fun _ _=>rfl)) ⟨pv 9⟩))
    (aN (lA 12 scZ1.nd ⟨aH c1 hr (aq (pv 4) (aq (pv 5) (aq (pv 10) (aq (pv 1) ao))))⟩)
    (aN ⟨ir (i:=13) ["row","promises","sort"] [none,some 4,some 10] rfl scZ1.nd rfl (Or.inl rfl) (cC (pv 2)) (fun C fp pins s₂ H₂=>⟨pgn 0 ndZ,gf (aZ jW (pX (K90P.ix_tupK (K:=K) rfl) (pX (K90P.ix_tupK (K:=K) rfl) (pv 1) (pX (K90P.ix_tupK (K:=K) rfl) (pv 0) aB)) aB) (pv 2) (bj _)),pv 0⟩) (fun C=>cI (cI trivial)) ⟨rfl,rfl,rfl,rfl⟩⟩
    (aN ⟨bN (aH c2 hr (aq (pv 11) (aq (pv 12) (aq (pv 13) ao)))) (bz rfl (aj (pgn 14 scZ1.nd) (aj (pgn 15 scZ1.nd) aR)))⟩
    (aN (lA 9 scZ1.nd (Ci gH ⟨pv 11⟩ ⟨aH c3 hr (aq (pv 14) ao)⟩))
    (aN ⟨iB (i:=6) scZ1.nd rfl (Or.inl rfl) (pv 14) jz⟩
    (aN ⟨iB (i:=7) scZ1.nd rfl (Or.inl rfl) (pv 15) jz⟩
    (cD ⟨dH (xq zBg zBf zBe jt (pv 8) (aq (pv 9) ao))⟩)))))))))⟩
   (cD (tE (tD (gj ⟨aO fK rfl Ts boot_sorted (aq (pv 6) ao)⟩ (gj ⟨aO fK rfl Ts boot_sorted (aq (pv 7) ao)⟩ (gj ⟨cZ cO rfl T.tuple boot_tuple (aq (pv 8) ao)⟩ fJ)))))))))))) ?_
  refine aF ?_;refine ⟨_,rfl,bk,_,rfl,SqT.of eb,rfl,_,_,rfl,_,_,rfl,_,_,rfl,rfl,?_⟩;dsimp only;refine aF (aW ?_);refine ⟨zL,fun lg Ee=>?_⟩;refine aK ?_;dsimp only;refine aF (aW ?_);refine ⟨zL,fun lk sM=>?_⟩;refine aK ?_;dsimp only;refine aF (aW ?_);refine ⟨zL,fun ll gc=>?_⟩;refine aK ?_;dsimp only;refine aF (aW ?_);refine aK ?_;dsimp only;have s1:=Same.upd (o:=.lst []) Ee;have s2:=Same.upd (o:=.lst []) sM;have s3:=Same.upd (o:=.lst []) gc;have Ld:H lg=none:=Ee;have Le:H lk=none:=s1.free sM;have EA:H ll=none:=(s1.trans s2).free gc
  have IC:lg≠lk:=fun z=>by rw [<- z,aa] at sM;cases sM
  have ID:lk≠ll:=fun z=>by rw [<- z,aa] at gc;cases gc
  have IE:lg≠ll:=fun z=>by rw [<- z,s2 _ _ aa] at gc;cases gc
  refine tY (fun H1=>Same H H1/\H1 lg=some (.lst [])/\H1 lk=some (.lst [])/\H1 ll=some (.lst [])) ⟨(s1.trans s2).trans s3,s3 _ _ (s2 _ _ aa),s3 _ _ aa,aa⟩ fun H1 ⟨k1,wx,Lf,el1⟩=>?_;clear s1 s2 s3 Ee sM gc;have EB:y.toNat < cs.length:=by lia
  obtain ⟨tc,yT,AY⟩:=rows_at rc y0 (show cs[y.toNat]?=some cs[y.toNat] from zA0 EB);have Lg:cs.getD y.toNat []=cs[y.toNat]:=getD_get EB;have qV:=okc _ (zAh EB);rw [Lg] at q;generalize cs[y.toNat]=c at q AY qV;have df:=v8 hu h5;refine aF ?_;refine ⟨3,rfl,by decide,by decide,?_⟩;refine cY (lo:=0) (fun i σ Hc=>∃ bX eW cx fe ff fg xg xk,σ=[some (.ref bk),some (.int y),some (.ref lo),some (.ref ac),some (.ref ap),some (.ref ae),some (.ref lg),some (.ref lk),some (.ref ll),some (.int (yTo c ps ss ow y i).d),bX,eW,cx,fe,ff,fg]/\Same H Hc/\Hc lg=some (.lst xg)/\Els Hc xg (yTo c ps ss ow y i).g/\Hc lk=some (.lst xk)/\Els Hc xk (yTo c ps ss ow y i).k/\Hc ll=some (.lst ((yTo c ps ss ow y i).l.map V.int))) ?_ ?_ ?_
  ·exact ⟨none,none,none,none,none,none,[],[],rfl,k1,wx,Els.nil,Lf,Els.nil,el1⟩
  ·rintro i σ Hc hi ⟨bX,eW,cx,fe,ff,fg,xg,xk,rfl,k,eg,cm,ek,fk,el⟩;have hi:i < 3:=hi;obtain ⟨PY,PZ,Lh⟩:=yF (c:=c) (ss:=ss) (ow:=ow) (y:=y) lp i;refine aK ?_;have z0:(0:Int)+(i:Int)=i:=by lia
   rw [z0];refine rO fun De AZ=>?_
   have Li:(c.map V.int)[i]?=some (.int (c.getD i 0)):=by
    have cq:i < c.length:=by lia
    rw [zAb,zA7,zA0 cq];rfl
   refine aF (aW ?_);refine ⟨_,rfl,_,rfl,ac,xc,y,.ref tc,rfl,rfl,SqT.of (k _ _ rc.e),yT,_,rfl,tc,_,i,.int (c.getD i 0),rfl,rfl,SqT.of (k _ _ AY),cu Li,_,rfl,_,_,rfl,rfl,?_⟩;refine aK ?_;dsimp only;have dn:=yE (c:=c) (y:=y) qV.2 hu h5 okp lp l7 i;have cn:=gw qV.2 i;refine aF (aW ?_);refine ⟨_,rfl,_,rfl,_,rfl,_,rfl,ap,xp,ps,ae,xs,ss,i,y,rfl,rp.same k,lp,okp,rs.same k,ls,df,fun lc Lj H2 s2 P0 yi EC=>?_⟩;refine aK ?_;dsimp only;have k2:=k.trans s2;refine aF ?_;refine ⟨_,rfl,lo,rfl,⟨_,SqL.of (k2 _ _ eo)⟩,fc ow.length (fun j ys σ Hj=>Same H2 Hj/\(∃ o1,σ=[o1,some (.ref ap),some (.int i)])/\Els Hj ys (au ps (ow.take j) i)) ⟨Same.refl _,⟨_,rfl⟩,Els.nil⟩ (by rw [sizeLine_eq];lia) ?_ ?_⟩
   ·rintro j ys σ Hj hj hy ⟨sc,⟨o1,rfl⟩,qS⟩;have kj:=k2.trans sc;have nr:SqL K Hj lo xo:=SqL.of (kj _ _ eo);obtain ⟨tr,ex,bq⟩:=dA.2 j ow[j] (zA0 hj);obtain ⟨o4,o5,o6,o7⟩:=l7 _ (zAh hj);have ED:=bq;rw [cH o4] at bq;obtain ⟨p,hp,ep,op⟩:=prom_ok okp o5 o6;obtain ⟨tp,dv,gg⟩:=rows_at rp o5 hp;rw [six_row op.1] at gg
    have fh:au ps (ow.take (j+1)) i=au ps (ow.take j) i++(if fl p 1=i then [ow[j]] else []):=by
     rw [zAj,zA0 hj];unfold au;rw [show (some ow[j]).toList=[ow[j]] from rfl,List.filter_append];congr 1;by_cases h:fl p 1=i
     ·rw [zAw h,zB7 (by rw [ep];exact zAt h)];rfl
     ·rw [zAv h,zB9 (by rw [ep,decide_eq_true_eq];exact h)];rfl
    refine ⟨⟨_,_,nr,ex⟩,fun x H' yv R hR=>?_⟩;obtain ⟨rfl,yv⟩:=yv;have yv:=yv _ nr;rw [ex] at yv;cases yv;refine aK ?_;refine ⟨_,rfl,_,rfl,tr,_,1,.int (fl ow[j] 1),rfl,rfl,SqT.of (kj _ _ bq),rfl,ap,xp,_,.ref tp,rfl,rfl,SqT.of (kj _ _ rp.e),dv,tp,_,1,.int (fl p 1),rfl,rfl,SqT.of (kj _ _ gg),rfl,_,rfl,rfl,_,rfl,?_⟩;by_cases h:fl p 1=i
    ·rw [zAt (by rw [h])];refine bO ⟨_,rfl,hR _ _ _ (by rw [zA2];show ys.length+1<=j+1;lia) ⟨sc,⟨_,rfl⟩,?_⟩⟩;rw [fh,zAw h];exact qS.app (Els.one (kj _ _ ED))
    ·rw [zB2 (fun z=>h (by injection z))];refine bD (hR _ _ _ (by lia) ⟨sc,⟨_,rfl⟩,?_⟩);rw [fh,zAv h,zAn];exact qS
   rintro ya σ Hj hy ⟨sc,_,nv⟩;rw [zAm] at nv;refine ⟨⟨_,SqL.of (sc _ _ (k2 _ _ eo)),by rw [dA.1];exact zA3 _⟩,fun la kX=>?_⟩;have sa:=sc.updR (o:=.lst ya) kX;have ko:=aa (H:=Hj) (a:=la) (o:=.lst ya);have nv:=nv.same (Same.upd (o:=.lst ya) kX);generalize upd Hj la (.lst ya)=H3 at sa ko nv ⊢;have k3:=k2.trans sa;have sH:=s2.trans sa;dsimp only;have iA:=dF (sort:=i) (year:=y) hu h5 okp;have xS:=bZ (ss:=ss) (sort:=i) (year:=y) lp;have Lk:=fY (sort:=i) l7;have qo:=oN ps ow i;refine aF ?_;refine ⟨_,rfl,_,rfl,_,rfl,c.getD i 0+(yTo c ps ss ow y i).d,lc,Lj,az ps ss i y,la,ya,au ps ow i,rfl,sa _ _ yi,EC.same sa,iA,xS,by lia,ko,nv,fun r hr=>(Lk r hr).1,by lia,fun t g kk kq l9 H4 s4 et ng nk IF ma Ll rb=>⟨t,_,rfl,SqT.of et,rfl,_,_,rfl,_,_,rfl,rfl,?_⟩⟩;have k4:=k3.trans s4;have Lm:=sH.trans s4;have gl:=v7 ((az ps ss i y++au ps ow i).zip (shr (c.getD i 0+(yTo c ps ss ow y i).d) (az ps ss i y) (au ps ow i)));have kl:=mq ((az ps ss i y++au ps ow i).zip (shr (c.getD i 0+(yTo c ps ss ow y i).d) (az ps ss i y) (au ps ow i)))
   have zl:((az ps ss i y++au ps ow i).zip (shr (c.getD i 0+(yTo c ps ss ow y i).d) (az ps ss i y) (au ps ow i))).length<=80+ow.length:=by
    rw [zAs,zA2];lia
   have e1:(yTo c ps ss ow y (i+1)).g=(yTo c ps ss ow y i).g++cW ((az ps ss i y++au ps ow i).zip (shr (c.getD i 0+(yTo c ps ss ow y i).d) (az ps ss i y) (au ps ow i))):=rfl;have e2:(yTo c ps ss ow y (i+1)).k=(yTo c ps ss ow y i).k++bC ((az ps ss i y++au ps ow i).zip (shr (c.getD i 0+(yTo c ps ss ow y i).d) (az ps ss i y) (au ps ow i))):=rfl;have e3:(yTo c ps ss ow y (i+1)).l=(yTo c ps ss ow y i).l++[c.getD i 0+(yTo c ps ss ow y i).d - aM (cW ((az ps ss i y++au ps ow i).zip (shr (c.getD i 0+(yTo c ps ss ow y i).d) (az ps ss i y) (au ps ow i))))]:=rfl;have e4:(yTo c ps ss ow y (i+1)).d=c.getD i 0+(yTo c ps ss ow y i).d - aM (cW ((az ps ss i y++au ps ow i).zip (shr (c.getD i 0+(yTo c ps ss ow y i).d) (az ps ss i y) (au ps ow i)))):=rfl
   have g4:∀ r∈cW ((az ps ss i y++au ps ow i).zip (shr (c.getD i 0+(yTo c ps ss ow y i).d) (az ps ss i y) (au ps ow i))),r.length=4:=fun r hr=>by
    obtain ⟨p,_,rfl⟩:=zA5.mp hr;rfl
   rw [e1,e2,e3,e4] at AZ;generalize cW ((az ps ss i y++au ps ow i).zip (shr (c.getD i 0+(yTo c ps ss ow y i).d) (az ps ss i y) (au ps ow i)))=GG at ma g4 gl AZ ⊢;generalize bC ((az ps ss i y++au ps ow i).zip (shr (c.getD i 0+(yTo c ps ss ow y i).d) (az ps ss i y) (au ps ow i)))=KK at rb kl AZ ⊢;dsimp only;refine aF (aW ?_);refine ⟨_,rfl,_,rfl,g,kq,GG,rfl,IF,ma,g4,by lia,fun H5 s5=>⟨_,_,rfl,rfl,?_⟩⟩;refine aK ?_;dsimp only;have k5:=k4.trans s5;have yY:=Lm.trans s5;have P1:g≠lg:=(aD (sH _ _ eg) ng).symm;have Ln:kk≠lg:=(aD (sH _ _ eg) nk).symm;have IG:=yY _ _ eg;have Lo:=yY _ _ ek;have el5:=yY _ _ el;refine aF ?_;refine ⟨_,rfl,_,rfl,lg,g,xg,kq,rfl,rfl,IG,s5 _ _ IF,by rw [cm.1,ma.1,sizeLine_eq];have:i * (80+ow.length)<=3 * (80+ow.length):=Nat.mul_le_mul_right _ (by lia);lia,?_⟩;dsimp only
   have EE:∀ b z,H5 b=some (.tup z)->upd H5 lg (.lst (xg++kq)) b=some (.tup z):=fun b z e=>by
    rw [aC fun w=>by rw [w,IG] at e;cases e];exact e
   have k6:Same H (upd H5 lg (.lst (xg++kq))):=fun b o e=>by
    rw [aC (aD e Ld)];exact k5 _ _ e
   have IH:=aa (H:=H5) (a:=lg) (o:=.lst (xg++kq));have y6:=((cm.same yY).app (ma.same s5)).keep EE;have EF:upd H5 lg (.lst (xg++kq)) lk=some (.lst xk):=by rw [aC IC.symm];exact Lo
   have y7:upd H5 lg (.lst (xg++kq)) kk=some (.lst l9):=by rw [aC Ln];exact s5 _ _ Ll
   have II:upd H5 lg (.lst (xg++kq)) ll=some (.lst ((yTo c ps ss ow y i).l.map V.int)):=by rw [aC IE.symm];exact el5
   have y8:=(fk.same yY).keep EE;have nI:=(rb.same s5).keep EE;generalize upd H5 lg (.lst (xg++kq))=H6 at k6 IH y6 EF y7 II y8 nI ⊢;refine aF ?_;refine ⟨_,rfl,_,rfl,lk,kk,xk,l9,rfl,rfl,EF,y7,by rw [fk.1,rb.1,sizeLine_eq];have:i * (80+ow.length)<=3 * (80+ow.length):=Nat.mul_le_mul_right _ (by lia);lia,?_⟩;dsimp only
   have IJ:∀ b z,H6 b=some (.tup z)->upd H6 lk (.lst (xk++l9)) b=some (.tup z):=fun b z e=>by
    rw [aC fun w=>by rw [w,EF] at e;cases e];exact e
   have k7:Same H (upd H6 lk (.lst (xk++l9))):=fun b o e=>by
    rw [aC (aD e Le)];exact k6 _ _ e
   have IK:upd H6 lk (.lst (xk++l9)) lg=some (.lst (xg++kq)):=by rw [aC IC];exact IH
   have y9:=y6.keep IJ;have IL:=aa (H:=H6) (a:=lk) (o:=.lst (xk++l9));have zd:=(y8.app nI).keep IJ;have rf:upd H6 lk (.lst (xk++l9)) ll=some (.lst ((yTo c ps ss ow y i).l.map V.int)):=by rw [aC ID.symm];exact II
   generalize upd H6 lk (.lst (xk++l9))=H7 at k7 IK y9 IL zd rf ⊢;refine ⟨_,rfl,.inl ⟨rfl,_,SqL.of rf⟩,_,rfl,ll,_,_,rfl,rfl,rf,by rw [zA1,Lh,sizeLine_eq];lia,?_⟩
   have IM:∀ {o:HO} b z,H7 b=some (.tup z)->upd H7 ll o b=some (.tup z):=fun b z e=>by
    rw [aC fun w=>by rw [w,rf] at e;cases e];exact e
   refine AZ _ _ ⟨_,_,_,_,_,_,xg++kq,xk++l9,rfl,fun b o e=>?_,?_,y9.keep IM,?_,zd.keep IM,?_⟩
   ·rw [aC (aD e EA)];exact k7 _ _ e
   ·rw [aC IE];exact IK
   ·rw [aC ID];exact IL
   ·rw [aa,zA4];rfl
  ·rintro σ Hc ⟨bX,eW,cx,fe,ff,fg,xg,xk,rfl,k,eg,cm,ek,fk,el⟩;obtain ⟨Lp,Lq⟩:=y_row (c:=c) (ps:=ps) (ss:=ss) (ow:=ow) (y:=y) 3;have q:∀ t g k tl xg xk H',Same H H'->H' t=some (.tup [.ref g,.ref k,.ref tl])->H g=none->H k=none->(g≠sysModules/\k≠sysModules)->H' g=some (.lst xg)->Els H' xg (srt (yTo c ps ss ow y 3).g)->H' k=some (.lst xk)->Els H' xk (srt (yTo c ps ss ow y 3).k)->H' tl=some (.tup ((yTo c ps ss ow y 3).l.map V.int))->Q (.ref t) H':=q;have cm:Els Hc xg (yTo c ps ss ow y 3).g:=cm;have fk:Els Hc xk (yTo c ps ss ow y 3).k:=fk;have el:Hc ll=some (.lst ((yTo c ps ss ow y 3).l.map V.int)):=el;obtain ⟨ag,Lr,IP,IQ⟩:=qw cm;obtain ⟨ak,Ls,sL,IS⟩:=qw fk;subst Lr Ls;dsimp only
   have nn:∀ {rs:List (List Int)} {ads:List Addr},rs=ads.map (jF Hc)->(∀ r∈rs,r.length=4)->∀ a∈ads,jF Hc a≠[]:=fun {rs ads} h h4 a ha z=>by
    have:=h4 (jF Hc a) (by rw [h];exact List.mem_map_of_mem ha);rw [z] at this;cases this
   refine ⟨_,rfl,lg,ag,jF Hc,rfl,SqL.of eg,fun a ha=>⟨SqT.of (IQ a ha),nn IP Lp a ha⟩,fun g l1 hg ze IT Lu=>?_⟩;have sg:=Same.upd (o:=.lst (l1.map V.ref)) hg;refine ⟨_,rfl,lk,ak,jF Hc,rfl,SqL.of (sg _ _ ek),fun a ha=>⟨SqT.of (sg _ _ (IS a ha)),nn sL Lq a ha⟩,fun kk l2 hk Lv IU Lw=>?_⟩;have sk:=sg.updR (o:=.lst (l2.map V.ref)) hk;refine ⟨_,rfl,ll,_,rfl,.inl ⟨SqL.of (sk _ _ el),fun tl IV=>?_⟩⟩;have sl:=sk.updR (o:=.tup ((yTo c ps ss ow y 3).l.map V.int)) IV;refine ⟨zL,fun t ht=>?_⟩;have st:=sl.updR (o:=.tup [.ref g,.ref kk,.ref tl]) ht;have u1:=Same.upd (o:=.lst (l2.map V.ref)) hk;have u2:=Same.upd (o:=.tup ((yTo c ps ss ow y 3).l.map V.int)) IV;have u3:=Same.upd (o:=.tup [.ref g,.ref kk,.ref tl]) ht;have Lx:l1.map (jF Hc)=srt (yTo c ps ss ow y 3).g:=yD (by rw [IP];exact IT.map _) (List.pairwise_map.mpr Lu);have LA:l2.map (jF Hc)=srt (yTo c ps ss ow y 3).k:=yD (by rw [sL];exact IU.map _) (List.pairwise_map.mpr Lw);refine q t g kk tl _ _ _ (k.trans st) aa (k.free hg) (k.free (sg.free hk)) ⟨ze,Lv⟩ (u3 _ _ (u2 _ _ (u1 _ _ aa))) ?_ (u3 _ _ (u2 _ _ aa)) ?_ (u3 _ _ aa)
   ·rw [<- Lx];exact yG fun a ha=>st _ _ (IQ a (IT.mem_iff.mp ha))
   ·rw [<- LA];exact yG fun a ha=>st _ _ (IS a (IU.mem_iff.mp ha))
def cnt (ps ow:List (List Int)):Nat->Nat
 | 0=>0
 | n+1=>cnt ps ow n+(au ps ow n).length
theorem cnt_nil (ps:List (List Int)):∀ n,cnt ps [] n=0
 | 0=>rfl
 | n+1=>by
  unfold cnt;rw [cnt_nil ps n];rfl
theorem cnt_cons (ps ow:List (List Int))(r:List Int):∀ n,cnt ps (r::ow) n=cnt ps ow n+(if 0<=fl (ps.getD (fl r 1).toNat []) 1/\fl (ps.getD (fl r 1).toNat []) 1 < n then 1 else 0)
 | 0=>by
  rw [zAv (by lia)];rfl
 | n+1=>by
  show cnt ps (r::ow) n+(au ps (r::ow) n).length=cnt ps ow n+(au ps ow n).length+_;rw [cnt_cons ps ow r n];unfold au;by_cases h:fl (ps.getD (fl r 1).toNat []) 1=n
  ·rw [zB7 (p:=fun (r:List Int)=>decide (fl (ps.getD (fl r 1).toNat []) 1=(n:Int))) (zAt h),zAe,zAv (by lia),zAw (by lia)];lia
  ·rw [zB9 (p:=fun (r:List Int)=>decide (fl (ps.getD (fl r 1).toNat []) 1=(n:Int))) (by rw [decide_eq_true_eq];exact h)];by_cases h2:0<=fl (ps.getD (fl r 1).toNat []) 1/\fl (ps.getD (fl r 1).toNat []) 1 < n
   ·rw [zAw h2,zAw (by lia)];lia
   ·rw [zAv h2,zAv (by lia)];lia
theorem yI (ps:List (List Int))(n:Nat):∀ ow:List (List Int),cnt ps ow n<=ow.length
 | []=>by rw [cnt_nil];exact zA3 _
 | r::ow=>by
  rw [cnt_cons,zAe];have:=yI ps n ow;split <;> lia
theorem Cm {c:List Int}{ps ss ow:List (List Int)}{y:Int}(hl:ps.length<=10):∀ n,(yTo c ps ss ow y n).k.length<=80 * n+cnt ps ow n
 | 0=>zAp _
 | n+1=>by
  have a:=Cm (c:=c) (ss:=ss) (ow:=ow) (y:=y) hl n;have h1:=bZ (ss:=ss) (sort:=n) (year:=y) hl;have h3:=mq ((az ps ss n y++au ps ow n).zip (shr (c.getD n 0+(yTo c ps ss ow y n).d) (az ps ss n y) (au ps ow n)));show ((yTo c ps ss ow y n).k++bC _).length<=80 * (n+1)+(cnt ps ow n+(au ps ow n).length);rw [zA2];rw [zAs,zA2] at h3;lia
theorem Gn {c:List Int}{ps ss ow:List (List Int)}{y:Int}(hu:un ps ss=none)(h5:∀ s∈ss,s.length=5)(okp:∀ r∈ps,okP r)(ho:∀ r∈ow,okO ps r):∀ n,∀ r∈(yTo c ps ss ow y n).k,okO ps r
 | 0,r,hr=>by cases hr
 | n+1,r,hr=>by
  rcases zA6.mp (show r∈(yTo c ps ss ow y n).k++bC _ from hr) with z | z
  ·exact Gn (c:=c) (y:=y) hu h5 okp ho n r z
  ·obtain ⟨p,hp,rfl⟩:=zA5.mp z;obtain ⟨h1,h2⟩:=zAq.mp hp;have h2:=zB3 h2;have hm:p.1∈az ps ss n y++au ps ow n:=(List.of_mem_zip (show (p.1,p.2)∈_ from h1)).1
   have hn:0<=fl p.1 1/\fl p.1 1 < ps.length:=by
    rcases zA6.mp hm with w | w
    ·obtain ⟨_,_,_,_,a,b⟩:=Ck (sort:=n) (year:=y) hu h5 okp ps.length (zA3 _) p.1 w;exact ⟨a,b⟩
    ·have:=fY ho p.1 w;exact ⟨this.2.1,this.2.2.1⟩
   refine ⟨rfl,hn.1,hn.2,?_⟩;show 1<=fl p.1 3 - p.2;lia
def cN (cs ps ss:List (List Int)):Nat->List (List Int)
 | 0=>[]
 | n+1=>srt (yTo (cs.getD n []) ps ss (cN cs ps ss n) n 3).k
theorem jn {cs ps ss:List (List Int)}(hl:ps.length<=10)(hu:un ps ss=none)(h5:∀ s∈ss,s.length=5)(okp:∀ r∈ps,okP r):∀ n,(∀ r∈cN cs ps ss n,okO ps r)/\(cN cs ps ss n).length<=240 * n
 | 0=>⟨fun r hr=>(by cases hr),zA3 _⟩
 | n+1=>by
  obtain ⟨a,b⟩:=jn (cs:=cs) hl hu h5 okp n;have pm:=List.mergeSort_perm (yTo (cs.getD n []) ps ss (cN cs ps ss n) n 3).k rle;refine ⟨fun r hr=>Gn (c:=cs.getD n []) (y:=n) hu h5 okp a 3 r (pm.mem_iff.mp hr),?_⟩;show (srt (yTo (cs.getD n []) ps ss (cN cs ps ss n) n 3).k).length<=_;unfold srt;rw [pm.length_eq];have:=Cm (c:=cs.getD n []) (ss:=ss) (ow:=cN cs ps ss n) (y:=n) hl 3;have:=yI ps 3 (cN cs ps ss n);lia
def dN (cs ps ss:List (List Int))(j:Nat):Yr:=yTo (cs.getD j []) ps ss (cN cs ps ss j) j 3
def YAt (H0:Hp)(l:Addr)(cs ps ss:List (List Int))(H:Hp)(a:Addr)(j:Nat):Prop:=∃ g k tl xg xk,H a=some (.tup [.ref g,.ref k,.ref tl])/\H0 g=none/\H0 k=none/\g≠l/\k≠l/\H g=some (.lst xg)/\Els H xg (srt (dN cs ps ss j).g)/\H k=some (.lst xk)/\Els H xk (cN cs ps ss (j+1))/\H tl=some (.tup ((dN cs ps ss j).l.map V.int))/\(g≠sysModules/\k≠sysModules)
theorem YAt.keep {H0 H H':Hp}{l a:Addr}{cs ps ss:List (List Int)}{j:Nat}(h:YAt H0 l cs ps ss H a j)(k:∀ b o,b≠l->H b=some o->H' b=some o)(hl:∃ xs,H l=some (.lst xs)):YAt H0 l cs ps ss H' a j:=by
 obtain ⟨xs,hl⟩:=hl;obtain ⟨g,kk,tl,xg,xk,e1,n1,n2,d1,d2,e2,e3,e4,e5,e6,e7⟩:=h
 have nt:∀ b z,H b=some (.tup z)->b≠l:=fun b z e w=>by rw [w,hl] at e;cases e
 exact ⟨g,kk,tl,xg,xk,k _ _ (nt _ _ e1) e1,n1,n2,d1,d2,k _ _ d1 e2,e3.keep fun b z e=>k _ _ (nt _ _ e) e,k _ _ d2 e4,e5.keep fun b z e=>k _ _ (nt _ _ e) e,k _ _ (nt _ _ e6) e6,e7⟩
inductive SpYearsI (vs:List V)(H:Hp)(Q:VK):Prop
 | mk:∀ bk y ac xc cs ap xp ps ae xs ss,(vs=[.ref bk,.int y])->(H bk=some (.tup [.ref ac,.ref ap,.ref ae]))->(RowsAt H ac xc cs)->((∀ r∈cs,r.length=3/\∀ x∈r,0<=x))->(cs.length<=20)->(0<=y)->(y < cs.length)->(RowsAt H ap xp ps)->(ps.length<=10)->((∀ r∈ps,okP r))->(RowsAt H ae xs ss)->(ss.length<=12)->((∀ s∈ss,s.length=5))->(un ps ss=none)->(∀ l (ts:List Addr) H',Same H H'->H l=none->H' l=some (.lst (ts.map V.ref))->(ts.length:Int)=y+1->(∀ j a,ts[j]?=some a->YAt H l cs ps ss H' a j)->Q (.ref l) H')->SpYearsI  vs H Q
def jo:Sp:=fun vs H Q _=>SpYearsI  vs H Q
theorem scYB:FnScope ["book","year","years","owed","at","gifts","left"] ["book","year"] (aJ (top 49)):=fS
theorem yJ (F:Fun K "years_given" "years_given" (top 49) f fd)(Tr:mg "range" = none)(c1:Cal P w K mg base 9 "year_given" ["book","year","owed"] yH):FnOk P w K mg base CX0 10 f fd ["book","year"] jo:=by
 refine F.ok scYB (fun vs H Q E h=>?_) (fun ai A outer s H vs Q E hr h=>?_)
 ·obtain ⟨bk,y,ac,xc,cs,ap,xp,ps,ae,xs,ss,rfl,_⟩:=h;rfl
 ·obtain ⟨bk,y,ac,xc,cs,ap,xp,ps,ae,xs,ss,rfl,eb,rc,okc,lc,y0,y1,rp,lp,okp,rs,ls,h5,hu,q⟩:=h
  refine ⟨_,aA (pss 2 scYB.nd (cQ ao))
   (aA (pss 3 scYB.nd (cQ ao))
   (aA (bV zB5 rfl (cA rfl Tr (aq (aV bG (pv 1) aB) ao)) (pgn 4 scYB.nd)
    (aA (bN (aH c1 hr (aq (pv 0) (aq (pv 4) (aq (pv 3) ao)))) (bz rfl (aj (pgn 5 scYB.nd) (aj (pgn 3 scYB.nd) (aj (pgn 6 scYB.nd) aR)))))
    (aG (dH (xq zBg zBf zBe jt (pv 2) (aq (bA (aq (pv 5) (aq (pv 3) (aq (pv 6) ao)))) ao))))))
   (aG (aQ (pv 2))))),?_⟩
  refine aF (aW ?_);refine ⟨zL,fun l hl=>?_⟩;refine aK ?_;dsimp only;refine aF (aW ?_);refine ⟨zL,fun EG dP=>?_⟩;refine aK ?_;dsimp only;have s1:=Same.upd (o:=.lst []) hl;have s2:=Same.upd (o:=.lst []) dP
  have LB:EG≠l:=fun z=>by rw [z,aa] at dP;cases dP
  refine tY (fun H1=>Same H H1/\H1 l=some (.lst [])/\H1 EG=some (.lst [])) ⟨s1.trans s2,s2 _ _ aa,aa⟩ fun H1 ⟨k1,el1,LC⟩=>?_;refine aF ?_;refine ⟨_,rfl,_,_,rfl,rfl,y+1,rfl,by lia,by lia,?_⟩;refine cY (lo:=0) (fun i σ Hc=>∃ x4 x5 x6 lo xo,∃ ts:List Addr,σ=[some (.ref bk),some (.int y),some (.ref l),some (.ref lo),x4,x5,x6]/\Same H Hc/\Hc l=some (.lst (ts.map V.ref))/\ts.length=i/\(∀ j a,ts[j]?=some a->YAt H l cs ps ss Hc a j)/\lo≠l/\Hc lo=some (.lst xo)/\Els Hc xo (cN cs ps ss i)) ?_ ?_ ?_
  ·exact ⟨none,none,none,EG,[],[],rfl,k1,el1,rfl,fun j a e=>(by simp at e),LB,LC,Els.nil⟩
  ·rintro i σ Hc hi ⟨x4,x5,x6,lo,xo,ts,rfl,k,el,lt,hy,dl,eo,dA⟩;obtain ⟨l7,LD⟩:=jn (cs:=cs) lp hu h5 okp i;refine aK ?_;have z0:(0:Int)+(i:Int)=i:=by lia
   rw [z0];refine aF ?_;refine ⟨_,rfl,_,rfl,_,rfl,bk,i,lo,ac,xc,cs,ap,xp,ps,ae,xs,ss,xo,cN cs ps ss i,rfl,k _ _ eb,rc.same k,okc,by lia,by lia,rp.same k,lp,okp,rs.same k,ls,h5,hu,eo,dA,l7,by lia,fun t g kk tl xg xk H2 s2 et ng nk ze eg cm ek fk fN=>?_⟩;rw [zAi] at cm fk fN;refine ⟨t,_,rfl,SqT.of et,rfl,_,_,rfl,_,_,rfl,_,_,rfl,rfl,?_⟩;dsimp only;have k2:=k.trans s2;have el2:=s2 _ _ el;have dg:g≠l:=(aD el ng).symm;have dk:kk≠l:=(aD el nk).symm;refine ⟨_,rfl,.inl ⟨rfl,_,SqL.of el2⟩,_,rfl,_,rfl,_,rfl,zL,fun tt A4=>⟨l,_,_,rfl,rfl,Same.upd A4 _ _ el2,by rw [zA1,lt,sizeLine_eq];lia,?_⟩⟩;have s3:=Same.upd (o:=.tup [.ref g,.ref kk,.ref tl]) A4
   have nt:tt≠l:=fun z=>by rw [z,el2] at A4;cases A4
   have kp:∀ {o:HO} b u,b≠l->H2 b=some u->upd (upd H2 tt (.tup [.ref g,.ref kk,.ref tl])) l o b=some u:=fun b u n e=>by
    rw [aC n];exact s3 _ _ e
   have ke:∀ {o:HO} b z,H2 b=some (.tup z)->upd (upd H2 tt (.tup [.ref g,.ref kk,.ref tl])) l o b=some (.tup z):=fun b z e=>kp b _ (fun w=>by rw [w,el2] at e;cases e) e;refine ⟨_,_,_,kk,xk,ts++[tt],rfl,fun b o e=>?_,?_,by rw [zA2,lt];rfl,fun j a e=>?_,dk,kp _ _ dk ek,fk.keep ke⟩
   ·exact kp _ _ (aD e hl) (k2 _ _ e)
   ·rw [aa,zA4];rfl
   ·by_cases hj:j < ts.length
    ·rw [zBb hj] at e;exact (hy j a e).keep (fun b o n z=>kp _ _ n (s2 _ _ z)) ⟨_,el⟩
    ·have mS:j=i:=by
      have:=(zAa.mp e).1;rw [zA2] at this;simp at this;lia
     subst mS;rw [zBc (by lia),lt,Nat.sub_self] at e;cases e;exact ⟨g,kk,tl,xg,xk,by rw [aC nt];exact aa,k.free ng,k.free nk,dg,dk,kp _ _ dg eg,cm.keep ke,kp _ _ dk ek,fk.keep ke,ke _ _ fN,ze⟩
  ·rintro σ Hc ⟨x4,x5,x6,lo,xo,ts,rfl,k,el,lt,hy,dl,eo,dA⟩;exact ⟨_,rfl,q l ts Hc k hl el (by rw [lt];lia) hy⟩
inductive SpRefBI (vs:List V)(H:Hp)(Q:VK):Prop
 | mk:∀ S v d,(vs=[v])->(IsTh S H v d)->(sz d<=4000)->(lQ d=true)->(∀ H',Same H H'->Q .non H')->SpRefBI  vs H Q
def yK:Sp:=fun vs H Q _=>SpRefBI  vs H Q
inductive SpRefYI (vs:List V)(H:Hp)(Q:VK):Prop
 | mk:∀ ac xc cs y,(vs=[.ref ac,.int y])->(RowsAt H ac xc cs)->(0<=y)->(y < cs.length)->(∀ H',Same H H'->Q .non H')->SpRefYI  vs H Q
def yL:Sp:=fun vs H Q _=>SpRefYI  vs H Q
theorem Gp:FnScope ["thing","least","most"] ["thing","least","most"] (aJ (top 10)):=fS
theorem nj (F:Fun K "is_whole_from" "is_whole_from" (top 10) f fd)(c1:Cal P w K mg base 1 "is_whole" ["thing"] (spT cV)):FnOk P w K mg base CX0 2 f fd ["thing","least","most"] (jO ni):=by
 refine F.ok Gp (fun vs H Q E h=>?_) (fun ai A outer s H vs Q E hr h=>?_)
 ·obtain ⟨S,v,d,n,m,rfl,_⟩:=h;rfl
 ·obtain ⟨S,v,d,n,m,rfl,th,hz,q⟩:=h;refine ⟨_,aG (aQ (cz (aH c1 hr (aP (pv 0) ao)) (dO (cP cj cj (pv 1) (pv 0) (pv 2))))),?_⟩;refine ⟨_,rfl,S,v,d,rfl,th,hz,fun H1 s1=>⟨_,rfl,?_⟩⟩;have fin:=q H1 s1;unfold ni at fin
  cases e:cV d with
  | false =>
   rw [e] at fin;exact bD fin
  | true =>
   rw [e] at fin;obtain ⟨i,rfl,rfl⟩:=jB th e;exact bO (cG (fj rfl) (fj rfl) (fj rfl) _ fin)
theorem Gq:FnScope ["thing"] ["thing"] (aJ (top 33)):=fS
theorem Bl (F:Fun K "refuse_no_book" "refuse_no_book" (top 33) f fd)(c1:Cal P w K mg base 6 "is_book" ["thing"] (spT lQ)):FnOk P w K mg base CX0 7 f fd ["thing"] yK:=by
 refine F.ok Gq (fun vs H Q E h=>?_) (fun ai A outer s H vs Q E hr h=>?_)
 ·obtain ⟨S,v,d,rfl,_⟩:=h;rfl
 ·obtain ⟨S,v,d,rfl,th,hz,hb,q⟩:=h;refine ⟨_,aG (cB (dq (eQ (aH c1 hr (aP (pv 0) ao)))) (aG iT) bh),?_⟩;refine ⟨_,rfl,S,v,d,rfl,th,hz,fun H1 s1=>⟨_,rfl,?_⟩⟩;rw [hb];exact bD (q _ s1)
theorem Gr:FnScope ["clips","year"] ["clips","year"] (aJ (top 50)):=fS
theorem Bm (F:Fun K "refuse_no_year_of" "refuse_no_year_of" (top 50) f fd)(T:Mg mg)(c1:Cal P w K mg base 2 "is_whole_from" ["thing","least","most"] (jO ni)):FnOk P w K mg base CX0 3 f fd ["clips","year"] yL:=by
 refine F.ok Gr (fun vs H Q E h=>?_) (fun ai A outer s H vs Q E hr h=>?_)
 ·obtain ⟨ac,xc,cs,y,rfl,_⟩:=h;rfl
 ·obtain ⟨ac,xc,cs,y,rfl,rc,y0,y1,q⟩:=h;refine ⟨_,aG (cB (dq (eQ (aH c1 hr (aq (pv 1) (aq aB (aq (aV gH (aO bR rfl T.len PySem.boot_len (aq (pv 0) ao)) aB) ao)))))) (aG iT) bh),?_⟩;refine ⟨_,rfl,_,rfl,ac,_,rfl,.inr (SqT.of rc.e),_,_,rfl,rfl,fun _=>False,.int y,.int y,0,_,rfl,.int _,(by show 1<=4000;decide),fun H1 s1=>⟨_,rfl,?_⟩⟩
  have e:ni (.int y) 0 ((xc.length:Int) - 1)=true:=by
   show (true && (decide (0<=y) && decide (y<=(xc.length:Int) - 1)))=true;rw [zAt y0,zAt (by rw [rc.l];lia)];rfl
  rw [e];exact bD (q _ s1)
structure BookAt (H:Hp)(bk ac:Addr)(xc:List V)(cs:List (List Int))(ap:Addr)(xp:List V)(ps:List (List Int))(ae:Addr)(xs:List V)(ss:List (List Int)):Prop where
 e:H bk=some (.tup [.ref ac,.ref ap,.ref ae])
 rc:RowsAt H ac xc cs
 okc:∀ r∈cs,r.length=3/\∀ x∈r,0<=x
 lc:cs.length<=20
 rp:RowsAt H ap xp ps
 lp:ps.length<=10
 okp:∀ r∈ps,okP r
 rs:RowsAt H ae xs ss
 ls:ss.length<=12
 h5:∀ s∈ss,s.length=5
 un:un ps ss=none
theorem BookAt.same {H H':Hp}{bk ac:Addr}{xc:List V}{cs:List (List Int)}{ap:Addr}{xp:List V}{ps:List (List Int)}{ae:Addr}{xs:List V}{ss:List (List Int)}(b:BookAt H bk ac xc cs ap xp ps ae xs ss)(s:Same H H'):BookAt H' bk ac xc cs ap xp ps ae xs ss :=
 ⟨s _ _ b.e,b.rc.same s,b.okc,b.lc,b.rp.same s,b.lp,b.okp,b.rs.same s,b.ls,b.h5,b.un⟩
def jq (R:List (List Int)->List (List Int)->List (List Int)->Int->VK->Hp->Prop):Sp:=fun vs H Q _=>∃ S bk y d ac xc cs ap xp ps ae xs ss,vs=[.ref bk,.int y]/\IsTh S H (.ref bk) d/\sz d<=4000/\lQ d=true/\BookAt H bk ac xc cs ap xp ps ae xs ss/\0<=y/\y < cs.length/\R cs ps ss y Q H
def yM:List (List Int)->List (List Int)->List (List Int)->Int->VK->Hp->Prop:=fun _ _ _ _ Q H=>∀ H',Same H H'->Q .non H'
def yN:List (List Int)->List (List Int)->List (List Int)->Int->VK->Hp->Prop:=fun cs ps ss y Q H=>∀ g xg H',Same H H'->H g=none->g≠sysModules->H' g=some (.lst xg)->Els H' xg (srt (dN cs ps ss y.toNat).g)->Q (.ref g) H'
theorem Gu:FnScope ["book","year"] ["book","year"] (aJ (top 51)):=fS
theorem yO (F:Fun K "refuse_no_year" "refuse_no_year" (top 51) f fd)(c1:Cal P w K mg base 7 "refuse_no_book" ["thing"] yK)(c2:Cal P w K mg base 3 "refuse_no_year_of" ["clips","year"] yL):FnOk P w K mg base CX0 8 f fd ["book","year"] (jq yM):=by
 refine F.ok Gu (fun vs H Q E h=>?_) (fun ai A outer s H vs Q E hr h=>?_)
 ·obtain ⟨S,bk,y,d,ac,xc,cs,ap,xp,ps,ae,xs,ss,rfl,_⟩:=h;rfl
 ·obtain ⟨S,bk,y,d,ac,xc,cs,ap,xp,ps,ae,xs,ss,rfl,th,hz,hb,B,y0,y1,q⟩:=h;refine ⟨_,aA (dH (aH c1 hr (aq (pv 0) ao))) (aG (dH (aH c2 hr (aq (pX bW (pv 0) aB) (aq (pv 1) ao))))),?_⟩;refine aF ?_;refine ⟨_,rfl,S,_,d,rfl,th,hz,hb,fun H1 s1=>?_⟩;dsimp only;have B1:=B.same s1;exact ⟨_,rfl,bk,_,0,.ref ac,rfl,rfl,SqT.of B1.e,rfl,_,rfl,ac,xc,cs,y,rfl,B1.rc,y0,y1,fun H2 s2=>q _ (s1.trans s2)⟩
theorem scYD2:FnScope ["book","year","gifts","owed","left"] ["book","year"] (aJ (top 52)):=fS
theorem yP (F:Fun K "gifts_in" "gifts_in" (top 52) f fd)(c1:Cal P w K mg base 8 "refuse_no_year" ["book","year"] (jq yM))(c2:Cal P w K mg base 10 "years_given" ["book","year"] jo):FnOk P w K mg base CX0 11 f fd ["book","year"] (jq yN):=by
 refine F.ok scYD2 (fun vs H Q E h=>?_) (fun ai A outer s H vs Q E hr h=>?_)
 ·obtain ⟨S,bk,y,d,ac,xc,cs,ap,xp,ps,ae,xs,ss,rfl,_⟩:=h;rfl
 ·obtain ⟨S,bk,y,d,ac,xc,cs,ap,xp,ps,ae,xs,ss,rfl,th,hz,hb,B,y0,y1,q⟩:=h
  refine ⟨_,aA (dH (aH c1 hr (aq (pv 0) (aq (pv 1) ao))))
   (aA (bN (pX bB (aH c2 hr (aq (pv 0) (aq (pv 1) ao))) (pv 1)) (bz rfl (aj (pgn 2 scYD2.nd) (aj (pgn 3 scYD2.nd) (aj (pgn 4 scYD2.nd) aR)))))
   (aG (aQ (pv 2)))),?_⟩
  refine aF ?_;refine ⟨_,rfl,_,rfl,S,bk,y,d,ac,xc,cs,ap,xp,ps,ae,xs,ss,rfl,th,hz,hb,B,y0,y1,fun H1 s1=>?_⟩;dsimp only;have B1:=B.same s1;refine aF ?_;refine ⟨_,rfl,_,rfl,bk,y,ac,xc,cs,ap,xp,ps,ae,xs,ss,rfl,B1.e,B1.rc,B1.okc,B1.lc,y0,y1,B1.rp,B1.lp,B1.okp,B1.rs,B1.ls,B1.h5,B1.un,fun l ts H2 s2 nl el lt hy=>?_⟩;have hl:y.toNat < ts.length:=by lia
  obtain ⟨g,k,tl,xg,xk,e1,n1,n2,d1,d2,e2,e3,e4,e5,e6⟩:=hy y.toNat ts[y.toNat] (zA0 hl)
  have dv:atI (ts.map V.ref) y=some (.ref ts[y.toNat]):=by
   have:(ts.map V.ref)[y.toNat]?=some (.ref ts[y.toNat]):=by rw [zAb,zA0 hl];rfl
   have:=cu this;rw [show ((y.toNat:Nat):Int)=y by lia] at this;exact this
  refine ⟨_,rfl,l,_,y,.ref ts[y.toNat],rfl,rfl,SqL.of el,dv,ts[y.toNat],_,rfl,SqT.of e1,rfl,_,_,rfl,_,_,rfl,_,_,rfl,rfl,?_⟩;dsimp only;exact ⟨_,rfl,q g xg H2 (s1.trans s2) (s1.free n1) e6.2.1 e2 e3⟩
def rZ:List (List Int)->List (List Int)->List (List Int)->Int->VK->Hp->Prop:=fun cs ps ss y Q H=>∀ k xk H',Same H H'->H k=none->k≠sysModules->H' k=some (.lst xk)->Els H' xk (cN cs ps ss (y.toNat+1))->Q (.ref k) H'
def yQ (R:List (List Int)->List (List Int)->List (List Int)->Int->VK->Hp->Prop):Sp:=fun vs H Q _=>∃ bk y ac xc cs ap xp ps ae xs ss,vs=[.ref bk,.int y]/\BookAt H bk ac xc cs ap xp ps ae xs ss/\0<=y/\y < cs.length/\R cs ps ss y Q H
theorem scYF1:FnScope ["book","year","gifts","owed","left"] ["book","year"] (aJ (top 55)):=fS
theorem yR (F:Fun K "owed_behind" "owed_behind" (top 55) f fd)(c2:Cal P w K mg base 10 "years_given" ["book","year"] jo):FnOk P w K mg base CX0 11 f fd ["book","year"] (yQ rZ):=by
 refine F.ok scYF1 (fun vs H Q E h=>?_) (fun ai A outer s H vs Q E hr h=>?_)
 ·obtain ⟨bk,y,ac,xc,cs,ap,xp,ps,ae,xs,ss,rfl,_⟩:=h;rfl
 ·obtain ⟨bk,y,ac,xc,cs,ap,xp,ps,ae,xs,ss,rfl,B,y0,y1,q⟩:=h
  refine ⟨_,aA (bN (pX bB (aH c2 hr (aq (pv 0) (aq (pv 1) ao))) (pv 1)) (bz rfl (aj (pgn 2 scYF1.nd) (aj (pgn 3 scYF1.nd) (aj (pgn 4 scYF1.nd) aR)))))
   (aG (aQ (pv 3))),?_⟩
  refine aF ?_;refine ⟨_,rfl,_,rfl,bk,y,ac,xc,cs,ap,xp,ps,ae,xs,ss,rfl,B.e,B.rc,B.okc,B.lc,y0,y1,B.rp,B.lp,B.okp,B.rs,B.ls,B.h5,B.un,fun l ts H2 s2 nl el lt hy=>?_⟩;have hl:y.toNat < ts.length:=by lia
  obtain ⟨g,k,tl,xg,xk,e1,n1,n2,d1,d2,e2,e3,e4,e5,e6,e7⟩:=hy y.toNat ts[y.toNat] (zA0 hl)
  have dv:atI (ts.map V.ref) y=some (.ref ts[y.toNat]):=by
   have:(ts.map V.ref)[y.toNat]?=some (.ref ts[y.toNat]):=by rw [zAb,zA0 hl];rfl
   have:=cu this;rw [show ((y.toNat:Nat):Int)=y by lia] at this;exact this
  refine ⟨_,rfl,l,_,y,.ref ts[y.toNat],rfl,rfl,SqL.of el,dv,ts[y.toNat],_,rfl,SqT.of e1,rfl,_,_,rfl,_,_,rfl,_,_,rfl,rfl,?_⟩;dsimp only;exact ⟨_,rfl,q k xk H2 s2 n2 e7.2 e4 e5⟩
theorem Gv:FnScope ["book","year"] ["book","year"] (aJ (top 58)):=fS
theorem Bo (F:Fun K "owed_by" "owed_by" (top 58) f fd)(c1:Cal P w K mg base 8 "refuse_no_year" ["book","year"] (jq yM))(c2:Cal P w K mg base 11 "owed_behind" ["book","year"] (yQ rZ)):FnOk P w K mg base CX0 12 f fd ["book","year"] (jq rZ):=by
 refine F.ok Gv (fun vs H Q E h=>?_) (fun ai A outer s H vs Q E hr h=>?_)
 ·obtain ⟨S,bk,y,d,ac,xc,cs,ap,xp,ps,ae,xs,ss,rfl,_⟩:=h;rfl
 ·obtain ⟨S,bk,y,d,ac,xc,cs,ap,xp,ps,ae,xs,ss,rfl,th,hz,hb,B,y0,y1,q⟩:=h;refine ⟨_,aA (dH (aH c1 hr (aq (pv 0) (aq (pv 1) ao)))) (aG (aQ (aH c2 hr (aq (pv 0) (aq (pv 1) ao))))),?_⟩;refine aF ?_;refine ⟨_,rfl,_,rfl,S,bk,y,d,ac,xc,cs,ap,xp,ps,ae,xs,ss,rfl,th,hz,hb,B,y0,y1,fun H1 s1=>?_⟩;dsimp only;exact ⟨_,rfl,_,rfl,bk,y,ac,xc,cs,ap,xp,ps,ae,xs,ss,rfl,B.same s1,y0,y1,fun k xk H2 s2 n ns e1 e2=>q k xk H2 (s1.trans s2) (s1.free n) ns e1 e2⟩
def ig (ps:List (List Int))(r:List Int):Int:=fl (ps.getD (fl r 1).toNat []) 1
def keyOf (r:List Int):List Int:=[fl r 0,fl r 1,fl r 2]
theorem dG (rs:List (List Int)):(srt rs).Perm rs:=List.mergeSort_perm rs rle
theorem tZ {ps ss:List (List Int)}{sort year:Int}:∀ {k:Nat} {r:List Int},r∈gD ps ss sort year k->∃ (j h:Nat) (x:Int),j < k/\h < 8/\fl (ps.getD j []) 1=sort/\r=[year,j,h,x]
 | 0,r,hr=>by cases hr
 | k+1,r,hr=>by
  rcases zA6.mp (show r∈gD ps ss sort year k++gC ps ss sort year k from hr) with z | z
  ·obtain ⟨j,h,x,a,b⟩:=tZ z;exact ⟨j,h,x,by lia,b⟩
  ·unfold gC at z;split at z
   ·rename_i hs
    obtain ⟨q,hq,rfl⟩:=zA5.mp z;unfold dD at hq;obtain ⟨h,hh,rfl⟩:=zA5.mp hq;have:=List.mem_range.mp (zAq.mp hh).1;exact ⟨k,h,_,by lia,this,hs,rfl⟩
   ·cases z
theorem Cp {ps ss:List (List Int)}{sort year:Int}:∀ k,((gD ps ss sort year k).map keyOf).Nodup
 | 0=>List.nodup_nil
 | k+1=>by
  show ((gD ps ss sort year k++gC ps ss sort year k).map keyOf).Nodup;rw [zA4,List.nodup_append];refine ⟨Cp k,?_,fun a ha b hb e=>?_⟩
  ·unfold gC;split
   ·unfold dD;rw [zAr,zAr];refine List.Pairwise.map _ (R:=fun a b=>a≠b) (fun a b h e=>h ?_) (List.nodup_range.filter _);have e:[year,(k:Int),(a:Int)]=[year,(k:Int),(b:Int)]:=e;injection e with _ e;injection e with _ e;injection e with e;lia
   ·exact List.nodup_nil
  ·subst e;obtain ⟨r,hr,e1⟩:=zA5.mp ha;obtain ⟨j,h,x,a1,a2,a3,rfl⟩:=tZ hr;obtain ⟨r',fA,e2⟩:=zA5.mp hb;unfold gC at fA;split at fA
   ·obtain ⟨q,hq,rfl⟩:=zA5.mp fA;rw [<- e1] at e2;have e2:[year,(k:Int),_]=[year,(j:Int),(h:Int)]:=e2;injection e2 with _ e2;injection e2 with e2;lia
   ·cases fA
theorem gA {ps ss:List (List Int)}{sort year:Int}{r:List Int}(hr:r∈az ps ss sort year):fl r 0=year/\ig ps r=sort/\0<=fl r 1/\fl r 1 < ps.length/\0<=fl r 2/\fl r 2 < 8:=by
 obtain ⟨j,h,x,a1,a2,a3,rfl⟩:=tZ hr;refine ⟨rfl,?_,?_,?_,?_,?_⟩
 ·show fl (ps.getD ((j:Int)).toNat []) 1=sort;rw [zAi];exact a3
 ·show (0:Int)<=j;lia
 ·show (j:Int) < ps.length;lia
 ·show (0:Int)<=h;lia
 ·show (h:Int) < 8;lia
theorem wK {ps:List (List Int)}{Z:List (List Int×Int)}{n:Int}(h:∀ p∈Z,ig ps p.1=n):∀ r∈bC Z,ig ps r=n:=fun r hr=>by
 obtain ⟨p,hp,rfl⟩:=zA5.mp hr;exact h p (zAq.mp hp).1
theorem Cq {w:Int}{cl:List (List Int)}(hw:0<=w)(hc:∀ r∈cl,r.length=4/\1<=fl r 3/\fl r 3<=99)(hz:cl.length<=80):∀ p∈cl.zip (bf w cl),p.2<=fl p.1 3:=fun p hp=>by
 obtain ⟨i,hi⟩:=List.mem_iff_getElem?.mp hp;obtain ⟨h1,h2⟩:=List.getElem?_zip_eq_some.mp hi;have e3:(wts cl)[i]?=some (fl p.1 3):=by unfold wts;rw [zAb,h1];rfl
 unfold bf at h2;split at h2
 ·rw [e3] at h2;rw [<- zAl h2];exact Int.le_refl _
 ·rename_i hs
  have ok:K90P.OkW (wts cl):=by
   refine ⟨?_,?_,fun x hx=>?_⟩
   ·have:=(zAa.mp e3).1;lia
   ·unfold wts;rw [zA1];exact hz
   ·obtain ⟨r,hr,rfl⟩:=zA5.mp hx;exact (hc r hr).2
  exact (K90P.res_get ok hw (by lia) h2 e3).2
def okC (r:List Int):Prop:=r.length=3/\∀ x∈r,0<=x/\x < 1000
theorem oO:∀ (is:List Int),szs (is.map PyData.int)=is.length
 | []=>rfl
 | i::is=>by
  show 1+szs (is.map PyData.int)=is.length+1;rw [oO is];lia
theorem jr {k:Nat}:∀ {rs:List (List Int)},(∀ r∈rs,r.length=k)->szs (rs.map rowD)=(k+1) * rs.length
 | [],_=>rfl
 | r::rs,h=>by
  show (1+szs (r.map PyData.int))+szs (rs.map rowD)=(k+1) * (rs.length+1);rw [oO,h r (.head _),jr fun q hq=>h q (.tail _ hq),Nat.mul_add];lia
theorem HJ {r:List Int}(h:okP r):∀ i∈r,-10<=i/\i<=2000000:=by
 obtain ⟨h0,h1,h2,h3,h4,h5⟩:=h;rw [six_row h0];intro i hi;simp only [List.mem_cons,List.not_mem_nil,or_false] at hi;rcases hi with rfl | rfl | rfl | rfl | rfl | rfl <;> lia
def bd (r:List Int):Prop:=r.length=4/\∀ x∈r,0<=x/\x<=99
theorem qx {a b c d:Int}(ha:0<=a/\a<=99)(hb:0<=b/\b<=99)(hc:0<=c/\c<=99)(hd:0<=d/\d<=99):bd [a,b,c,d]:=by
 refine ⟨rfl,fun x hx=>?_⟩;simp only [List.mem_cons,List.not_mem_nil,or_false] at hx;rcases hx with rfl | rfl | rfl | rfl <;> assumption
theorem yS {r:List Int}(h:bd r):(0<=fl r 0/\fl r 0<=99)/\(0<=fl r 1/\fl r 1<=99)/\(0<=fl r 2/\fl r 2<=99)/\(0<=fl r 3/\fl r 3<=99):=by
 obtain ⟨h4,h⟩:=h;rw [cH h4] at h;exact ⟨h _ (by simp),h _ (by simp),h _ (by simp),h _ (by simp)⟩
theorem Cr:∀ {w:Int} {S:List (List Int)},∀ p∈S.zip (cM w S),p.2<=fl p.1 3:=fun {w S}=>by
 induction S generalizing w with
 | nil=>intro p hp;cases hp
 | cons r S ih =>
  intro p hp;unfold cM at hp;rw [List.zip_cons_cons] at hp;rcases zAo.mp hp with z | z
  ·rw [z];show (if w < fl r 3 then w else fl r 3)<=fl r 3;split <;> lia
  ·exact ih p z
theorem Ej {c:List Int}{ps ss ow:List (List Int)}{y:Int}(y0:0<=y)(y1:y<=99)(hc:∀ x∈c,0<=x)(hu:un ps ss=none)(h5:∀ s∈ss,s.length=5)(okp:∀ r∈ps,okP r)(hl:ps.length<=10)(ho:∀ r∈ow,okO ps r)(hb:∀ r∈ow,bd r):∀ n,(∀ r∈(yTo c ps ss ow y n).g,bd r)/\∀ r∈(yTo c ps ss ow y n).k,bd r
 | 0=>⟨fun r hr=>(by cases hr),fun r hr=>(by cases hr)⟩
 | n+1=>by
  obtain ⟨a,b⟩:=Ej (c:=c) (y:=y) y0 y1 hc hu h5 okp hl ho hb n;have nn:=yE (y:=y) hc hu h5 okp hl ho n
  have hw:0<=c.getD n 0+(yTo c ps ss ow y n).d:=by
   have:=gw hc n;lia
  have iA:=dF (sort:=n) (year:=y) hu h5 okp;have rg:=bZ (ss:=ss) (sort:=n) (year:=y) hl;generalize IW:c.getD n 0+(yTo c ps ss ow y n).d=w at hw
  have nK:∀ p∈(az ps ss n y++au ps ow n).zip (shr w (az ps ss n y) (au ps ow n)),bd p.1/\0<=p.2/\p.2<=fl p.1 3:=fun p hp=>by
   obtain ⟨m1,m2⟩:=List.of_mem_zip (show (p.1,p.2)∈_ from hp);have s0:=(tX hw iA rg (fun r hr=>by have:=(fY (sort:=n) ho r hr).2.2.2;lia)).1 p.2 m2;refine ⟨?_,s0,?_⟩
   ·rcases zA6.mp m1 with z | z
    ·obtain ⟨a1,a2,a3,a4,a5,a6⟩:=gA z;obtain ⟨b1,b2,b3⟩:=iA _ z;rw [cH b1];exact qx (by lia) (by lia) (by lia) (by lia)
    ·exact hb _ (zAq.mp z).1
   ·unfold shr at hp;rw [List.zip_append shares_len.symm] at hp;rcases zA6.mp hp with z | z
    ·exact Cq hw iA rg p z
    ·exact Cr p z
  refine ⟨fun r hr=>?_,fun r hr=>?_⟩
  ·rcases zA6.mp (show r∈(yTo c ps ss ow y n).g++cW _ from hr) with z | z
   ·exact a r z
   ·rw [IW] at z;obtain ⟨p,hp,rfl⟩:=zA5.mp z;obtain ⟨b1,b2,b3⟩:=nK p (zAq.mp hp).1;obtain ⟨g0,g1,g2,g3⟩:=yS b1;exact qx g0 g1 g2 (by lia)
  ·rcases zA6.mp (show r∈(yTo c ps ss ow y n).k++bC _ from hr) with z | z
   ·exact b r z
   ·rw [IW] at z;obtain ⟨p,hp,rfl⟩:=zA5.mp z;obtain ⟨b1,b2,b3⟩:=nK p (zAq.mp hp).1;obtain ⟨g0,g1,g2,g3⟩:=yS b1;exact qx g0 g1 g2 (by lia)
theorem v9 {cs:List (List Int)}(h:∀ r∈cs,r.length=3/\∀ x∈r,0<=x)(n:Nat):∀ x∈cs.getD n [],0<=x:=fun x hx=>by
 rw [zA7] at hx
 cases e:cs[n]? with
 | none=>rw [e] at hx;cases hx
 | some r=>rw [e] at hx;exact (h r (zB6 e)).2 x hx
theorem yU {cs ps ss:List (List Int)}(hX:∀ r∈cs,r.length=3/\∀ x∈r,0<=x)(hl:ps.length<=10)(hu:un ps ss=none)(h5:∀ s∈ss,s.length=5)(okp:∀ r∈ps,okP r):∀ n,n<=20->∀ r∈cN cs ps ss n,bd r
 | 0,_,r,hr=>by cases hr
 | n+1,hn,r,hr=>by
  have ih:=yU hX hl hu h5 okp n (by lia);obtain ⟨l7,_⟩:=jn (cs:=cs) hl hu h5 okp n;exact (Ej (y:=n) (by lia) (by lia) (v9 hX n) hu h5 okp hl l7 ih 3).2 r ((dG _).mem_iff.mp hr)
theorem oR (rs:List (List Int)):rowsOf (bT rs)=rs:=by
 show (rs.map rowD).map (fun x=>(items x).map intOf)=rs;rw [zAr];refine (List.map_congr_left fun r _=>?_).trans (List.map_id rs);show ((r.map PyData.int)).map intOf=r;rw [zAr];exact List.map_id r
theorem jG {r:List Int}{n:Nat}(h:r.length=n):bw (rowD r) n=true:=by
 show (bu (.tuple (r.map PyData.int)) n n && (r.map PyData.int).all cV)=true;rw [zAc];refine ⟨?_,List.all_eq_true.mpr fun x hx=>?_⟩
 ·show (true && (decide ((n:Int)<=(r.map PyData.int).length) && decide (((r.map PyData.int).length:Int)<=n)))=true;rw [zA1,h,zAt (Int.le_refl _)];rfl
 ·obtain ⟨i,_,rfl⟩:=zA5.mp hx;rfl
theorem u0 {ds:List PyData}{a b:Int}(h1:a<=ds.length)(h2:(ds.length:Int)<=b):bu (.tuple ds) a b=true:=by
 show (true && (decide (a<=(ds.length:Int)) && decide ((ds.length:Int)<=b)))=true;rw [zAt h1,zAt h2];rfl
theorem Bp {cs ps ss:List (List Int)}(lc1:1<=cs.length)(lc:cs.length<=20)(okc:∀ r∈cs,okC r)(lp:ps.length<=10)(okp:∀ r∈ps,okP r)(ls:ss.length<=12)(h5:∀ s∈ss,s.length=5)(hu:un ps ss=none):lQ (.tuple [bT cs,bT ps,bT ss])=true:=by
 have b0:gU (bT cs)=true:=by
  show (bu (.tuple (cs.map rowD)) 1 20 && (cs.map rowD).all ou)=true;rw [u0 (by rw [zA1];lia) (by rw [zA1];lia),Bool.true_and];refine List.all_eq_true.mpr fun x hx=>?_;obtain ⟨r,hr,rfl⟩:=zA5.mp hx;obtain ⟨h3,hb⟩:=okc r hr;show (bw (rowD r) 3 && (r.map PyData.int).all fun x=>decide (0<=intOf x) && decide (intOf x<=999))=true;rw [show bw (rowD r) 3=true from jG h3,Bool.true_and];refine List.all_eq_true.mpr fun x hx=>?_;obtain ⟨i,hi,rfl⟩:=zA5.mp hx;have:=hb i hi;show (decide (0<=i) && decide (i<=999))=true;rw [zAt (by lia),zAt (by lia)];rfl
 have b1:dR (bT ps)=true:=by
  show (bu (.tuple (ps.map rowD)) 0 10 && (ps.map rowD).all jh)=true;rw [u0 (by lia) (by rw [zA1];lia),Bool.true_and];refine List.all_eq_true.mpr fun x hx=>?_;obtain ⟨r,hr,rfl⟩:=zA5.mp hx;obtain ⟨h6,h1,h2,h3,h4,LF⟩:=okp r hr;show (bw (rowD r) 6 && qg (at_ (rowD r) 0) (at_ (rowD r) 1) (at_ (rowD r) 2) (at_ (rowD r) 3) (at_ (rowD r) 4) (at_ (rowD r) 5))=true;rw [show bw (rowD r) 6=true from jG h6,Bool.true_and]
  have ea:∀ i,i < 6->at_ (rowD r) i=fl r i:=fun i hi=>by
   unfold at_ fl;show intOf ((r.map PyData.int).getD i .none)=r.getD i 0;rw [zA7,zA7,zAb,zA0 (by lia)];rfl
  rw [ea 0 (by decide),ea 1 (by decide),ea 2 (by decide),ea 3 (by decide),ea 4 (by decide),ea 5 (by decide)];unfold qg;simp only [Bool.and_eq_true,decide_eq_true_eq];exact ⟨h1,h2,⟨h3.1,h3.2.1,h3.2.2⟩,h4,LF⟩
 have b2:dU (bT ss)=true:=by
  show (bu (.tuple (ss.map rowD)) 0 12 && (ss.map rowD).all fun x=>bw x 5)=true;rw [u0 (by lia) (by rw [zA1];lia),Bool.true_and];refine List.all_eq_true.mpr fun x hx=>?_;obtain ⟨r,hr,rfl⟩:=zA5.mp hx;exact jG (h5 r hr)
 show (bu (.tuple [bT cs,bT ps,bT ss]) 3 3 && (gU (bT cs) && (dR (bT ps) && (dU (bT ss) && (un (rowsOf (bT ps)) (rowsOf (bT ss))).isNone))))=true;rw [b0,b1,b2,oR,oR,hu];rfl
def hsum (h v:List Int->Int)(rs:List (List Int)):List Int:=rs.foldl (fun L r=>cU L (h r) (v r)) (List.replicate 8 0)
theorem su (h v:List Int->Int):∀ (rs:List (List Int)) (L:List Int),(rs.foldl (fun L r=>cU L (h r) (v r)) L).length=L.length
 | [],_=>rfl
 | r::rs,L=>by
  show (rs.foldl _ (cU L (h r) (v r))).length=_;rw [su h v rs,dM]
theorem qy (h v:List Int->Int)(rs:List (List Int)):(hsum h v rs).length=8:=su h v rs _
theorem wL (h v:List Int->Int)(rs:List (List Int))(r:List Int):hsum h v (rs++[r])=cU (hsum h v rs) (h r) (v r):=by
 unfold hsum;rw [List.foldl_append];rfl
theorem wM {h v:List Int->Int}{rs:List (List Int)}{i:Nat}(hi:i < rs.length):hsum h v (rs.take (i+1))=cU (hsum h v (rs.take i)) (h rs[i]) (v rs[i]):=by
 rw [zAj,zA0 hi];exact wL h v _ _
def hO (r:List Int):Prop:=0<=fl r 2/\fl r 2 < 8
theorem y_h {c:List Int}{ps ss ow:List (List Int)}{y:Int}(ho:∀ r∈ow,hO r):∀ n,(∀ r∈(yTo c ps ss ow y n).g,hO r)/\∀ r∈(yTo c ps ss ow y n).k,hO r
 | 0=>⟨fun r hr=>(by cases hr),fun r hr=>(by cases hr)⟩
 | n+1=>by
  obtain ⟨a,b⟩:=y_h (c:=c) (ps:=ps) (ss:=ss) (y:=y) ho n
  have nK:∀ w,∀ p∈(az ps ss n y++au ps ow n).zip (shr w (az ps ss n y) (au ps ow n)),hO p.1:=fun w p hp=>by
   obtain ⟨m1,m2⟩:=List.of_mem_zip (show (p.1,p.2)∈_ from hp);rcases zA6.mp m1 with z | z
   ·obtain ⟨a1,a2,a3,a4,a5,a6⟩:=gA z;exact ⟨a5,a6⟩
   ·exact ho _ (zAq.mp z).1
  refine ⟨fun r hr=>?_,fun r hr=>?_⟩
  ·rcases zA6.mp (show r∈(yTo c ps ss ow y n).g++cW _ from hr) with z | z
   ·exact a r z
   ·obtain ⟨p,hp,rfl⟩:=zA5.mp z;exact nK _ p (zAq.mp hp).1
  ·rcases zA6.mp (show r∈(yTo c ps ss ow y n).k++bC _ from hr) with z | z
   ·exact b r z
   ·obtain ⟨p,hp,rfl⟩:=zA5.mp z;exact nK _ p (zAq.mp hp).1
theorem Bq {cs ps ss:List (List Int)}:∀ n,∀ r∈cN cs ps ss n,hO r
 | 0,r,hr=>by cases hr
 | n+1,r,hr=>(y_h (Bq n) 3).2 r ((dG _).mem_iff.mp hr)
theorem g_h {cs ps ss:List (List Int)}(n:Nat):∀ r∈srt (dN cs ps ss n).g,hO r:=fun r hr=>(y_h (Bq n) 3).1 r ((dG _).mem_iff.mp hr)
inductive SpByHI (vs:List V)(H:Hp)(Q:VK):Prop
 | mk:∀ l xs rs,(vs=[.ref l])->(H l=some (.lst xs))->(Els H xs rs)->((∀ r∈rs,r.length=4/\hO r))->(∀ k H',Same H H'->H k=none->k≠sysModules->H' k=some (.lst ((hsum (fl · 2) (fl · 3) rs).map V.int))->Q (.ref k) H')->SpByHI  vs H Q
def Cu:Sp:=fun vs H Q _=>SpByHI  vs H Q
theorem scI1:FnScope ["rows","sums","due","number","holder","sacks"] ["rows"] (aJ (top 56)):=fS
theorem Ek (F:Fun K "by_holder" "by_holder" (top 56) f fd)(N:Nums mg):FnOk P w K mg base CX0 1 f fd ["rows"] Cu:=by
 refine F.ok scI1 (fun vs H Q E h=>?_) (fun ai A outer s H vs Q E hr h=>?_)
 ·obtain ⟨l,xs,rs,rfl,_⟩:=h;rfl
 ·obtain ⟨l,xs,R,rfl,tw,fk,hh,q⟩:=h;obtain ⟨t1,e1⟩:=N.holders
  refine ⟨_,aA (pss 1 scI1.nd (aV Ay (cQ (aq aB ao)) (bK (v:=.int 8) rfl e1 ⟨_,rfl⟩)))
   (aA (bV zB5 rfl (cC (pv 0)) (bz rfl (aj (pgn 2 scI1.nd) (aj (pgn 3 scI1.nd) (aj (pgn 4 scI1.nd) (aj (pgn 5 scI1.nd) aR)))))
    (aG (jQ (pv 1) (pv 4) fX (pv 5) sS set_list)))
   (aG (aQ (pv 1)))),?_⟩
  refine aF (aW ?_);refine ⟨zL,fun l0 xC=>⟨l0,8,_,rfl,rfl,aa,by decide,by decide,zL,fun l1 cw sR=>?_⟩⟩;have s2:Same H (upd (upd H l0 (.lst [V.int 0])) l1 (.lst (List.replicate (8:Int).toNat [V.int 0]).flatten)):=(Same.upd xC).updR cw;have el1:upd (upd H l0 (.lst [V.int 0])) l1 (.lst (List.replicate (8:Int).toNat [V.int 0]).flatten) l1=some (.lst ((hsum (fl · 2) (fl · 3) []).map V.int)):=aa;have EH:H l1=none:=(Same.upd xC).free cw;generalize upd (upd H l0 (.lst [V.int 0])) l1 (.lst (List.replicate (8:Int).toNat [V.int 0]).flatten)=H2 at s2 el1 ⊢;refine aK ?_;dsimp only;refine aF ?_;have ek:=s2 _ _ tw;have fI:l≠l1:=aD tw EH;refine ⟨_,rfl,l,rfl,⟨_,SqL.of ek⟩,?_⟩;refine eU (xs:=xs) (fun i σ Hc=>∃ x6 x7 x8 x9,σ=[some (.ref l),some (.ref l1),x6,x7,x8,x9]/\Same H Hc/\Hc l1=some (.lst ((hsum (fl · 2) (fl · 3) (R.take i)).map V.int))) ?_ ?_ ?_ ?_
  ·exact ⟨none,none,none,none,rfl,s2,el1⟩
  ·rintro i σ Hc hi ⟨x6,x7,x8,x9,rfl,sm,el⟩;exact SqL.of (sm _ _ tw)
  ·rintro i x σ Hc hx ⟨x6,x7,x8,x9,rfl,sm,el⟩
   have hi:i < R.length:=by
    have:=(zAa.mp hx).1;rw [fk.1] at this;exact this
   obtain ⟨tr,cy,bq⟩:=fk.2 i R[i] (zA0 hi)
   have:x=.ref tr:=by
    rw [hx] at cy;exact zAl cy
   subst this;rw [wM hi];have l8:=qy (fl · 2) (fl · 3) (R.take i);generalize hsum (fl · 2) (fl · 3) (R.take i)=L at el l8 ⊢;obtain ⟨o4,h0,h1⟩:=hh _ (zAh hi);generalize R[i]=r at bq h0 h1 o4 ⊢;rw [cH o4] at bq;refine ⟨tr,_,rfl,SqT.of (sm _ _ bq),rfl,_,_,rfl,_,_,rfl,_,_,rfl,_,_,rfl,rfl,?_⟩;refine ⟨_,rfl,_,rfl,l1,_,fl r 2,_,rfl,rfl,SqL.of el,h0,dw (by lia),_,rfl,_,_,rfl,rfl,l1,_,fl r 2,(fl r 2).toNat,rfl,rfl,el,oE h0 (by rw [zA1];lia),?_⟩;rw [jl];exact ⟨_,_,_,_,rfl,fun b o e=>by rw [aC (aD e EH)];exact sm _ _ e,aa⟩
  ·rintro σ Hc ⟨x6,x7,x8,x9,rfl,sm,el⟩;dsimp only;rw [fk.1,zAm] at el;exact ⟨_,rfl,q l1 Hc sm EH sR el⟩
theorem oU:∀ {w:Int} {rs:List (List Int)},0<=w->(∀ r∈rs,0<=fl r 3)->(cM w rs).sum=min w (aM rs)
 | w,[],hw,_=>by
  show (0:Int)=min w 0;lia
 | w,r::rs,hw,h=>by
  have h0:=h r (.head _);have ih:=oU (w:=w - (if w < fl r 3 then w else fl r 3)) (rs:=rs) (by split <;> lia) fun q hq=>h q (.tail _ hq)
  have hn:0<=aM rs:=by
   unfold aM wts;refine (gq fun x hx=>?_).1;obtain ⟨q,hq,rfl⟩:=zA5.mp hx;exact h q (.tail _ hq)
  have es:aM (r::rs)=fl r 3+aM rs:=rfl;unfold cM;rw [List.sum_cons,ih,es];split <;> lia
theorem u5 {w:Int}{cl:List (List Int)}(hw:0<=w)(hc:∀ r∈cl,r.length=4/\1<=fl r 3/\fl r 3<=99)(hz:cl.length<=80):(bf w cl).sum=min w (aM cl):=by
 unfold bf;by_cases h:(wts cl).sum<=w
 ·rw [zAw h];show (wts cl).sum=min w (wts cl).sum;lia
 ·rw [zAv h]
  have ok:K90P.OkW (wts cl):=by
   refine ⟨?_,by unfold wts;rw [zA1];exact hz,fun x hx=>?_⟩
   ·cases fA:cl with
    | nil =>
     rw [fA] at h;exact absurd hw h
    | cons r qv =>
     unfold wts;rw [zA1,zAe];lia
   ·obtain ⟨r,hr,rfl⟩:=zA5.mp hx;exact (hc r hr).2
  rw [K90P.res_sum ok];show w=min w (wts cl).sum;lia
theorem eO (a b:List (List Int)):aM (a++b)=aM a+aM b:=by
 unfold aM wts;rw [zA4,List.sum_append]
theorem my {rs:List (List Int)}(h:∀ r∈rs,0<=fl r 3):0<=aM rs:=by
 unfold aM wts;refine (gq fun x hx=>?_).1;obtain ⟨q,hq,rfl⟩:=zA5.mp hx;exact h q hq
theorem Br {w:Int}{cl ow:List (List Int)}(hw:0<=w)(hc:∀ r∈cl,r.length=4/\1<=fl r 3/\fl r 3<=99)(hz:cl.length<=80)(ho:∀ r∈ow,0<=fl r 3):(shr w cl ow).sum=min w (aM cl+aM ow):=by
 unfold shr;have h1:=u5 hw hc hz;have h2:=oU (w:=w - (bf w cl).sum) (rs:=ow) (by lia) ho
 have h3:=my (rs:=cl) fun r hr=>by have:=(hc r hr).2.1;lia
 have h4:=my ho;rw [List.sum_append,h2,h1];lia
theorem sy:∀ {rs:List (List Int)} {sh:List Int},sh.length=rs.length->(∀ p∈rs.zip sh,p.2<=fl p.1 3)->aM (bC (rs.zip sh))=aM rs - sh.sum
 | [],[],_,_=>rfl
 | [],_::_,h,_=>by simp at h
 | _::_,[],h,_=>by simp at h
 | r::rs,x::sh,h,hn=>by
  have ih:=sy (rs:=rs) (sh:=sh) (by simpa using h) fun y hy=>hn y (by rw [List.zip_cons_cons];exact .tail _ hy);have hx:x<=fl r 3:=hn (r,x) (by rw [List.zip_cons_cons];exact .head _);have es:aM (r::rs)=fl r 3+aM rs:=rfl;rw [List.zip_cons_cons,List.sum_cons,es];unfold bC at ih ⊢;by_cases hp:x < fl r 3
  ·rw [zB7 (p:=fun (p:List Int×Int)=>decide (p.2 < fl p.1 3)) (zAt hp),zAk];have e2:∀ L,aM ([fl r 0,fl r 1,fl r 2,fl r 3 - x]::L)=(fl r 3 - x)+aM L:=fun L=>rfl;rw [e2,ih];lia
  ·rw [zB9 (p:=fun (p:List Int×Int)=>decide (p.2 < fl p.1 3)) (by rw [decide_eq_true_eq];exact hp),ih];lia
section
variable {c:List Int}{ps ss ow:List (List Int)}{y:Int}
def xD (c:List Int)(ps ss ow:List (List Int))(y:Int)(s:Nat):Int:=aM (az ps ss s y)+aM (au ps ow s) - c.getD s 0
def sD (c:List Int)(ps ss ow:List (List Int))(y:Int):Nat->Int
 | 0=>0
 | n+1=>sD c ps ss ow y n+xD c ps ss ow y n
theorem yV {w:Int}(hw:0<=w)(hu:un ps ss=none)(h5:∀ s∈ss,s.length=5)(okp:∀ r∈ps,okP r)(hl:ps.length<=10)(n:Nat):∀ p∈(az ps ss n y++au ps ow n).zip (shr w (az ps ss n y) (au ps ow n)),p.2<=fl p.1 3:=fun p hp=>by
 unfold shr at hp;rw [List.zip_append shares_len.symm] at hp;rcases zA6.mp hp with z | z
 ·exact Cq hw (dF hu h5 okp) (bZ hl) p z
 ·exact Cr p z
theorem yW (hc:∀ x∈c,0<=x)(hu:un ps ss=none)(h5:∀ s∈ss,s.length=5)(okp:∀ r∈ps,okP r)(hl:ps.length<=10)(ho:∀ r∈ow,okO ps r)(n:Nat) :
  aM (yTo c ps ss ow y (n+1)).k=aM (yTo c ps ss ow y n).k+max 0 (xD c ps ss ow y n - (yTo c ps ss ow y n).d)/\(yTo c ps ss ow y (n+1)).d=max 0 ((yTo c ps ss ow y n).d - xD c ps ss ow y n):=by
 have nn:=yE (y:=y) hc hu h5 okp hl ho n
 have hw:0<=c.getD n 0+(yTo c ps ss ow y n).d:=by
  have:=gw hc n;lia
 have iA:=dF (sort:=n) (year:=y) hu h5 okp;have rg:=bZ (ss:=ss) (sort:=n) (year:=y) hl
 have A5:∀ r∈au ps ow n,0<=fl r 3:=fun r hr=>by have:=(fY (sort:=n) ho r hr).2.2.2;lia
 have e1:=Br hw iA rg A5;have e2:=(uZ hw iA rg A5).1;have e3:=sy (rs:=az ps ss n y++au ps ow n) (sh:=shr (c.getD n 0+(yTo c ps ss ow y n).d) (az ps ss n y) (au ps ow n)) (by unfold shr;rw [zA2,zA2,shares_len,dC]) (yV hw hu h5 okp hl n);rw [eO] at e3;constructor
 ·show aM ((yTo c ps ss ow y n).k++bC _)=_;rw [eO,e3,e1];unfold xD;lia
 ·show c.getD n 0+(yTo c ps ss ow y n).d - aM (cW _)=_;rw [e2,e1];unfold xD;lia
theorem Gw (hc:∀ x∈c,0<=x)(hu:un ps ss=none)(h5:∀ s∈ss,s.length=5)(okp:∀ r∈ps,okP r)(hl:ps.length<=10)(ho:∀ r∈ow,okO ps r):∀ n,(yTo c ps ss ow y n).d=aM (yTo c ps ss ow y n).k - sD c ps ss ow y n
 | 0=>rfl
 | n+1=>by
  have ih:=Gw hc hu h5 okp hl ho n;obtain ⟨a,b⟩:=yW (y:=y) hc hu h5 okp hl ho n;rw [a,b];show _=_ - (sD c ps ss ow y n+xD c ps ss ow y n);lia
theorem vd {s:Nat}:∀ n,aM (au ps (yTo c ps ss ow y n).k s)=if s < n then aM (yTo c ps ss ow y (s+1)).k - aM (yTo c ps ss ow y s).k else 0
 | 0=>rfl
 | n+1=>by
  have ih:=vd (s:=s) n;have ek:∀ m,(yTo c ps ss ow y (m+1)).k=(yTo c ps ss ow y m).k++bC ((az ps ss m y++au ps ow m).zip (shr (c.getD m 0+(yTo c ps ss ow y m).d) (az ps ss m y) (au ps ow m))):=fun m=>rfl
  have nL:∀ r∈bC ((az ps ss n y++au ps ow n).zip (shr (c.getD n 0+(yTo c ps ss ow y n).d) (az ps ss n y) (au ps ow n))),fl (ps.getD (fl r 1).toNat []) 1=n:=fun r hr=>by
   obtain ⟨p,hp,rfl⟩:=zA5.mp hr;obtain ⟨m1,_⟩:=List.of_mem_zip (show (p.1,p.2)∈_ from (zAq.mp hp).1);show fl (ps.getD (fl p.1 1).toNat []) 1=n;rcases zA6.mp m1 with z | z
   ·exact (gA z).2.1
   ·exact zB3 (zAq.mp z).2
  have e1:au ps (yTo c ps ss ow y (n+1)).k s=au ps (yTo c ps ss ow y n).k s++au ps (bC ((az ps ss n y++au ps ow n).zip (shr (c.getD n 0+(yTo c ps ss ow y n).d) (az ps ss n y) (au ps ow n)))) s:=by
   rw [ek n];exact List.filter_append ..
  rw [e1,eO,ih];by_cases hs:s=n
  ·subst hs;rw [zAv (Nat.lt_irrefl _),zAw (Nat.lt_succ_self _),ek s,eO];have e2:au ps (bC ((az ps ss s y++au ps ow s).zip (shr (c.getD s 0+(yTo c ps ss ow y s).d) (az ps ss s y) (au ps ow s)))) s=bC ((az ps ss s y++au ps ow s).zip (shr (c.getD s 0+(yTo c ps ss ow y s).d) (az ps ss s y) (au ps ow s))):=List.filter_eq_self.mpr fun r hr=>zAt (nL r hr);rw [e2];lia
  ·have e2:au ps (bC ((az ps ss n y++au ps ow n).zip (shr (c.getD n 0+(yTo c ps ss ow y n).d) (az ps ss n y) (au ps ow n)))) s=[]:=List.filter_eq_nil_iff.mpr fun r hr z=>by
    have:=nL r hr;have z:=zB3 z;rw [this] at z;lia
   rw [e2];have e0:aM []=0:=rfl;rw [e0,Int.add_zero];by_cases h:s < n
   ·rw [zAw h,zAw (by lia)]
   ·rw [zAv h,zAv (by lia)]
end
theorem El {a b:List Int}(h:a.Perm b):a.sum=b.sum:=by
 induction h with
 | nil=>rfl
 | cons x _ ih=>rw [List.sum_cons,List.sum_cons,ih]
 | swap x y l =>
  rw [List.sum_cons,List.sum_cons,List.sum_cons,List.sum_cons];lia
 | trans _ _ h1 h2=>exact h1.trans h2
theorem mz {a b:List (List Int)}(h:a.Perm b):aM a=aM b:=by
 unfold aM wts;exact El (h.map _)
structure BkO (cs ps ss:List (List Int)):Prop where
 okc:∀ r∈cs,r.length=3/\∀ x∈r,0<=x
 hl:ps.length<=10
 hu:un ps ss=none
 h5:∀ s∈ss,s.length=5
 okp:∀ r∈ps,okP r
def clY (ps ss:List (List Int))(y:Nat):Nat->List (List Int)
 | 0=>[]
 | n+1=>clY ps ss y n++az ps ss (n:Int) (y:Int)
def dz (ps ss:List (List Int)):Nat->List (List Int)
 | 0=>[]
 | m+1=>dz ps ss m++clY ps ss m 3
def bU (cs ps ss:List (List Int)):Nat->List (List Int)
 | 0=>[]
 | m+1=>bU cs ps ss m++srt (dN cs ps ss m).g
theorem qz {ps ss:List (List Int)}{y:Nat}(h:ps.length<=10):∀ n,(clY ps ss y n).length<=80 * n
 | 0=>zA3 _
 | n+1=>by
  show (clY ps ss y n++az ps ss n y).length<=_;rw [zA2];have:=qz (ss:=ss) (y:=y) h n;have:=bZ (ss:=ss) (sort:=(n:Int)) (year:=(y:Int)) h;lia
theorem oV {ps ss:List (List Int)}(h:ps.length<=10):∀ m,(dz ps ss m).length<=240 * m
 | 0=>zA3 _
 | m+1=>by
  show (dz ps ss m++clY ps ss m 3).length<=_;rw [zA2];have:=oV (ss:=ss) h m;have:=qz (ss:=ss) (y:=m) h 3;lia
theorem yX {ps ss:List (List Int)}{y:Nat}(hu:un ps ss=none)(h5:∀ s∈ss,s.length=5)(okp:∀ r∈ps,okP r):∀ n,∀ r∈clY ps ss y n,r.length=4/\hO r
 | 0,r,hr=>by cases hr
 | n+1,r,hr=>by
  rcases zA6.mp (show r∈clY ps ss y n++az ps ss n y from hr) with z | z
  ·exact yX hu h5 okp n r z
  ·obtain ⟨_,_,_,_,a5,a6⟩:=gA z;exact ⟨(dF hu h5 okp r z).1,a5,a6⟩
theorem mD {ps ss:List (List Int)}(hu:un ps ss=none)(h5:∀ s∈ss,s.length=5)(okp:∀ r∈ps,okP r):∀ m,∀ r∈dz ps ss m,r.length=4/\hO r
 | 0,r,hr=>by cases hr
 | m+1,r,hr=>by
  rcases zA6.mp (show r∈dz ps ss m++clY ps ss m 3 from hr) with z | z
  ·exact mD hu h5 okp m r z
  ·exact yX hu h5 okp 3 r z
theorem yZ {cs ps ss:List (List Int)}(hX:∀ r∈cs,r.length=3/\∀ x∈r,0<=x)(hl:ps.length<=10)(hu:un ps ss=none)(h5:∀ s∈ss,s.length=5)(okp:∀ r∈ps,okP r){n:Nat}(hn:n < 20):(∀ r∈srt (dN cs ps ss n).g,bd r)/\(srt (dN cs ps ss n).g).length<=16000:=by
 obtain ⟨l7,LD⟩:=jn (cs:=cs) hl hu h5 okp n;have hb:=yU hX hl hu h5 okp n (by lia);refine ⟨fun r hr=>(Ej (y:=n) (by lia) (by lia) (v9 hX n) hu h5 okp hl l7 hb 3).1 r ((dG _).mem_iff.mp hr),?_⟩;rw [(dG _).length_eq];have:=(yF (c:=cs.getD n []) (ss:=ss) (ow:=cN cs ps ss n) (y:=n) hl 3).1;unfold dN;lia
theorem sE {cs ps ss:List (List Int)}(hX:∀ r∈cs,r.length=3/\∀ x∈r,0<=x)(hl:ps.length<=10)(hu:un ps ss=none)(h5:∀ s∈ss,s.length=5)(okp:∀ r∈ps,okP r):∀ m,m<=20->(∀ r∈bU cs ps ss m,r.length=4/\hO r)/\(bU cs ps ss m).length<=16000 * m
 | 0,_=>⟨fun r hr=>(by cases hr),zA3 _⟩
 | m+1,h=>by
  obtain ⟨a,b⟩:=sE hX hl hu h5 okp m (by lia);obtain ⟨c,d⟩:=yZ (n:=m) hX hl hu h5 okp (by lia);refine ⟨fun r hr=>?_,?_⟩
  ·rcases zA6.mp (show r∈bU cs ps ss m++srt (dN cs ps ss m).g from hr) with z | z
   ·exact a r z
   ·exact ⟨(c r z).1,g_h m r z⟩
  ·show (bU cs ps ss m++srt (dN cs ps ss m).g).length<=_;rw [zA2];lia
def Em:List (List Int)->List (List Int)->List (List Int)->Int->VK->Hp->Prop:=fun cs ps ss y Q H=>∀ k xk H',Same H H'->H k=none->H' k=some (.lst xk)->Els H' xk (dz ps ss (y.toNat+1))->Q (.ref k) H'
def HN (A B C:List Int)(j:Nat):List Int:=[A.getD j 0,B.getD j 0,C.getD j 0]
def mF (cs ps ss:List (List Int))(m:Nat)(j:Nat):List Int:=HN (hsum (fl · 2) (fl · 3) (dz ps ss m)) (hsum (fl · 2) (fl · 3) (bU cs ps ss m)) (hsum (fl · 2) (fl · 3) (cN cs ps ss m)) j
def En:List (List Int)->List (List Int)->List (List Int)->Int->VK->Hp->Prop:=fun cs ps ss y Q H=>∀ l (as:List Addr) H',Same H H'->H l=none->l≠sysModules->H' l=some (.lst (as.map V.ref))->as.length=8->(∀ j a,as[j]?=some a->H' a=some (.tup ((mF cs ps ss (y.toNat+1) j).map V.int)))->Q (.ref l) H'
theorem scO1:FnScope ["book","year","clips","promises","sales","claims","at","sort"] ["book","year"] (aJ (top 57)):=fS
theorem Bs (F:Fun K "claims_to" "claims_to" (top 57) f fd)(N:Nums mg)(Tr:mg "range" = none)(c3:Cal P w K mg base 2 "claims_in" ["promises","sales","sort","year"] lZ):FnOk P w K mg base CX0 3 f fd ["book","year"] (yQ Em):=by
 refine F.ok scO1 (fun vs H Q E h=>?_) (fun ai A outer s H vs Q E hr h=>?_)
 ·obtain ⟨bk,y,ac,xc,cs,ap,xp,ps,ae,xs,ss,rfl,_⟩:=h;rfl
 ·obtain ⟨bk,y,ac,xc,cs,ap,xp,ps,ae,xs,ss,rfl,B,y0,y1,q⟩:=h;obtain ⟨t1,e1⟩:=N.sorts
  refine ⟨_,aA (bN (pv 0) (bz rfl (aj (pgn 2 scO1.nd) (aj (pgn 3 scO1.nd) (aj (pgn 4 scO1.nd) aR)))))
   (aA (pss 5 scO1.nd (cQ ao))
   (aA (bV zB5 rfl (cA rfl Tr (aq (aV bG (pv 1) aB) ao)) (pgn 6 scO1.nd)
    (aG (bV zB5 rfl (cA rfl Tr (aq (bK (v:=.int 3) rfl e1 ⟨_,rfl⟩) ao)) (pgn 7 scO1.nd)
     (aG (iB (i:=5) scO1.nd rfl (Or.inl rfl) (aH c3 hr (aq (pv 3) (aq (pv 4) (aq (pv 7) (aq (pv 6) ao))))) jz)))))
   (aG (aQ (pv 5))))),?_⟩
  obtain ⟨n,rfl⟩:∃ n:Nat,y=n:=⟨y.toNat,by lia⟩
  unfold Em at q;rw [zAi] at q;have hn:n < 20:=by have:=B.lc;lia
  have df:=v8 B.un B.h5;refine aF ?_;refine ⟨_,rfl,bk,_,rfl,SqT.of B.e,rfl,_,_,rfl,_,_,rfl,_,_,rfl,rfl,?_⟩;dsimp only;refine aF (aW ?_);refine ⟨zL,fun l hl=>?_⟩;have s0:=Same.upd (o:=.lst []) hl;have tw:upd H l (.lst []) l=some (.lst []):=aa;generalize upd H l (.lst [])=H0 at s0 tw ⊢;refine aK ?_;dsimp only;refine aF ?_;refine ⟨_,rfl,_,_,rfl,rfl,(n:Int)+1,rfl,by lia,by lia,?_⟩;refine cY (lo:=0) (fun i σ Hc=>∃ x6 x7 xl,σ=[some (.ref bk),some (.int n),some (.ref ac),some (.ref ap),some (.ref ae),some (.ref l),x6,x7]/\Same H Hc/\Hc l=some (.lst xl)/\Els Hc xl (dz ps ss i)) ?_ ?_ ?_
  ·exact ⟨none,none,[],rfl,s0,tw,Els.nil⟩
  ·rintro i σ Hc hi ⟨x6,x7,xl,rfl,sc,el,els⟩;have hi:i < n+1:=by lia
   refine aK ?_;refine rO fun De ku=>?_;refine ⟨3,rfl,by decide,by decide,?_⟩;refine cY (lo:=0) (n:=3) (fun j σ Hd=>∃ x7 xl,σ=[some (.ref bk),some (.int n),some (.ref ac),some (.ref ap),some (.ref ae),some (.ref l),some (.int (0+(i:Int))),x7]/\Same H Hd/\Hd l=some (.lst xl)/\Els Hd xl (dz ps ss i++clY ps ss i j)) ?_ ?_ ?_
   ·exact ⟨_,xl,rfl,sc,el,by show Els Hc xl (dz ps ss i++[]);rw [zAn];exact els⟩
   ·rintro j σ Hd hj ⟨x7,xl,rfl,sd,el,els⟩;refine aK ?_;have B2:=B.same sd;refine ⟨_,rfl,_,rfl,_,rfl,_,rfl,_,rfl,ap,xp,ps,ae,xs,ss,_,_,rfl,B2.rp,B.lp,B.okp,B2.rs,B.ls,df,fun k xk H3 s3 nk ek fk=>?_⟩;have i0:(0:Int)+(i:Int)=(i:Int):=Int.zero_add _;have j0:(0:Int)+(j:Int)=(j:Int):=Int.zero_add _;rw [i0,j0] at fk;have a1:=els.1;have a2:=fk.1;have b1:=oV (ss:=ss) B.lp i;have b2:=qz (ss:=ss) (y:=i) B.lp j;have b3:=bZ (ss:=ss) (sort:=(j:Int)) (year:=(i:Int)) B.lp;rw [zA2] at a1;refine ⟨l,k,xl,xk,rfl,rfl,s3 _ _ el,ek,by rw [sizeLine_eq];lia,?_⟩;refine ⟨_,xl++xk,rfl,fun b o e=>?_,aa,?_⟩
    ·rw [aC (aD e hl)];exact s3 _ _ (sd _ _ e)
    ·have e3:=((els.same s3).app fk).keep (H':=upd H3 l (.lst (xl++xk))) fun b z e=>by
      rw [aC fun w=>?_]
      ·exact e
      ·rw [w,s3 _ _ el] at e;cases e
     rw [zAf] at e3;exact e3
   ·rintro σ Hd ⟨x7,xl,rfl,sd,el,els⟩;exact ku _ _ ⟨_,_,xl,rfl,sd,el,els⟩
  ·rintro σ Hc ⟨x6,x7,xl,rfl,sc,el,els⟩;dsimp only;rw [show ((n:Int)+1).toNat=n+1 by lia] at els;exact ⟨_,rfl,q l xl Hc sc hl el els⟩
theorem scO2:FnScope ["book","year","given","gifts","owed","left"] ["book","year"] (aJ (top 59)):=fS
theorem Bu (F:Fun K "sums_by" "sums_by" (top 59) f fd)(Tl:mg "list" = none)(Tz:mg "zip" = none)(c1:Cal P w K mg base 8 "refuse_no_year" ["book","year"] (jq yM))(c2:Cal P w K mg base 10 "years_given" ["book","year"] jo)(c3:Cal P w K mg base 3 "claims_to" ["book","year"] (yQ Em))(c4:Cal P w K mg base 11 "owed_behind" ["book","year"] (yQ rZ))(c5:Cal P w K mg base 1 "by_holder" ["rows"] Cu):FnOk P w K mg base CX0 12 f fd ["book","year"] (jq En):=by
 refine F.ok scO2 (fun vs H Q E h=>?_) (fun ai A outer s H vs Q E hr h=>?_)
 ·obtain ⟨S,bk,y,d,ac,xc,cs,ap,xp,ps,ae,xs,ss,rfl,_⟩:=h;rfl
 ·obtain ⟨S,bk,y,d,ac,xc,cs,ap,xp,ps,ae,xs,ss,rfl,th,hz,hb,B,y0,y1,q⟩:=h
  refine ⟨_,aA (dH (aH c1 hr (aq (pv 0) (aq (pv 1) ao))))
   (aA (pss 2 scO2.nd (cQ ao))
   (aA (bV zB5 rfl (cC (aH c2 hr (aq (pv 0) (aq (pv 1) ao)))) (bz rfl (aj (pgn 3 scO2.nd) (aj (pgn 4 scO2.nd) (aj (pgn 5 scO2.nd) aR))))
    (aG (iB (i:=2) scO2.nd rfl (Or.inl rfl) (pv 3) jz)))
   (aG (aQ (Z3.pe_lzip3 hr.hd rfl Tl rfl Tz (aq (aH c5 hr (aq (aH c3 hr (aq (pv 0) (aq (pv 1) ao))) ao)) (aq (aH c5 hr (aq (pv 2) ao)) (aq (aH c5 hr (aq (aH c4 hr (aq (pv 0) (aq (pv 1) ao))) ao)) ao)))))))),?_⟩
  obtain ⟨n,rfl⟩:∃ n:Nat,y=n:=⟨y.toNat,by lia⟩
  unfold En at q;rw [zAi] at q;have hn:n < 20:=by have:=B.lc;lia
  refine aF ?_;refine ⟨_,rfl,_,rfl,S,bk,(n:Int),d,ac,xc,cs,ap,xp,ps,ae,xs,ss,rfl,th,hz,hb,B,y0,y1,fun H1 s1=>?_⟩;dsimp only;refine aF (aW ?_);refine ⟨zL,fun l hl=>?_⟩;have s2:=s1.updR (o:=.lst []) hl;have LG:H l=none:=s1.free hl;have el2:upd H1 l (.lst []) l=some (.lst []):=aa;generalize upd H1 l (.lst [])=H2 at s2 el2 ⊢;have B2:=B.same s2;refine aK ?_;dsimp only;refine aF ?_;refine ⟨_,rfl,_,rfl,bk,(n:Int),ac,xc,cs,ap,xp,ps,ae,xs,ss,rfl,B2.e,B2.rc,B.okc,B.lc,y0,y1,B2.rp,B.lp,B.okp,B2.rs,B.ls,B.h5,B.un,fun ly ts H3 s3 IX IY lt hy=>⟨ly,rfl,⟨_,SqL.of IY⟩,?_⟩⟩;have el3:=s3 _ _ el2
  have EA:ly≠l:=fun z=>by
   rw [z,el2] at IX;cases IX
  refine eU (xs:=ts.map V.ref) (fun i σ Hc=>∃ x3 x4 x5 xl,σ=[some (.ref bk),some (.int n),some (.ref l),x3,x4,x5]/\(∀ b o,b≠l->H3 b=some o->Hc b=some o)/\Hc l=some (.lst xl)/\Els Hc xl (bU cs ps ss i)) ?_ ?_ ?_ ?_
  ·exact ⟨none,none,none,[],rfl,fun _ _ _ e=>e,el3,Els.nil⟩
  ·rintro i σ Hc hi ⟨x3,x4,x5,xl,rfl,sc,el,els⟩;exact SqL.of (sc _ _ EA IY)
  ·rintro i x σ Hc hx ⟨x3,x4,x5,xl,rfl,sc,el,els⟩;rw [zAb] at hx;obtain ⟨a,ha,rfl⟩:=Option.map_eq_some_iff.mp hx
   have hi:i < n+1:=by
    have:=(zAa.mp ha).1;lia
   obtain ⟨g,k,tl,xg,xk,e1,n1,n2,d1,d2,e2,e3,e4,e5,e6,e7⟩:=hy i a ha
   have na:a≠l:=fun z=>by
    rw [z,el3] at e1;cases e1
   have ng:g≠l:=fun z=>by
    rw [z,el2] at n1;cases n1
   refine ⟨a,_,rfl,SqT.of (sc _ _ na e1),rfl,_,_,rfl,_,_,rfl,_,_,rfl,rfl,?_⟩;have a1:=els.1;have a2:=e3.1;have b1:=(sE B.okc B.lp B.un B.h5 B.okp i (by lia)).2;have b2:=(yZ (n:=i) B.okc B.lp B.un B.h5 B.okp (by lia)).2;refine ⟨_,rfl,_,rfl,l,g,xl,xg,rfl,rfl,el,sc _ _ ng e2,by rw [sizeLine_eq];lia,?_⟩
   have kp:∀ b z,Hc b=some (.tup z)->upd Hc l (.lst (xl++xg)) b=some (.tup z):=fun b z e=>by
    rw [aC fun w=>?_]
    ·exact e
    ·rw [w,el] at e;cases e
   refine ⟨_,_,_,xl++xg,rfl,fun b o nb e=>by rw [aC nb];exact sc _ _ nb e,aa,?_⟩;have ex:Els Hc xg (srt (dN cs ps ss i).g):=e3.keep fun b z e=>sc _ _ (fun w=>by rw [w,el3] at e;cases e) e;exact (els.app ex).keep kp
  ·rintro σ Hc ⟨x3,x4,x5,xl,rfl,sc,el,els⟩;rw [zA1,show ts.length=n+1 by lia] at els;have sH:Same H Hc:=fun b o e=>sc _ _ (aD e LG) (s3 _ _ (s2 _ _ e));have BC:=B.same sH;dsimp only;refine iM ?_;refine ⟨_,rfl,_,rfl,bk,(n:Int),ac,xc,cs,ap,xp,ps,ae,xs,ss,rfl,BC,y0,y1,fun k1 LH H4 s4 n4 e4 el4=>?_⟩;rw [zAi] at el4;refine ⟨k1,LH,_,rfl,e4,el4,mD B.un B.h5 B.okp _,fun r1 H5 s5 n5 P2 e5=>?_⟩;have A6:=s4.trans s5;refine ⟨_,rfl,l,xl,_,rfl,A6 _ _ el,els.same A6,(sE B.okc B.lp B.un B.h5 B.okp (n+1) (by lia)).1,fun r2 H6 s6 n6 P4 e6=>?_⟩;have LI:=A6.trans s6;refine ⟨_,rfl,_,rfl,bk,(n:Int),ac,xc,cs,ap,xp,ps,ae,xs,ss,rfl,BC.same LI,y0,y1,fun k3 LJ H7 s7 n7 P5 e7 rf=>?_⟩;rw [zAi] at rf;have LK:=yU B.okc B.lp B.un B.h5 B.okp (n+1) (by lia);refine ⟨k3,LJ,_,rfl,e7,rf,fun r hr=>⟨(LK r hr).1,Bq _ r hr⟩,fun r3 H8 s8 n8 P6 e8=>?_⟩;have IZ:=(s6.trans s7).trans s8;have Ja:=A6.trans IZ;have A1:=qy (fl · 2) (fl · 3) (dz ps ss (n+1));have A2:=qy (fl · 2) (fl · 3) (bU cs ps ss (n+1));have A3:=qy (fl · 2) (fl · 3) (cN cs ps ss (n+1));refine ⟨r1,r2,r3,_,_,_,rfl,SqL.of (IZ _ _ e5),SqL.of (s8 _ _ (s7 _ _ e6)),SqL.of e8,by rw [zA1,zA1,A1,A2],by rw [zA1,zA1,A1,A3],by rw [zA1,A1];decide,fun lz as H9 s9 nz EI ez Jb hz=>?_⟩;refine q lz as H9 ((sH.trans Ja).trans s9) ((sH.trans Ja).free nz) EI ez (by rw [Jb,zA1,A1]) fun j a ha=>?_;rw [hz j a ha]
   have hj:j < 8:=by
    have:=(zAa.mp ha).1;rw [Jb,zA1,A1] at this;exact this
   have gm:∀ {L:List Int},L.length=8->(L.map V.int).getD j .non=.int (L.getD j 0):=fun {L} hL=>by
    rw [zA7,dw (by lia)];rfl
   show some (HO.tup [_,_,_])=some (HO.tup [_,_,_]);rw [gm A1,gm A2,gm A3]
def sF (f:List Int->Bool)(rs:List (List Int)):Int:=aM (rs.filter fun r=>f (keyOf r))
section
variable {f:List Int->Bool}
theorem dW (a b:List (List Int)):sF f (a++b)=sF f a+sF f b:=by
 unfold sF;rw [List.filter_append,eO]
theorem Cv {a b:List (List Int)}(h:a.Perm b):sF f a=sF f b:=mz (h.filter _)
theorem dZ (r:List Int)(rs:List (List Int)):sF f (r::rs)=(if f (keyOf r)=true then fl r 3 else 0)+sF f rs:=by
 unfold sF;by_cases h:f (keyOf r)=true
 ·rw [zB7 (p:=fun r=>f (keyOf r)) h,zAw h];rfl
 ·rw [zB9 (p:=fun r=>f (keyOf r)) h,zAv h,Int.zero_add]
theorem Gx {rs:List (List Int)}(h:∀ r∈rs,0<=fl r 3):0<=sF f rs:=my fun r hr=>h r (zAq.mp hr).1
theorem za:∀ {rs:List (List Int)} {sh:List Int},sh.length=rs.length->(∀ x∈sh,0<=x)->(∀ p∈rs.zip sh,p.2<=fl p.1 3)->sF f (cW (rs.zip sh))+sF f (bC (rs.zip sh))=sF f rs
 | [],[],_,_,_=>rfl
 | [],_::_,h,_,_=>by simp at h
 | _::_,[],h,_,_=>by simp at h
 | r::rs,x::sh,h,h0,hn=>by
  have ih:=za (rs:=rs) (sh:=sh) (by simpa using h) (fun y hy=>h0 y (.tail _ hy)) fun y hy=>hn y (by rw [List.zip_cons_cons];exact .tail _ hy);have x0:0<=x:=h0 x (.head _);have hx:x<=fl r 3:=hn (r,x) (by rw [List.zip_cons_cons];exact .head _)
  have g:sF f (cW ((r,x)::rs.zip sh))=(if f (keyOf r)=true then x else 0)+sF f (cW (rs.zip sh)):=by
   unfold cW;by_cases hp:0 < x
   ·rw [zB7 (p:=fun (p:List Int×Int)=>decide (0 < p.2)) (zAt hp),zAk,dZ];rfl
   ·have:x=0:=by lia
    subst this;rw [List.filter_cons_of_neg (p:=fun (p:List Int×Int)=>decide (0 < p.2)) (by rw [decide_eq_true_eq];exact hp)];simp
  have k:sF f (bC ((r,x)::rs.zip sh))=(if f (keyOf r)=true then fl r 3 - x else 0)+sF f (bC (rs.zip sh)):=by
   unfold bC;by_cases hp:x < fl r 3
   ·rw [zB7 (p:=fun (p:List Int×Int)=>decide (p.2 < fl p.1 3)) (zAt hp),zAk,dZ];rfl
   ·have e:fl r 3 - x=0:=by lia
    rw [List.filter_cons_of_neg (p:=fun (p:List Int×Int)=>decide (p.2 < fl p.1 3)) (by rw [decide_eq_true_eq];exact hp),e];simp
  rw [List.zip_cons_cons,g,k,dZ,<- ih];by_cases h:f (keyOf r)=true
  ·rw [zAw h,zAw h,zAw h];lia
  ·rw [zAv h,zAv h,zAv h];lia
def ahF (f:List Int->Bool)(ps ow:List (List Int)):Nat->Int
 | 0=>0
 | n+1=>ahF f ps ow n+sF f (au ps ow n)
theorem qC {ps ow:List (List Int)}{r:List Int}{s:Int}:sF f (au ps (r::ow) s)=(if fl (ps.getD (fl r 1).toNat []) 1=s then (if f (keyOf r)=true then fl r 3 else 0) else 0)+sF f (au ps ow s):=by
 unfold au;by_cases hp:fl (ps.getD (fl r 1).toNat []) 1=s
 ·rw [zB7 (p:=fun r=>decide (fl (ps.getD (fl r 1).toNat []) 1=s)) (zAt hp),zAw hp,dZ]
 ·rw [zB9 (p:=fun r=>decide (fl (ps.getD (fl r 1).toNat []) 1=s)) (by rw [decide_eq_true_eq];exact hp),zAv hp,Int.zero_add]
theorem zb {ps:List (List Int)}:∀ {ow:List (List Int)},(∀ r∈ow,0<=fl (ps.getD (fl r 1).toNat []) 1/\fl (ps.getD (fl r 1).toNat []) 1 < 3)->ahF f ps ow 3=sF f ow
 | [],_=>rfl
 | r::ow,h=>by
  have ih:=zb (ow:=ow) fun q hq=>h q (.tail _ hq);obtain ⟨h0,h1⟩:=h r (.head _);have e:∀ ow,ahF f ps ow 3=0+sF f (au ps ow 0)+sF f (au ps ow 1)+sF f (au ps ow 2):=fun _=>rfl;rw [e] at ih;rw [e,qC,qC,qC,dZ,<- ih];generalize (if f (keyOf r)=true then fl r 3 else 0)=v;generalize fl (ps.getD (fl r 1).toNat []) 1=t at h0 h1 ⊢;have:t=0\/t=1\/t=2:=by lia
  rcases this with rfl | rfl | rfl
  ·rw [zAw rfl,zAv (by decide),zAv (by decide)];lia
  ·rw [zAv (by decide),zAw rfl,zAv (by decide)];lia
  ·rw [zAv (by decide),zAv (by decide),zAw rfl];lia
section
variable {c:List Int}{ps ss ow:List (List Int)}{y:Nat}
theorem zc (hc:∀ x∈c,0<=x)(hu:un ps ss=none)(h5:∀ s∈ss,s.length=5)(okp:∀ r∈ps,okP r)(hl:ps.length<=10)(ho:∀ r∈ow,okO ps r):∀ n,sF f (yTo c ps ss ow y n).g+sF f (yTo c ps ss ow y n).k=sF f (clY ps ss y n)+ahF f ps ow n
 | 0=>rfl
 | n+1=>by
  have ih:=zc hc hu h5 okp hl ho n;have nn:=yE (y:=(y:Int)) hc hu h5 okp hl ho n
  have hw:0<=c.getD n 0+(yTo c ps ss ow y n).d:=by
   have:=gw hc n;lia
  have iA:=dF (sort:=n) (year:=(y:Int)) hu h5 okp;have rg:=bZ (ss:=ss) (sort:=n) (year:=(y:Int)) hl
  have A5:∀ r∈au ps ow n,0<=fl r 3:=fun r hr=>by have:=(fY (sort:=n) ho r hr).2.2.2;lia
  have e:=za (f:=f) (rs:=az ps ss n y++au ps ow n) (sh:=shr (c.getD n 0+(yTo c ps ss ow y n).d) (az ps ss n y) (au ps ow n)) (by unfold shr;rw [zA2,zA2,shares_len,dC]) (tX hw iA rg A5).1 (yV hw hu h5 okp hl n);rw [dW (az ps ss n y)] at e;show sF f ((yTo c ps ss ow y n).g++cW _)+sF f ((yTo c ps ss ow y n).k++bC _)=sF f (clY ps ss y n++az ps ss n y)+(ahF f ps ow n+sF f (au ps ow n));rw [dW,dW,dW];lia
end
theorem zf {cs ps ss:List (List Int)}(B:BkO cs ps ss)(m:Nat):∀ r∈cN cs ps ss m,0<=fl (ps.getD (fl r 1).toNat []) 1/\fl (ps.getD (fl r 1).toNat []) 1 < 3:=fun r hr=>by
 obtain ⟨_,h0,h1,_⟩:=(jn (cs:=cs) B.hl B.hu B.h5 B.okp m).1 r hr;obtain ⟨p,_,ep,_,_,hp,_⟩:=prom_ok (n:=fl r 1) B.okp h0 h1;rw [ep];exact hp
theorem all_cons {cs ps ss:List (List Int)}(B:BkO cs ps ss):∀ m,sF f (dz ps ss m)=sF f (bU cs ps ss m)+sF f (cN cs ps ss m)
 | 0=>rfl
 | m+1=>by
  have ih:=all_cons B m;have e:=zc (f:=f) (ss:=ss) (y:=m) (v9 B.okc m) B.hu B.h5 B.okp B.hl (jn (cs:=cs) B.hl B.hu B.h5 B.okp m).1 3;rw [zb (zf B m)] at e;show sF f (dz ps ss m++clY ps ss m 3)=sF f (bU cs ps ss m++srt (dN cs ps ss m).g)+sF f (srt (yTo (cs.getD m []) ps ss (cN cs ps ss m) m 3).k);rw [dW,dW,Cv (dG _),Cv (dG _)];have e2:sF f (dN cs ps ss m).g=sF f (yTo (cs.getD m []) ps ss (cN cs ps ss m) m 3).g:=rfl;lia
end
def isH (h:Nat)(k:List Int):Bool:=decide (fl k 2=h)
theorem zg {h:Nat}(h8:h < 8):∀ (rs:List (List Int)) (L:List Int),L.length=8->(∀ r∈rs,hO r)->(rs.foldl (fun L r=>cU L (fl r 2) (fl r 3)) L).getD h 0=L.getD h 0+sF (isH h) rs
 | [],L,_,_=>by
  show L.getD h 0=L.getD h 0+0;lia
 | r::rs,L,hL,ho=>by
  obtain ⟨a0,a1⟩:=ho r (.head _);show (rs.foldl _ (cU L (fl r 2) (fl r 3))).getD h 0=_;rw [zg h8 rs _ (by rw [dM];exact hL) fun q hq=>ho q (.tail _ hq),dZ];unfold cU isH;rw [zA7,List.getElem?_set];have e:fl (keyOf r) 2=fl r 2:=rfl;by_cases hh:fl r 2=h
  ·rw [zAw (by lia),zAw (by lia),zAw (by rw [decide_eq_true_eq,e];exact hh),show (fl r 2).toNat=h by lia];show L.getD h 0+fl r 3+_=_;lia
  ·rw [zAv (by lia),zAv (by rw [decide_eq_true_eq,e];exact hh),<- zA7];lia
theorem mG {h:Nat}(h8:h < 8){rs:List (List Int)}(ho:∀ r∈rs,hO r):(hsum (fl · 2) (fl · 3) rs).getD h 0=sF (isH h) rs:=by
 have:=zg h8 rs (List.replicate 8 0) rfl ho;unfold hsum;rw [this,zA7,List.getElem?_replicate];split
 ·exact Int.zero_add _
 ·exact Int.zero_add _
theorem wN {cs ps ss:List (List Int)}(B:BkO cs ps ss){m:Nat}(hm:m<=20){j:Nat}(hj:j < 8):fl (mF cs ps ss m j) 0=fl (mF cs ps ss m j) 1+fl (mF cs ps ss m j) 2:=by
 have a:=mG hj (rs:=dz ps ss m) fun r hr=>(mD B.hu B.h5 B.okp m r hr).2;have b:=mG hj (rs:=bU cs ps ss m) fun r hr=>((sE B.okc B.hl B.hu B.h5 B.okp m hm).1 r hr).2;have c:=mG hj (rs:=cN cs ps ss m) fun r hr=>Bq m r hr;show (hsum (fl · 2) (fl · 3) (dz ps ss m)).getD j 0=(hsum (fl · 2) (fl · 3) (bU cs ps ss m)).getD j 0+(hsum (fl · 2) (fl · 3) (cN cs ps ss m)).getD j 0;rw [a,b,c];exact all_cons B m
abbrev ky (n y:Int):List Key:=[.inl n,.inl y]
theorem qD {n y n' y':Int}(h:ky n y=ky n' y'):n=n'/\y=y':=by
 injection h with h1 h2;injection h2 with h2 _;injection h1 with h1;injection h2 with h2;exact ⟨h1,h2⟩
def dom (ps:List (List Int))(n y:Int):Prop:=0<=n/\n < ps.length/\fl (ps.getD n.toNat []) 2<=y/\y<=fl (ps.getD n.toNat []) 3
def hl (ps ss:List (List Int))(n y:Int):List Int:=bI (ps.getD n.toNat []) ss n y
structure Lts (fo:Addr)(H0 H:Hp)(dm:Int->Int->Prop)(f:Int->Int->List Int)(kvs:List (List Key×V)):Prop where
 sm:Same H0 H
 nf:H0 fo=none
 e:H fo=some (.dT kvs)
 g:∀ n y,dm n y->∃ d,cF kvs (ky n y)=some (.ref d)/\H d=some (.lst ((f n y).map V.int))
 no:∀ n y,¬ dm n y->cF kvs (ky n y)=none
 i:∀ n y n' y' d,cF kvs (ky n y)=some (.ref d)->cF kvs (ky n' y')=some (.ref d)->n=n'/\y=y'
 fr:∀ n y d,cF kvs (ky n y)=some (.ref d)->H0 d=none/\d≠fo
 kd:(kvs.map (·.1)).Nodup
 kk:∀ k∈kvs.map (·.1),∃ n y,k=ky n y/\dm n y
theorem Bv {kvs:List (List Key×V)}{k:List Key}(h:cF kvs k=none):¬ k∈kvs.map (·.1):=fun hk=>by
 obtain ⟨p,hp,e⟩:=zA5.mp hk
 have:(cF kvs k).isSome=true:=by
  rw [<- dJ,List.any_eq_true];exact ⟨p,hp,zAt e⟩
 rw [h] at this;cases this
theorem zj {kvs:List (List Key×V)}{k:List Key}{v:V}(hn:(kvs.map (·.1)).Nodup)(h:cF kvs k=none):((putK kvs k v).map (·.1)).Nodup:=by
 rw [kY _ h,zA4,List.nodup_append];refine ⟨hn,(by simp),fun a ha b hb z=>?_⟩;rw [List.mem_singleton.mp hb] at z;have z':a=k:=z;rw [z'] at ha;exact Bv h ha
section
variable {fo:Addr}{H0 H H':Hp}{dm:Int->Int->Prop}{f f':Int->Int->List Int}{kvs:List (List Key×V)}
theorem Lts.same (g:Lts fo H0 H dm f kvs)(s:Same H H'):Lts fo H0 H' dm f kvs :=
 ⟨g.sm.trans s,g.nf,s _ _ g.e,fun n y h=>by
  obtain ⟨d,e1,e2⟩:=g.g n y h
  exact ⟨d,e1,s _ _ e2⟩,g.no,g.i,g.fr,g.kd,g.kk⟩
theorem Lts.wr {d:Addr}{N Y:Int}{L:List Int}(g:Lts fo H0 H dm f kvs)(hv:cF kvs (ky N Y)=some (.ref d))(h1:f' N Y=L)(h2:∀ n y,dm n y->¬ (n=N/\y=Y)->f' n y=f n y):Lts fo H0 (upd H d (.lst (L.map V.int))) dm f' kvs:=by
 obtain ⟨w1,w2⟩:=g.fr _ _ _ hv;refine ⟨fun c o e=>by rw [aC (aD e w1)];exact g.sm _ _ e,g.nf,by rw [aC w2.symm];exact g.e,fun n y hd=>?_,g.no,g.i,g.fr,g.kd,g.kk⟩;by_cases hk:n=N/\y=Y
 ·obtain ⟨rfl,rfl⟩:=hk;exact ⟨d,hv,by rw [aa,h1]⟩
 ·obtain ⟨d',q1,q2⟩:=g.g n y hd;have nd:d'≠d:=fun z=>hk (g.i _ _ _ _ _ (z ▸ q1) hv);exact ⟨d',q1,by rw [aC nd,h2 n y hd hk];exact q2⟩
theorem Lts.cast (g:Lts fo H0 H dm f kvs)(h:∀ n y,dm n y->f' n y=f n y):Lts fo H0 H dm f' kvs :=
 ⟨g.sm,g.nf,g.e,fun n y hd=>by
  obtain ⟨d,e1,e2⟩:=g.g n y hd
  exact ⟨d,e1,by rw [h n y hd];exact e2⟩,g.no,g.i,g.fr,g.kd,g.kk⟩
theorem Lts.put {d:Addr}{N Y:Int}{L:List Int}{Jc:Int->Int->Prop}(g:Lts fo H0 H dm f kvs)(sH:Same H H')(zh:H d=none)(ed:H' d=some (.lst (L.map V.int)))(hL:f N Y=L)(hn:¬ dm N Y)(zi:∀ n y,Jc n y↔(dm n y\/(n=N/\y=Y))):Lts fo H0 (upd H' fo (.dT (putK kvs (ky N Y) (.ref d)))) Jc f (putK kvs (ky N Y) (.ref d)):=by
 have Jd:d≠fo:=fun z=>by rw [z,g.e] at zh;cases zh
 have kp:∀ b o,b≠fo->H b=some o->upd H' fo (.dT (putK kvs (ky N Y) (.ref d))) b=some o:=fun b o n e=>by
  rw [aC n];exact sH _ _ e
 have nn:=g.no N Y hn;refine ⟨fun b o e=>kp b o (aD e g.nf) (g.sm _ _ e),g.nf,aa,fun n y z=>?_,fun n y z=>?_,fun n y n' y' d' z z'=>?_,fun n y d' z=>?_,zj g.kd nn,fun k hk=>?_⟩
 ·by_cases hk:ky n y=ky N Y
  ·obtain ⟨rfl,rfl⟩:=qD hk;exact ⟨d,by rw [fQ,zAw rfl],by rw [aC Jd,hL];exact ed⟩
  ·have hd:=((zi n y).mp z).resolve_right fun w=>hk (by rw [w.1,w.2]);obtain ⟨d',q1,q2⟩:=g.g n y hd;exact ⟨d',by rw [fQ,zAv hk];exact q1,kp _ _ (g.fr n y d' q1).2 q2⟩
 ·have hk:¬ ky n y=ky N Y:=fun w=>z ((zi n y).mpr (.inr (qD w)));rw [fQ,zAv hk];exact g.no n y fun w=>z ((zi n y).mpr (.inl w))
 ·have key:∀ {n y},cF kvs (ky n y)=some (.ref d)->False:=fun {n y} w=>by
   by_cases hd:dm n y
   ·obtain ⟨P7,q1,q2⟩:=g.g n y hd;rw [w] at q1;cases q1;rw [q2] at zh;cases zh
   ·rw [g.no n y hd] at w;cases w
  rw [fQ] at z z';by_cases h1:ky n y=ky N Y <;> by_cases h2:ky n' y'=ky N Y
  ·obtain ⟨rfl,rfl⟩:=qD h1;obtain ⟨rfl,rfl⟩:=qD h2;exact ⟨rfl,rfl⟩
  ·rw [zAw h1] at z;rw [zAv h2] at z';cases z;exact (key z').elim
  ·rw [zAv h1] at z;rw [zAw h2] at z';cases z';exact (key z).elim
  ·rw [zAv h1] at z;rw [zAv h2] at z';exact g.i _ _ _ _ _ z z'
 ·rw [fQ] at z;by_cases h1:ky n y=ky N Y
  ·rw [zAw h1] at z;cases z;exact ⟨g.sm.free zh,Jd⟩
  ·rw [zAv h1] at z;exact g.fr n y d' z
 ·rw [kY _ nn,zA4] at hk;rcases zA6.mp hk with z | z
  ·obtain ⟨n,y,a,b⟩:=g.kk k z;exact ⟨n,y,a,(zi n y).mpr (.inl b)⟩
  ·rw [List.mem_singleton.mp z];exact ⟨N,Y,rfl,(zi N Y).mpr (.inr ⟨rfl,rfl⟩)⟩
end
def isK (k k':List Int):Bool:=decide (k'=k)
theorem zm {r:List Int}:∀ {rs:List (List Int)},(rs.map keyOf).Nodup->r∈rs->sF (isK (keyOf r)) rs=fl r 3
 | [],_,h=>by cases h
 | q::rs,nd,h=>by
  rw [zAk,List.nodup_cons] at nd
  have out:∀ {rs:List (List Int)},keyOf r ∉ rs.map keyOf->sF (isK (keyOf r)) rs=0:=fun {rs} hn=>by
   have z:(rs.filter fun a=>isK (keyOf r) (keyOf a))=[]:=List.filter_eq_nil_iff.mpr fun a ha e=>hn (zA5.mpr ⟨a,ha,zB3 e⟩);unfold sF;rw [z];rfl
  rw [dZ];rcases zAo.mp h with rfl | h
  ·rw [zAw (show isK (keyOf r) (keyOf r)=true from zAt rfl),out nd.1];lia
  ·have hq:¬ isK (keyOf r) (keyOf q)=true:=fun e=>nd.1 (by rw [zB3 e];exact List.mem_map_of_mem h);rw [zAv hq,zm nd.2 h];lia
theorem sG:∀ (rr:List (List Int)) (sh:List Int),((bC (rr.zip sh)).map keyOf).Sublist (rr.map keyOf)
 | [],sh=>by simp [bC]
 | r::rr,[]=>by simp [bC]
 | r::rr,x::sh=>by
  have ih:=sG rr sh;rw [List.zip_cons_cons,zAk];unfold bC at ih ⊢;by_cases hp:x < fl r 3
  ·rw [zB7 (p:=fun (p:List Int×Int)=>decide (p.2 < fl p.1 3)) (zAt hp),zAk,zAk];exact ih.cons₂ _
  ·rw [zB9 (p:=fun (p:List Int×Int)=>decide (p.2 < fl p.1 3)) (by rw [decide_eq_true_eq];exact hp)];exact ih.cons _
theorem zq {a b:List Int}(h:keyOf a=keyOf b):fl a 0=fl b 0/\fl a 1=fl b 1/\fl a 2=fl b 2:=by
 have h:[fl a 0,fl a 1,fl a 2]=[fl b 0,fl b 1,fl b 2]:=h;simp at h;exact h
section
variable {c:List Int}{ps ss ow:List (List Int)}{y:Int}
theorem Gy (nd:(ow.map keyOf).Nodup)(hy:∀ r∈ow,fl r 0 < y):∀ n,(((yTo c ps ss ow y n).k).map keyOf).Nodup/\∀ r∈(yTo c ps ss ow y n).k,ig ps r < n
 | 0=>⟨List.nodup_nil,fun r hr=>(by cases hr)⟩
 | n+1=>by
  obtain ⟨a,b⟩:=Gy nd hy n
  have rr:((az ps ss n y++au ps ow n).map keyOf).Nodup:=by
   rw [zA4,List.nodup_append];refine ⟨Cp _,((List.filter_sublist (l:=ow)).map keyOf).nodup nd,fun x hx z hz e=>?_⟩;obtain ⟨p,hp,rfl⟩:=zA5.mp hx;obtain ⟨q,hq,rfl⟩:=zA5.mp hz;have h1:=(gA hp).1;have h2:=hy q (zAq.mp hq).1;have:=(zq e).1;lia
  have so:∀ w,∀ r∈bC ((az ps ss n y++au ps ow n).zip (shr w (az ps ss n y) (au ps ow n))),ig ps r=n:=fun w=>wK fun p hp=>by
   obtain ⟨m1,_⟩:=List.of_mem_zip (show (p.1,p.2)∈_ from hp);rcases zA6.mp m1 with z | z
   ·exact (gA z).2.1
   ·exact zB3 (zAq.mp z).2
  constructor
  ·show (((yTo c ps ss ow y n).k++bC _).map keyOf).Nodup;rw [zA4,List.nodup_append];refine ⟨a,(sG _ _).nodup rr,fun x hx z hz e=>?_⟩;obtain ⟨p,hp,rfl⟩:=zA5.mp hx;obtain ⟨q,hq,rfl⟩:=zA5.mp hz;have h1:=b p hp;have h2:=so _ q hq
   have e1:ig ps p=ig ps q:=by
    unfold ig;rw [(zq e).2.1]
   lia
  ·intro r hr;rcases zA6.mp (show r∈(yTo c ps ss ow y n).k++bC _ from hr) with z | z
   ·have:=b r z;lia
   ·have:=so _ r z;lia
theorem zr {p:List Int->Prop}(iA:∀ s:Nat,∀ r∈az ps ss s y,p (keyOf r))(ho:∀ r∈ow,p (keyOf r)):∀ n,(∀ r∈(yTo c ps ss ow y n).g,p (keyOf r)/\1<=fl r 3)/\∀ r∈(yTo c ps ss ow y n).k,p (keyOf r)
 | 0=>⟨fun r hr=>(by cases hr),fun r hr=>(by cases hr)⟩
 | n+1=>by
  obtain ⟨a,b⟩:=zr iA ho n
  have nK:∀ w,∀ q∈(az ps ss n y++au ps ow n).zip (shr w (az ps ss n y) (au ps ow n)),p (keyOf q.1):=fun w q hq=>by
   obtain ⟨m1,m2⟩:=List.of_mem_zip (show (q.1,q.2)∈_ from hq);rcases zA6.mp m1 with z | z
   ·exact iA n _ z
   ·exact ho _ (zAq.mp z).1
  refine ⟨fun r hr=>?_,fun r hr=>?_⟩
  ·rcases zA6.mp (show r∈(yTo c ps ss ow y n).g++cW _ from hr) with z | z
   ·exact a r z
   ·obtain ⟨q,hq,rfl⟩:=zA5.mp z;have h:=zAq.mp hq;have:0 < q.2:=zB3 h.2;exact ⟨nK _ q h.1,this⟩
  ·rcases zA6.mp (show r∈(yTo c ps ss ow y n).k++bC _ from hr) with z | z
   ·exact b r z
   ·obtain ⟨q,hq,rfl⟩:=zA5.mp z;exact nK _ q (zAq.mp hq).1
end
def okK (ps:List (List Int))(m:Int)(k:List Int):Prop:=0<=fl k 0/\fl k 0<=m/\dom ps (fl k 1) (fl k 0)/\0<=fl k 2/\fl k 2 < 8
theorem okK.le {ps:List (List Int)}{m m':Int}{k:List Int}(h:okK ps m k)(l:m<=m'):okK ps m' k:=⟨h.1,by have:=h.2.1;lia,h.2.2⟩
theorem zu {ps ss:List (List Int)}{s y:Int}:∀ {k:Nat} {r:List Int},r∈gD ps ss s y k->∃ j:Nat,fl r 1=j/\fl (ps.getD j []) 2<=y/\y<=fl (ps.getD j []) 3
 | 0,r,hr=>by cases hr
 | k+1,r,hr=>by
  rcases zA6.mp (show r∈gD ps ss s y k++gC ps ss s y k from hr) with z | z
  ·exact zu z
  ·unfold gC at z;split at z
   ·obtain ⟨q,hq,rfl⟩:=zA5.mp z;unfold dD at hq;obtain ⟨h,hh,rfl⟩:=zA5.mp hq;have hp:0 < (bI (ps.getD k []) ss k y).getD h 0:=zB3 (zAq.mp hh).2;refine ⟨k,rfl,?_⟩;unfold bI at hp;split at hp
    ·assumption
    ·rw [zA7,List.getElem?_replicate] at hp;split at hp <;> simp at hp
   ·cases z
theorem zx {ps ss:List (List Int)}{s y:Int}(y0:0<=y){r:List Int}(hr:r∈az ps ss s y):okK ps y (keyOf r):=by
 obtain ⟨a1,a2,a3,a4,a5,a6⟩:=gA hr;obtain ⟨j,e,d1,d2⟩:=zu hr;have e0:fl (keyOf r) 0=fl r 0:=rfl;have e1:fl (keyOf r) 1=fl r 1:=rfl;have e2:fl (keyOf r) 2=fl r 2:=rfl;refine ⟨by lia,by lia,⟨by lia,by lia,?_,?_⟩,by lia,by lia⟩
 ·rw [e0,e1,a1,e,zAi];exact d1
 ·rw [e0,e1,a1,e,zAi];exact d2
theorem qF {cs ps ss:List (List Int)}:∀ m,(∀ r∈cN cs ps ss m,okK ps (m - 1) (keyOf r))/\((cN cs ps ss m).map keyOf).Nodup
 | 0=>⟨fun r hr=>(by cases hr),List.nodup_nil⟩
 | m+1=>by
  obtain ⟨a,b⟩:=qF (cs:=cs) (ps:=ps) (ss:=ss) m;constructor
  ·intro r hr;have hr:=(dG _).mem_iff.mp (show r∈srt (yTo (cs.getD m []) ps ss (cN cs ps ss m) m 3).k from hr);have:=(zr (c:=cs.getD m []) (p:=okK ps m) (fun s r hr=>zx (by lia) hr) (fun r hr=>(a r hr).le (by lia)) 3).2 r hr;exact this.le (by lia)
  ·show ((srt (yTo (cs.getD m []) ps ss (cN cs ps ss m) m 3).k).map keyOf).Nodup;refine (((dG _).map keyOf).nodup_iff).mpr (Gy b (fun r hr=>?_) 3).1;have h:=(a r hr).2.1;have e0:fl (keyOf r) 0=fl r 0:=rfl;lia
theorem Cw {cs ps ss:List (List Int)}(m:Nat):∀ r∈srt (dN cs ps ss m).g,okK ps m (keyOf r)/\1<=fl r 3:=fun r hr =>
 (zr (c:=cs.getD m []) (p:=okK ps m) (fun s r hr=>zx (by lia) hr) (fun r hr=>((qF m).1 r hr).le (by lia)) 3).1 r ((dG _).mem_iff.mp hr)
theorem u6 {cs ps ss:List (List Int)}:∀ m,∀ r∈bU cs ps ss m,okK ps (m - 1) (keyOf r)
 | 0,r,hr=>by cases hr
 | m+1,r,hr=>by
  rcases zA6.mp (show r∈bU cs ps ss m++srt (dN cs ps ss m).g from hr) with z | z
  ·exact (u6 m r z).le (by lia)
  ·exact (Cw m r z).1.le (by lia)
section
variable {d n h:Nat}
theorem Cy {L:List Int}{y k:Nat}(nn:∀ i,0<=L.getD i 0):∀ i,sF (isK [(d:Int),n,h]) ((dD L i).map fun r=>(y:Int)::(k:Int)::r)=if d=y/\n=k/\h < i then L.getD h 0 else 0
 | 0=>by
  rw [zAv (by lia)];rfl
 | i+1=>by
  rw [ie,zA4,dW,Cy nn i]
  have e:sF (isK [(d:Int),n,h]) ((if 0 < L.getD i 0 then [[(i:Int),L.getD i 0]] else []).map fun r=>(y:Int)::(k:Int)::r)=if d=y/\n=k/\h=i then L.getD h 0 else 0:=by
   by_cases hp:0 < L.getD i 0
   ·rw [zAw hp];show sF (isK [(d:Int),n,h]) ([[(y:Int),k,i,L.getD i 0]])=_;rw [dZ]
    have ek:(isK [(d:Int),n,h] (keyOf [(y:Int),k,i,L.getD i 0])=true)↔(d=y/\n=k/\h=i):=by
     unfold isK;rw [decide_eq_true_eq];show [(y:Int),(k:Int),(i:Int)]=[(d:Int),n,h]↔_;simp;lia
    by_cases hk:d=y/\n=k/\h=i
    ·rw [zAw hk,zAw (ek.mpr hk),hk.2.2];show L.getD i 0+0=_;lia
    ·rw [zAv hk,zAv fun z=>hk (ek.mp z)];rfl
   ·rw [zAv hp];have:=nn i;have z:L.getD i 0=0:=by lia
    show 0=_;split
    ·rename_i hk
     rw [hk.2.2,z]
    ·rfl
  rw [e];by_cases h1:d=y/\n=k
  ·by_cases h2:h < i
   ·rw [zAw ⟨h1.1,h1.2,h2⟩,zAv (by lia),zAw ⟨h1.1,h1.2,by lia⟩];lia
   ·by_cases h3:h=i
    ·rw [zAv (by lia),zAw ⟨h1.1,h1.2,h3⟩,zAw ⟨h1.1,h1.2,by lia⟩];lia
    ·rw [zAv (by lia),zAv (by lia),zAv (by lia)];rfl
  ·rw [zAv (by lia),zAv (by lia),zAv (by lia)];rfl
variable {ps ss:List (List Int)}
theorem Gz {y:Nat}{s:Int}(hu:un ps ss=none)(h5:∀ s∈ss,s.length=5)(okp:∀ r∈ps,okP r)(h8:h < 8):∀ k,k<=ps.length->sF (isK [(d:Int),n,h]) (gD ps ss s y k)=if d=y/\n < k/\fl (ps.getD n []) 1=s then (bI (ps.getD n []) ss n d).getD h 0 else 0
 | 0,_=>by
  rw [zAv (by lia)];rfl
 | k+1,hk=>by
  show sF _ (gD ps ss s y k++gC ps ss s y k)=_;have cq:k < ps.length:=by lia
  have op:okP (ps.getD k []):=by rw [getD_get cq];exact okp _ (zAh cq)
  have nn:∀ i,0<=(bI (ps.getD k []) ss k y).getD i 0:=fun i=>by
   obtain ⟨a,_⟩:=uX (n:=k) (y:=y) hu h5 op ss.length (zA3 _);rw [zAm] at a;exact gw a i
  rw [dW,Gz hu h5 okp h8 k (by lia)];unfold gC;by_cases hs:fl (ps.getD k []) 1=s
  ·rw [zAw hs,Cy nn 8];by_cases h1:d=y
   ·subst h1;by_cases h2:n < k
    ·rw [zAv (c:=d=d/\n=k/\h < 8) (by lia)];by_cases h3:fl (ps.getD n []) 1=s
     ·rw [zAw ⟨rfl,h2,h3⟩,zAw ⟨rfl,by lia,h3⟩];lia
     ·rw [zAv (by lia),zAv (by lia)];rfl
    ·by_cases h3:n=k
     ·subst h3;rw [zAv (by lia),zAw ⟨rfl,rfl,h8⟩,zAw ⟨rfl,by lia,hs⟩];lia
     ·rw [zAv (by lia),zAv (by lia),zAv (by lia)];rfl
   ·rw [zAv (by lia),zAv (by lia),zAv (by lia)];rfl
  ·rw [zAv hs];show _+0=_;by_cases h3:n=k
   ·subst h3;rw [zAv (by lia),zAv (by lia)];rfl
   ·by_cases h4:d=y/\n < k/\fl (ps.getD n []) 1=s
    ·rw [zAw h4,zAw ⟨h4.1,by lia,h4.2.2⟩];lia
    ·rw [zAv h4,zAv (by lia)];rfl
theorem GC {y:Nat}(hu:un ps ss=none)(h5:∀ s∈ss,s.length=5)(okp:∀ r∈ps,okP r)(h8:h < 8)(hn:n < ps.length):sF (isK [(d:Int),n,h]) (clY ps ss y 3)=if d=y then (bI (ps.getD n []) ss n d).getD h 0 else 0:=by
 have e:∀ s:Nat,sF (isK [(d:Int),n,h]) (az ps ss s y)=_:=fun s=>Gz (d:=d) (n:=n) (y:=y) (s:=s) hu h5 okp h8 ps.length (zA3 _);show sF _ ((([]++az ps ss ((0:Nat):Int) y)++az ps ss ((1:Nat):Int) y)++az ps ss ((2:Nat):Int) y)=_;rw [List.nil_append,dW,dW,e,e,e];have hp:=okp (ps.getD n []) (by rw [getD_get hn];exact zAh hn);obtain ⟨_,_,⟨b0,b1⟩,_⟩:=hp;generalize fl (ps.getD n []) 1=t at b0 b1 ⊢;by_cases h1:d=y
 ·rw [zAw h1];have:t=0\/t=1\/t=2:=by lia
  rcases this with rfl | rfl | rfl
  ·rw [zAw ⟨h1,hn,rfl⟩,zAv (by lia),zAv (by lia)];lia
  ·rw [zAv (by lia),zAw ⟨h1,hn,rfl⟩,zAv (by lia)];lia
  ·rw [zAv (by lia),zAv (by lia),zAw ⟨h1,hn,rfl⟩];lia
 ·rw [zAv (by lia),zAv (by lia),zAv (by lia),zAv h1];rfl
theorem vf (hu:un ps ss=none)(h5:∀ s∈ss,s.length=5)(okp:∀ r∈ps,okP r)(h8:h < 8)(hn:n < ps.length):∀ m,sF (isK [(d:Int),n,h]) (dz ps ss m)=if d < m then (bI (ps.getD n []) ss n d).getD h 0 else 0
 | 0=>by
  rw [zAv (by lia)];rfl
 | m+1=>by
  show sF _ (dz ps ss m++clY ps ss m 3)=_;rw [dW,vf hu h5 okp h8 hn m,GC hu h5 okp h8 hn];by_cases h1:d < m
  ·rw [zAw h1,zAv (by lia),zAw (by lia)];lia
  ·by_cases h2:d=m
   ·rw [zAv h1,zAw h2,zAw (by lia)];lia
   ·rw [zAv h1,zAv h2,zAv (by lia)];rfl
end
theorem Cz {ps ss:List (List Int)}{k:List Int}{m:Nat}(hu:un ps ss=none)(h5:∀ s∈ss,s.length=5)(okp:∀ r∈ps,okP r)(l:k.length=3)(h:okK ps m k):sF (isK k) (dz ps ss (m+1))=(hl ps ss (fl k 1) (fl k 0)).getD (fl k 2).toNat 0:=by
 obtain ⟨a0,a1,⟨b0,b1,_⟩,c0,c1⟩:=h
 match k,l with
 | [d,n,z],_ =>
  have a0:0<=d:=a0;have a1:d<=m:=a1;have b0:0<=n:=b0;have b1:n < ps.length:=b1;have c0:0<=z:=c0;have c1:z < 8:=c1
  obtain ⟨d,rfl⟩:∃ i:Nat,d=i:=⟨d.toNat,by lia⟩
  obtain ⟨n,rfl⟩:∃ i:Nat,n=i:=⟨n.toNat,by lia⟩
  obtain ⟨z,rfl⟩:∃ i:Nat,z=i:=⟨z.toNat,by lia⟩
  rw [vf hu h5 okp (by lia) (by lia),zAw (by lia)];rfl
theorem u9 {cs ps ss:List (List Int)}(B:BkO cs ps ss){m:Nat}{r:List Int}(hr:r∈cN cs ps ss (m+1)):sF (isK (keyOf r)) (bU cs ps ss (m+1))+fl r 3=(hl ps ss (fl r 1) (fl r 0)).getD (fl r 2).toNat 0:=by
 obtain ⟨a,nd⟩:=qF (cs:=cs) (ps:=ps) (ss:=ss) (m+1);have e:=all_cons (f:=isK (keyOf r)) B (m+1);rw [zm nd hr,Cz B.hu B.h5 B.okp rfl ((a r hr).le (by lia))] at e;exact e.symm
theorem sI {cs ps ss:List (List Int)}(B:BkO cs ps ss){m:Nat}{r:List Int}(hr:r∈bU cs ps ss (m+1)):sF (isK (keyOf r)) (bU cs ps ss (m+1))<=(hl ps ss (fl r 1) (fl r 0)).getD (fl r 2).toNat 0:=by
 have e:=all_cons (f:=isK (keyOf r)) B (m+1);rw [Cz B.hu B.h5 B.okp rfl ((u6 (m+1) r hr).le (by lia))] at e
 have nn:=Gx (f:=isK (keyOf r)) (rs:=cN cs ps ss (m+1)) fun q hq=>by
  have:=((jn (cs:=cs) B.hl B.hu B.h5 B.okp (m+1)).1 q hq).2.2.2;lia
 have e':(hl ps ss (fl (keyOf r) 1) (fl (keyOf r) 0)).getD (fl (keyOf r) 2).toNat 0=(hl ps ss (fl r 1) (fl r 0)).getD (fl r 2).toNat 0:=rfl;lia
section
variable {c:List Int}{ps ss P8 ow P9:List (List Int)}{y:Int}
end
def hs3 (ps rs:List (List Int)):List Int:=rs.foldl (fun L r=>cU L (fl (ps.getD (fl r 1).toNat []) 1) (fl r 3)) [0,0,0]
theorem vg (ps:List (List Int)):∀ (rs:List (List Int)) (L:List Int),(rs.foldl (fun L r=>cU L (fl (ps.getD (fl r 1).toNat []) 1) (fl r 3)) L).length=L.length
 | [],_=>rfl
 | r::rs,L=>by
  show (rs.foldl _ (cU L _ _)).length=_;rw [vg ps rs,dM]
theorem zy {ps:List (List Int)}:∀ (rs:List (List Int)) (a b c:Int),(∀ r∈rs,0<=fl (ps.getD (fl r 1).toNat []) 1/\fl (ps.getD (fl r 1).toNat []) 1 < 3) ->
  rs.foldl (fun L r=>cU L (fl (ps.getD (fl r 1).toNat []) 1) (fl r 3)) [a,b,c]=[a+aM (au ps rs 0),b+aM (au ps rs 1),c+aM (au ps rs 2)]
 | [],a,b,c,_=>by
  show [a,b,c]=[a+0,b+0,c+0];rw [Int.add_zero,Int.add_zero,Int.add_zero]
 | r::rs,a,b,c,h=>by
  obtain ⟨h0,h1⟩:=h r (.head _);have ih:=fun a b c=>zy rs a b c fun q hq=>h q (.tail _ hq)
  have ah:∀ s:Int,aM (au ps (r::rs) s)=(if fl (ps.getD (fl r 1).toNat []) 1=s then fl r 3 else 0)+aM (au ps rs s):=fun s=>by
   unfold au;by_cases hp:fl (ps.getD (fl r 1).toNat []) 1=s
   ·rw [zB7 (p:=fun r=>decide (fl (ps.getD (fl r 1).toNat []) 1=s)) (zAt hp),zAw hp];rfl
   ·rw [zB9 (p:=fun r=>decide (fl (ps.getD (fl r 1).toNat []) 1=s)) (by rw [decide_eq_true_eq];exact hp),zAv hp,Int.zero_add]
  rw [ah,ah,ah];show rs.foldl _ (cU [a,b,c] (fl (ps.getD (fl r 1).toNat []) 1) (fl r 3))=_;generalize fl (ps.getD (fl r 1).toNat []) 1=t at h0 h1;have:t=0\/t=1\/t=2:=by lia
  rcases this with rfl | rfl | rfl
  ·show rs.foldl _ [a+fl r 3,b,c]=_;rw [ih];simp only [if_true,Int.reduceEq,if_false,Int.zero_add,Int.add_assoc]
  ·show rs.foldl _ [a,b+fl r 3,c]=_;rw [ih];simp only [if_true,Int.reduceEq,if_false,Int.zero_add,Int.add_assoc]
  ·show rs.foldl _ [a,b,c+fl r 3]=_;rw [ih];simp only [if_true,Int.reduceEq,if_false,Int.zero_add,Int.add_assoc]
section
variable {c:List Int}{ps ss ow:List (List Int)}{y:Int}
theorem y_l:∀ n,(yTo c ps ss ow y n).l=(List.range n).map fun s=>(yTo c ps ss ow y (s+1)).d
 | 0=>rfl
 | n+1=>by
  show (yTo c ps ss ow y n).l++[(yTo c ps ss ow y (n+1)).d]=_;rw [y_l n,List.range_succ,zA4];rfl
theorem zz {s:Nat}(hs:s < 3):(yTo c ps ss ow y 3).l.getD s 0=(yTo c ps ss ow y (s+1)).d:=by
 rw [y_l 3]
 match s,hs with
 | 0,_=>rfl
 | 1,_=>rfl
 | 2,_=>rfl
theorem HQ (hc:∀ x∈c,0<=x)(hu:un ps ss=none)(h5:∀ s∈ss,s.length=5)(okp:∀ r∈ps,okP r)(hl:ps.length<=10)(ho:∀ r∈ow,okO ps r){s:Nat}(hs:s < 3):¬ (0 < aM (au ps (yTo c ps ss ow y 3).k s)/\0 < (yTo c ps ss ow y 3).l.getD s 0):=by
 rw [vd 3,zAw hs,zz hs];obtain ⟨e1,e2⟩:=yW (y:=y) hc hu h5 okp hl ho s;rw [e1,e2];lia
def csum (c:List Int):Nat->Int
 | 0=>0
 | n+1=>csum c n+c.getD n 0
theorem CG:∀ n,aM (yTo c ps ss ow y n).g+(yTo c ps ss ow y n).d=csum c n
 | 0=>rfl
 | n+1=>by
  have ih:=CG n;show aM ((yTo c ps ss ow y n).g++cW _)+(c.getD n 0+(yTo c ps ss ow y n).d - aM (cW _))=csum c n+c.getD n 0;rw [eO];lia
end
theorem Bw {cs ps ss:List (List Int)}(B:BkO cs ps ss)(m:Nat){s:Nat}(hs:s < 3):¬ (0 < (hs3 ps (cN cs ps ss (m+1))).getD s 0/\0 < (dN cs ps ss m).l.getD s 0):=by
 have e:hs3 ps (cN cs ps ss (m+1))=_:=zy _ 0 0 0 (zf B (m+1));have h:=HQ (y:=(m:Int)) (v9 B.okc m) B.hu B.h5 B.okp B.hl (jn (cs:=cs) B.hl B.hu B.h5 B.okp m).1 hs;have p:∀ s:Int,aM (au ps (cN cs ps ss (m+1)) s)=aM (au ps (yTo (cs.getD m []) ps ss (cN cs ps ss m) m 3).k s):=fun s=>mz ((dG _).filter _);rw [e,p,p,p,Int.zero_add,Int.zero_add,Int.zero_add]
 match s,hs with
 | 0,_=>exact h
 | 1,_=>exact h
 | 2,_=>exact h
theorem uc {cs ps ss:List (List Int)}(B:BkO cs ps ss){m:Nat}(hm:m < cs.length):(cs.getD m []).sum=aM (srt (dN cs ps ss m).g)+(dN cs ps ss m).l.getD 2 0:=by
 have e:=CG (c:=cs.getD m []) (ps:=ps) (ss:=ss) (ow:=cN cs ps ss m) (y:=m) 3;rw [mz (dG _)];have e2:(dN cs ps ss m).l.getD 2 0=(yTo (cs.getD m []) ps ss (cN cs ps ss m) m 3).d:=zz (by decide);have l3:(cs.getD m []).length=3:=by rw [getD_get hm];exact (B.okc _ (zAh hm)).1
 rw [e2];show (cs.getD m []).sum=aM (yTo (cs.getD m []) ps ss (cN cs ps ss m) m 3).g+_;rw [e];generalize cs.getD m []=c at l3
 match c,l3 with
 | [a,b,d],_ =>
  show a+(b+(d+0))=0+a+b+d;lia
structure GvAt (H:Hp)(d:Addr)(R:List (List Int))(kvs:List (List Key×V)):Prop where
 e:H d=some (.dT kvs)
 v:∀ k:List Int,(cF kvs (k.map Sum.inl)).getD (.int 0)=.int (sF (isK k) R)
 k:∀ q∈kvs.map (·.1),∃ r∈R,q=(keyOf r).map Sum.inl
 l:kvs.length<=R.length
theorem Bx {a b:List Int}(h:a.map (Sum.inl:Int->Key)=b.map Sum.inl):a=b:=List.map_inj_right (fun _ _ e=>Sum.inl.inj e) |>.mp h
theorem oW {kvs:List (List Key×V)}{k:List Key}{v:V}:(∀ q∈(putK kvs k v).map (·.1),q∈kvs.map (·.1)\/q=k)/\(putK kvs k v).length<=kvs.length+1:=by
 unfold putK;split
 ·constructor
  ·intro q hq;rw [zAr] at hq;obtain ⟨p,hp,rfl⟩:=zA5.mp hq;refine .inl (zA5.mpr ⟨p,hp,?_⟩);show p.1=(if p.1=k then (p.1,v) else p).1;split <;> rfl
  ·rw [zA1];lia
 ·constructor
  ·intro q hq;rw [zA4] at hq;rcases zA6.mp hq with z | z
   ·exact .inl z
   ·exact .inr (List.mem_singleton.mp z)
  ·rw [zA2];exact zA3 _
theorem GvAt.put {H:Hp}{d:Addr}{R:List (List Int)}{kvs:List (List Key×V)}{r:List Int}(g:GvAt H d R kvs):GvAt (upd H d (.dT (putK kvs ((keyOf r).map Sum.inl) (.int (sF (isK (keyOf r)) R+fl r 3))))) d (R++[r]) (putK kvs ((keyOf r).map Sum.inl) (.int (sF (isK (keyOf r)) R+fl r 3))):=by
 refine ⟨aa,fun k=>?_,fun q hq=>?_,?_⟩
 ·rw [fQ,dW];have e1:sF (isK k) [r]=(if isK k (keyOf r)=true then fl r 3 else 0)+0:=dZ r [];by_cases h:k=keyOf r
  ·subst h;rw [zAw rfl,e1,zAw (show isK (keyOf r) (keyOf r)=true from zAt rfl),Int.add_zero];rfl
  ·rw [zAv fun z=>h (Bx z),g.v,e1,zAv (show ¬ isK k (keyOf r)=true from fun z=>h (zB3 z).symm),Int.add_zero,Int.add_zero]
 ·rcases oW.1 q hq with z | z
  ·obtain ⟨r',fA,e⟩:=g.k _ z;exact ⟨r',List.mem_append_left _ fA,e⟩
  ·exact ⟨r,by simp,z⟩
 ·have:=(oW (kvs:=kvs) (k:=(keyOf r).map Sum.inl) (v:=V.int (sF (isK (keyOf r)) R+fl r 3))).2;have:=g.l;rw [zA2,List.length_singleton];lia
def CJ:List (List Int)->List (List Int)->List (List Int)->Int->VK->Hp->Prop:=fun cs ps ss y Q H=>∀ tl H',Same H H'->H' tl=some (.tup ((dN cs ps ss y.toNat).l.map V.int))->Q (.ref tl) H'
theorem scYE:FnScope ["book","year","gifts","owed","left"] ["book","year"] (aJ (top 53)):=fS
theorem By (F:Fun K "left_in" "left_in" (top 53) f fd)(c1:Cal P w K mg base 8 "refuse_no_year" ["book","year"] (jq yM))(c2:Cal P w K mg base 10 "years_given" ["book","year"] jo):FnOk P w K mg base CX0 11 f fd ["book","year"] (jq CJ):=by
 refine F.ok scYE (fun vs H Q E h=>?_) (fun ai A outer s H vs Q E hr h=>?_)
 ·obtain ⟨S,bk,y,d,ac,xc,cs,ap,xp,ps,ae,xs,ss,rfl,_⟩:=h;rfl
 ·obtain ⟨S,bk,y,d,ac,xc,cs,ap,xp,ps,ae,xs,ss,rfl,th,hz,hb,B,y0,y1,q⟩:=h
  refine ⟨_,aA (dH (aH c1 hr (aq (pv 0) (aq (pv 1) ao))))
   (aA (bN (pX bB (aH c2 hr (aq (pv 0) (aq (pv 1) ao))) (pv 1)) (bz rfl (aj (pgn 2 scYE.nd) (aj (pgn 3 scYE.nd) (aj (pgn 4 scYE.nd) aR)))))
   (aG (aQ (pv 4)))),?_⟩
  refine aF ?_;refine ⟨_,rfl,_,rfl,S,bk,y,d,ac,xc,cs,ap,xp,ps,ae,xs,ss,rfl,th,hz,hb,B,y0,y1,fun H1 s1=>?_⟩;dsimp only;have B1:=B.same s1;refine aF ?_;refine ⟨_,rfl,_,rfl,bk,y,ac,xc,cs,ap,xp,ps,ae,xs,ss,rfl,B1.e,B1.rc,B1.okc,B1.lc,y0,y1,B1.rp,B1.lp,B1.okp,B1.rs,B1.ls,B1.h5,B1.un,fun l ts H2 s2 nl el lt hy=>?_⟩;have hl:y.toNat < ts.length:=by lia
  obtain ⟨g,k,tl,xg,xk,e1,n1,n2,d1,d2,e2,e3,e4,e5,e6⟩:=hy y.toNat ts[y.toNat] (zA0 hl)
  have dv:atI (ts.map V.ref) y=some (.ref ts[y.toNat]):=by
   have:(ts.map V.ref)[y.toNat]?=some (.ref ts[y.toNat]):=by rw [zAb,zA0 hl];rfl
   have:=cu this;rw [show ((y.toNat:Nat):Int)=y by lia] at this;exact this
  refine ⟨_,rfl,l,_,y,.ref ts[y.toNat],rfl,rfl,SqL.of el,dv,ts[y.toNat],_,rfl,SqT.of e1,rfl,_,_,rfl,_,_,rfl,_,_,rfl,rfl,?_⟩;dsimp only;exact ⟨_,rfl,q tl H2 (s1.trans s2) e6.1⟩
inductive SpRowsI (vs:List V)(H:Hp)(Q:VK):Prop
 | mk:∀ ap xp ps ae xs ss,(vs=[.ref ap,.ref ae])->(RowsAt H ap xp ps)->(ps.length<=10)->((∀ r∈ps,okP r))->(RowsAt H ae xs ss)->(ss.length<=100)->((∀ s∈ss,s.length=5))->(∀ t fo H',Same H H'->H' t=some (.tup [.ref fo,unV (un ps ss)])->(un ps ss=none->∃ kvs,Lts fo H H' (dom ps) (hl ps ss) kvs)->Q (.ref t) H')->SpRowsI  vs H Q
def spRows:Sp:=fun vs H Q _=>SpRowsI  vs H Q
def zB (p:List Int):List Int:=(List.range 8).map fun i=>fl p 4 * (if ((i:Nat):Int)=fl p 0 then 1 else 0)
theorem BJ {ps:List (List Int)}{n y:Int}(op:okP (ps.getD n.toNat []))(hy:fl (ps.getD n.toNat []) 2<=y/\y<=fl (ps.getD n.toNat []) 3):hl ps [] n y=zB (ps.getD n.toNat []):=by
 unfold hl bI;rw [zAw hy];show base0 (ps.getD n.toNat [])=zB _;generalize ps.getD n.toNat []=p at op;obtain ⟨_,⟨a,b⟩,_⟩:=op;unfold base0 zB
 obtain ⟨h,eh⟩:∃ h:Nat,fl p 0=h:=⟨(fl p 0).toNat,by lia⟩
 rw [eh,zAi];have hb:h < 8:=by lia
 generalize fl p 4=k;have:h=0\/h=1\/h=2\/h=3\/h=4\/h=5\/h=6\/h=7:=by lia
 rcases this with rfl | rfl | rfl | rfl | rfl | rfl | rfl | rfl <;> simp [List.range_succ,List.replicate]
theorem qG (ps ss:List (List Int))(n y:Int):(hl ps ss n y).length=8:=eG _ _ _ _
theorem BK {ps ss:List (List Int)}{s:List Int}{n y:Int}(hd:dom ps n y):hl ps (ss++[s]) n y=hstep n y (hl ps ss n y) s:=by
 unfold hl bI;rw [zAw hd.2.2,zAw hd.2.2,List.foldl_append];rfl
theorem holds_iff {ps sa:List (List Int)}{s:List Int}{n a b k y:Int}(ea:fl s 0=n)(eb:fl s 1=a)(ec:fl s 2=b)(ed:fl s 3=k)(ee:fl s 4=y):bY ps sa s=true↔(dom ps n y/\(0<=a/\a < 8)/\(0<=b/\b < 8)/\a≠b/\(1<=k/\k<=99))/\∀ z,dom ps n z->y<=z->k<=(hl ps sa n z).getD a.toNat 0:=by
 have em:∀ {u v z:Int},z∈years u v↔u<=z/\z<=v:=fun {u v z}=>by
  unfold years;rw [zA5];constructor
  ·rintro ⟨i,hi,rfl⟩;have:=List.mem_range.mp hi;lia
  ·rintro ⟨h1,h2⟩;exact ⟨(z - u).toNat,List.mem_range.mpr (by lia),by lia⟩
 unfold bY rN qm;rw [ea,eb,ec,ed,ee];simp only [Bool.and_eq_true,decide_eq_true_eq,Bool.not_eq_true',decide_eq_false_iff_not,List.all_eq_true];unfold dom;constructor
 ·rintro ⟨⟨h1,h2,h3,h4,h5,h6⟩,h7⟩;exact ⟨⟨⟨h1.1,h1.2,h6.1,h6.2⟩,h2,h3,h4,h5⟩,fun z hz hy=>h7 z (em.mpr ⟨hy,hz.2.2.2⟩)⟩
 ·rintro ⟨⟨h1,h2,h3,h4,h5⟩,h7⟩
  exact ⟨⟨⟨h1.1,h1.2.1⟩,h2,h3,h4,h5,h1.2.2⟩,fun z hz=>by
   obtain ⟨q1,q2⟩:=em.mp hz
   exact h7 z ⟨h1.1,h1.2.1,by lia,q2⟩ q1⟩
def yk (n y:Int)(p:List Key×V):Option Int:=match p.1 with
 | [.inl n',.inl z]=>if n'=n/\y<=z then some z else none
 | _=>none
theorem oX:bootBuiltins "min" = some (.builtin "min"):=by decide +kernel
theorem wO:bootBuiltins "max" = some (.builtin "max"):=by decide +kernel
theorem HR:(["_law_one","_law_sacks","_law_holder"]:List Str).Nodup:=by decide +kernel
theorem GD:(["_law_number_of","_law_one","_law_number","_law_year"]:List Str).Nodup:=by decide +kernel
theorem HS:(["_law_one","_law_rows_here","_law_number","_law_seller"]:List Str).Nodup:=by decide +kernel
theorem scX:FnScope ["_law_promises","_law_sales","_law_rows_here","_law_number","_law_holder","_law_sort","_law_first","_law_last","_law_sacks","_law_price","_law_year","_law_at","_law_seller","_law_buyer","_law_years","_law_least","_law_one"] ["_law_promises","_law_sales"] (aJ (top 65)):=fS
theorem BL (F:Fun K "_law_rows" "_law_rows" (top 65) f fd)(T:Mg mg)(Te:mg "enumerate" = none)(Tr:mg "range" = none)(Tn:mg "min" = none)(Tm:mg "max" = none):FnOk P w K mg base CX0 1 f fd ["_law_promises","_law_sales"] spRows:=by
 refine F.ok scX (fun vs H Q E h=>?_) (fun ai A outer s H vs Q E hr h=>?_)
 ·obtain ⟨ap,xp,ps,ae,xs,ss,rfl,_⟩:=h;rfl
 ·obtain ⟨ap,xp,ps,ae,xs,ss,rfl,rp,lp,okp,rs,ls,h5,q⟩:=h
  refine K90P.ok_b (aN (pZ (i:=2) scX.nd rfl (Or.inr rfl) ⟨qZ⟩)
   (aN ⟨bV zB5 rfl (pi_enum rfl Te (aq (pv 0) ao)) (bz rfl (aj (aY (i:=3) scX.nd rfl (Or.inr rfl)) (aj (bz rfl (aj (aY (i:=4) scX.nd rfl (Or.inr rfl)) (aj (pgn 5 scX.nd) (aj (pgn 6 scX.nd)
     (aj (pgn 7 scX.nd) (aj (aY (i:=8) scX.nd rfl (Or.inr rfl)) (aj (pgn 9 scX.nd) aR))))))) aR)))
    (j6 (cD ⟨bV zB5 rfl (nC rfl Tr (aq (pv 6) (aq (aV bG (pv 7) aB) ao))) (aY (i:=10) scX.nd rfl (Or.inr rfl))
     (j6 (cD ⟨uz (fP hr) (pv 2) (bA (aq (pv 3) (aq (pv 10) ao))) (bH ["_law_one","_law_sacks","_law_holder"] [none,some 8,some 4] rfl (cA rfl Tr (aq aB ao)) (fun C fp pins s₂ H₂=>⟨pgn 0 HR,bL,aV gJ (pv 1) (cZ vC rfl T.int boot_int (aq (iW jW (pv 0) (pv 2) (bj _)) ao))⟩) (fun C=>cI (cI trivial)) ⟨rfl,rfl,rfl,rfl⟩) rfl⟩))⟩))⟩
   (aN ⟨bV zB5 rfl (pi_enum rfl Te (aq (pv 1) ao)) (bz rfl (aj (pgn 11 scX.nd) (aj (bz rfl (aj (aY (i:=3) scX.nd rfl (Or.inr rfl)) (aj (aY (i:=12) scX.nd rfl (Or.inr rfl)) (aj (pgn 13 scX.nd)
     (aj (aY (i:=8) scX.nd rfl (Or.inr rfl)) (aj (aY (i:=10) scX.nd rfl (Or.inr rfl)) aR)))))) aR)))
    (j6 (aN ⟨cB (PW.pt (qK (aZ jW (pv 12) (pv 13) (bj _)) (qK (aZ iU (aO (fM rfl) rfl Tn oX (aq (pv 12) (aq (pv 13) ao))) aB (bj _)) (qK (aZ iV (aO (il rfl) rfl Tm wO (aq (pv 12) (aq (pv 13) ao))) aB (bj _)) (sJ (CZ (vO (fP hr) (bA (aq (pv 3) (aq (pv 10) ao))) (pv 2)))))))) (aG (aQ (bA (aq (pv 2) (aq (pv 11) ao))))) bh⟩
    (aN ⟨yd (ir (i:=14) (g:=jL K 2 (bQ (bF 0) (bQ (bF 1) jU))) ["_law_number_of","_law_one","_law_number","_law_year"] [none,none,some 3,some 10] rfl scX.nd rfl (Or.inl rfl) (uN (pv 2)) (fun C fp pins s₂ H₂=>⟨dI rfl rfl (aj (pgn 0 GD) (aj (pgn 1 GD) aR)),gf (PW.pt (sO (aZ jW (pv 0) (pv 2) (bj _)) (pq (aZ BW (pv 1) (pv 3) (bj _))))),pv 1⟩) (fun C=>cI (cI trivial)) ⟨rfl,rfl,rfl,rfl⟩)⟩
    (aN (lA 15 scX.nd ⟨aO (mW rfl) rfl Tn oX (aP (bH ["_law_one","_law_rows_here","_law_number","_law_seller"] [none,some 2,some 3,some 12] rfl (cC (pv 14)) (fun C fp pins s₂ H₂=>⟨pgn 0 HS,bL,pX (lM (K:=K) rfl) (fB (fP hr) (pv 1) (bA (aq (pv 2) (aq (pv 0) ao))) (fun _ _=>rfl)) (pv 3)⟩) (fun C=>cI (cI (cI trivial))) ⟨rfl,rfl,rfl,rfl⟩) ao)⟩)
    (aN ⟨cB (PW.pt (qK (dq (jX cj cj aB (pv 8) aB)) (sJ (aZ iU (pv 15) (pv 8) (bj _))))) (aG (aQ (bA (aq (pv 2) (aq (pv 11) ao))))) bh⟩
    (cD ⟨bV zB5 rfl (cC (pv 14)) (pgn 16 scX.nd)
     (j6 (aN ⟨bN (aV gH (pX bB (fB (fP hr) (pv 2) (bA (aq (pv 3) (aq (pv 16) ao))) (fun _ _=>rfl)) (pv 12)) (pv 8)) (iz (fB (fP hr) (pv 2) (bA (aq (pv 3) (aq (pv 16) ao))) (fun _ _=>rfl)) (pv 12) set_list)⟩
     (cD ⟨bN (aV bG (pX bB (fB (fP hr) (pv 2) (bA (aq (pv 3) (aq (pv 16) ao))) (fun _ _=>rfl)) (pv 13)) (pv 8)) (iz (fB (fP hr) (pv 2) (bA (aq (pv 3) (aq (pv 16) ao))) (fun _ _=>rfl)) (pv 13) set_list)⟩)))⟩))))))⟩
   (cD (tE ⟨bA (aq (pv 2) (aq p8 ao))⟩))))) ?_
  refine aF (aW ?_);refine fun fo Je=>?_;refine aK ?_;dsimp only
  have d0:Lts fo H (upd H fo (.dT [])) (fun _ _=>False) (hl ps []) []:=⟨Same.upd Je,Je,aa,fun _ _ z=>z.elim,fun _ _ _=>rfl,fun _ _ _ _ _ z=>(by cases z),fun _ _ _ z=>(by cases z),List.nodup_nil,fun k hk=>(by cases hk)⟩
  generalize upd H fo (.dT [])=H1 at d0 ⊢;refine aF ?_;refine ⟨_,rfl,ap,xp,rfl,SqT.of (d0.sm _ _ rp.e),?_⟩;refine j8 (xs:=xp) (fun i σ Hc=>∃ x3 x4 x5 x6 x7 x8 x9 bX eW cx fe ff fg gp kvs,σ=[some (.ref ap),some (.ref ae),some (.ref fo),x3,x4,x5,x6,x7,x8,x9,bX,eW,cx,fe,ff,fg,gp]/\Lts fo H Hc (fun n y=>dom ps n y/\n < i) (hl ps []) kvs/\kvs.length<=20 * i) ?_ ?_ ?_ ?_
  ·exact ⟨none,none,none,none,none,none,none,none,none,none,none,none,none,none,[],rfl,⟨d0.sm,d0.nf,d0.e,fun n y z=>by
    have:=z.1.1;have:=z.2
    lia,fun n y _=>rfl,d0.i,d0.fr,d0.kd,fun k hk=>(by cases hk)⟩,zA3 _⟩
  ·rintro i σ Hc hi ⟨x3,x4,x5,x6,x7,x8,x9,bX,eW,cx,fe,ff,fg,gp,kvs,rfl,dt,lk⟩;exact SqT.of (dt.sm _ _ rp.e)
  ·rintro i x σ Hc T0 hx ⟨x3,x4,x5,x6,x7,x8,x9,bX,eW,cx,fe,ff,fg,gp,kvs,rfl,dt,lk⟩ nT
   have hi:i < ps.length:=by
    have:=(zAa.mp hx).1;rw [rp.l] at this;exact this
   obtain ⟨tr,cy,bq⟩:=rp.g i ps[i] (zA0 hi)
   have:x=.ref tr:=by
    rw [hx] at cy;exact zAl cy
   subst this;have op:=okp ps[i] (zAh hi)
   have ep:ps.getD ((i:Int)).toNat []=ps[i]:=by
    rw [zAi];exact getD_get hi
   have dT:=dt.same (Same.upd (o:=.tup [V.int i,V.ref tr]) nT);generalize Qa:ps[i]=p at bq op ep;have gu:=dT.sm _ _ bq;rw [six_row op.1] at gu;have LM:=op;obtain ⟨_,⟨a1,a2⟩,_,⟨c1,c2,c3⟩,⟨e1,e2⟩,_⟩:=op;refine ⟨T0,_,rfl,SqT.of aa,rfl,_,_,rfl,_,_,rfl,?_⟩;refine ⟨tr,_,rfl,SqT.of gu,rfl,_,_,rfl,_,_,rfl,_,_,rfl,_,_,rfl,_,_,rfl,_,_,rfl,rfl,rfl,?_⟩;refine rO fun De ku=>?_;refine ⟨_,rfl,_,rfl,_,_,rfl,rfl,fl p 2,fl p 3+1,rfl,⟨by lia,by lia,by lia,by lia⟩,?_⟩;generalize upd Hc T0 (.tup [V.int i,V.ref tr])=H2 at dT ⊢;refine cY (lo:=fl p 2) (n:=(fl p 3+1 - fl p 2).toNat) (fun j σ Hj=>∃ bX kvs,σ=[some (.ref ap),some (.ref ae),some (.ref fo),some (.int i),some (.int (fl p 0)),some (.int (fl p 1)),some (.int (fl p 2)),some (.int (fl p 3)),some (.int (fl p 4)),some (.int (fl p 5)),bX,eW,cx,fe,ff,fg,gp]/\Lts fo H Hj (fun n y=>dom ps n y/\(n < i\/(n=i/\y < fl p 2+j))) (hl ps []) kvs/\kvs.length<=20 * i+j) ?_ ?_ ?_
   ·refine ⟨bX,kvs,rfl,⟨dT.sm,dT.nf,dT.e,fun n y z=>dT.g n y ⟨z.1,?_⟩,fun n y z=>dT.no n y fun z'=>z ⟨z'.1,.inl z'.2⟩,dT.i,dT.fr,dT.kd,fun k hk=>?_⟩,lk⟩
    ·rcases z.2 with z2 | ⟨z2,z3⟩
     ·exact z2
     ·obtain ⟨_,_,w1,_⟩:=z.1;rw [z2,ep] at w1;lia
    ·obtain ⟨n,y,a,b⟩:=dT.kk k hk;exact ⟨n,y,a,b.1,.inl b.2⟩
   ·rintro j σ Hj hj ⟨bX,kvs,rfl,dj,lj⟩;refine aK ?_;refine rO fun Qb pd=>?_;refine ⟨8,rfl,by decide,by decide,cJ 8 (fun i ys σ Hc=>Hc=Hj/\(∃ o1,σ=[o1,some (.int (fl p 4)),some (.int (fl p 0))])/\ys=(((List.range i).map fun i=>fl p 4 * (if ((i:Nat):Int)=fl p 0 then 1 else 0)):List Int).map V.int) ⟨rfl,⟨_,rfl⟩,rfl⟩ (by rw [sizeLine_eq];decide) ?_ ?_⟩
    ·rintro i' ys σ Hc fw hy ⟨rfl,⟨o1,rfl⟩,rfl⟩;refine ⟨fw,fun v H' y' R hR=>?_⟩;obtain ⟨rfl,rfl⟩:=y';refine aK ?_;have z0:(0:Int)+(i':Int)=i':=by lia
     rw [z0];refine ⟨_,rfl,_,rfl,_,rfl,rfl,.inr ⟨_,rfl,_,_,rfl,rfl,.inl ⟨by lia,by lia⟩,hR _ _ _ ⟨rfl,⟨_,rfl⟩,?_⟩⟩⟩;rw [List.range_succ,zA4,zA4];congr 1;show [V.int _]=[V.int _];congr 2;dsimp only;by_cases hh:(i':Int)=fl p 0
     ·rw [zAw hh,zAt (by rw [hh])];rfl
     ·rw [zAv hh,zB2 (fun z=>hh (by injection z))];rfl
    rintro ys σ Hc hy ⟨rfl,_,rfl⟩;refine ⟨zA3 _,fun d hd=>?_⟩;have ud:=Same.upd (o:=.lst ((zB p).map V.int)) hd;have ed:=aa (H:=Hc) (a:=d) (o:=.lst ((zB p).map V.int));refine ⟨_,rfl,_,rfl,_,rfl,zL,fun t ht=>⟨fo,_,rfl,DPut.t (k:=ky i (fl p 2+j)) (Same.upd ht _ _ (ud _ _ dj.e)) aa (by rw [sizeLine_eq];lia),?_⟩⟩;have u2:=ud.updR (o:=.tup [V.int i,V.int (fl p 2+j)]) ht
    refine pd _ _ ⟨_,_,rfl,dj.put u2 hd (Same.upd ht _ _ ed) (BJ (by rw [ep];exact LM) (by rw [ep];lia) |>.trans (by rw [ep])) (fun z=>by
     rcases z.2 with z2 | ⟨z2,z3⟩ <;> lia) (fun n y=>⟨fun z=>?_,fun z=>?_⟩),?_⟩
    ·rcases z.2 with z2 | ⟨z2,z3⟩
     ·exact .inl ⟨z.1,.inl z2⟩
     ·by_cases nB:y=fl p 2+j
      ·exact .inr ⟨z2,nB⟩
      ·exact .inl ⟨z.1,.inr ⟨z2,by lia⟩⟩
    ·rcases z with z | ⟨rfl,rfl⟩
     ·exact ⟨z.1,z.2.imp id fun w=>⟨w.1,by lia⟩⟩
     ·exact ⟨⟨by lia,by lia,by rw [ep];lia,by rw [ep];lia⟩,.inr ⟨rfl,by lia⟩⟩
    ·rw [kY _ (dj.no _ _ fun z=>by rcases z.2 with z2 | ⟨z2,z3⟩ <;> lia),zA2];show kvs.length+1<=20 * i+(j+1);lia
   ·rintro σ Hj ⟨bX,kvs,rfl,dj,lj⟩;refine ku _ _ ⟨_,_,_,_,_,_,_,_,_,_,_,_,_,_,kvs,rfl,⟨dj.sm,dj.nf,dj.e,fun n y z=>dj.g n y ⟨z.1,?_⟩,fun n y z=>dj.no n y fun z'=>z ⟨z'.1,?_⟩,dj.i,dj.fr,dj.kd,fun k hk=>?_⟩,by lia⟩
    ·by_cases hn:n < i
     ·exact .inl hn
     ·have Jf:n=i:=by lia
      refine .inr ⟨Jf,?_⟩;obtain ⟨_,_,_,w⟩:=z.1;rw [Jf,ep] at w;lia
    ·rcases z'.2 with w | ⟨w,_⟩ <;> lia
    ·obtain ⟨n,y,a,b⟩:=dj.kk k hk;refine ⟨n,y,a,b.1,?_⟩;rcases b.2 with w | ⟨w,_⟩ <;> lia
  rintro σ Hc ⟨x3,x4,x5,x6,x7,x8,x9,bX,eW,cx,fe,ff,fg,gp,kvs0,rfl,dt,lk⟩
  have EJ:Lts fo H Hc (dom ps) (hl ps []) kvs0:=⟨dt.sm,dt.nf,dt.e,fun n y z=>dt.g n y ⟨z,by rw [rp.l];exact z.2.1⟩,fun n y z=>dt.no n y fun w=>z w.1,dt.i,dt.fr,dt.kd,fun k hk=>by
   obtain ⟨n,y,a,b⟩:=dt.kk k hk
   exact ⟨n,y,a,b.1⟩⟩
  have Qd:kvs0.length<=200:=by
   rw [rp.l] at lk;lia
  clear dt lk d0;dsimp only;refine aF ?_;refine ⟨_,rfl,ae,xs,rfl,SqT.of (EJ.sm _ _ rs.e),?_⟩;refine j8 (xs:=xs) (fun i σ Hc=>∃ x3 x4 x5 x6 x7 x8 x9 bX eW cx fe ff fg gp,σ=[some (.ref ap),some (.ref ae),some (.ref fo),x3,x4,x5,x6,x7,x8,x9,bX,eW,cx,fe,ff,fg,gp]/\Lts fo H Hc (dom ps) (hl ps (ss.take i)) kvs0/\∀ j,j < i->bY ps (ss.take j) (ss.getD j [])=true) ?_ ?_ ?_ ?_
  ·exact ⟨_,_,_,_,_,_,_,_,_,_,_,_,_,_,rfl,by rw [List.take_zero];exact EJ,fun j hj=>(by lia)⟩
  ·rintro i σ Hc hi ⟨x3,x4,x5,x6,x7,x8,x9,bX,eW,cx,fe,ff,fg,gp,rfl,dt,hh⟩;exact SqT.of (dt.sm _ _ rs.e)
  ·clear EJ;rintro i x σ Hc T0 hx ⟨x3,x4,x5,x6,x7,x8,x9,bX,eW,cx,fe,ff,fg,gp,rfl,dt,hh⟩ nT
   have hi:i < ss.length:=by
    have:=(zAa.mp hx).1;rw [rs.l] at this;exact this
   obtain ⟨tr,cy,bq⟩:=rs.g i ss[i] (zA0 hi)
   have:x=.ref tr:=by
    rw [hx] at cy;exact zAl cy
   subst this;have eg:ss.getD i []=ss[i]:=getD_get hi
   have fh:ss.take (i+1)=ss.take i++[ss[i]]:=by
    rw [zAj,zA0 hi];rfl
   have l5:=h5 _ (zAh hi);have dT:=dt.same (Same.upd (o:=.tup [V.int i,V.ref tr]) nT);have gu:=dT.sm _ _ bq;generalize Ii:ss[i]=s at eg fh l5 gu;generalize LN:ss.take i=sa at dT fh;have hH:bY ps sa s=bY ps (ss.take i) (ss.getD i []):=by rw [LN,eg]
   obtain ⟨n,ea⟩:∃ n,fl s 0=n:=⟨_,rfl⟩
   obtain ⟨a,eb⟩:∃ n,fl s 1=n:=⟨_,rfl⟩
   obtain ⟨b,ec⟩:∃ n,fl s 2=n:=⟨_,rfl⟩
   obtain ⟨k,ed⟩:∃ n,fl s 3=n:=⟨_,rfl⟩
   obtain ⟨y,ee⟩:∃ n,fl s 4=n:=⟨_,rfl⟩
   have Jg:upd Hc T0 (.tup [V.int i,V.ref tr]) tr=some (.tup [.int n,.int a,.int b,.int k,.int y]):=by
    rw [gu,jk l5,ea,eb,ec,ed,ee];rfl
   refine ⟨T0,_,rfl,SqT.of aa,rfl,_,_,rfl,_,_,rfl,?_⟩;refine ⟨tr,_,rfl,SqT.of Jg,rfl,_,_,rfl,_,_,rfl,_,_,rfl,_,_,rfl,_,_,rfl,rfl,rfl,?_⟩;generalize upd Hc T0 (.tup [V.int i,V.ref tr])=H2 at dT ⊢;clear dt nT gu Jg bq
   have bad:∀ {Hd:Hp},Same H Hd->bY ps sa s=false->∀ t,Hd t=none->Q (.ref t) (upd Hd t (.tup [.ref fo,.int i])):=fun {Hd} sd hf t ht=>by
    have eu:un ps ss=some i:=uT hh hi (by rw [<- hH];exact hf);refine q t fo _ (sd.updR ht) (by rw [aa,eu];rfl) fun z=>?_;rw [eu] at z;cases z
   have Jh:=holds_iff (ps:=ps) (sa:=sa) ea eb ec ed ee
   have gx:¬ ((dom ps n y/\(0<=a/\a < 8)/\(0<=b/\b < 8)/\a≠b/\(1<=k/\k<=99))/\∀ z,dom ps n z->y<=z->k<=(hl ps sa n z).getD a.toNat 0)->bY ps sa s=false:=fun h=>by
    cases z:bY ps sa s with
    | false=>rfl
    | true=>exact absurd (Jh.mp z) h
   refine aF ?_;refine ⟨_,rfl,_,rfl,rfl,_,rfl,?_⟩;by_cases A7:a=b
   ·rw [zAt (by rw [A7])];exact bO (bO ⟨_,rfl,_,rfl,zL,fun t ht=>bad dT.sm (gx fun h=>h.1.2.2.2.1 A7) t ht⟩)
   rw [zB2 (fun z=>A7 (by injection z))];refine bD ⟨_,rfl,_,rfl,_,_,rfl,_,_,rfl,rfl,_,rfl,?_⟩;by_cases kx:(if b < a then b else a) < 0
   ·rw [zAt kx];refine bO (bO ⟨_,rfl,_,rfl,zL,fun t ht=>bad dT.sm (gx fun h=>?_) t ht⟩);have:=h.1.2.1;have:=h.1.2.2.1;split at kx <;> lia
   rw [zB2 kx];refine bD ⟨_,rfl,_,rfl,_,_,rfl,_,_,rfl,rfl,_,rfl,?_⟩;by_cases kB:(if b > a then b else a) > 7
   ·rw [zAt kB];refine bO (bO ⟨_,rfl,_,rfl,zL,fun t ht=>bad dT.sm (gx fun h=>?_) t ht⟩);have:=h.1.2.1;have:=h.1.2.2.1;split at kB <;> lia
   rw [zB2 kB];have ha:0<=a/\a < 8:=by split at kx <;> split at kB <;> lia
   have hb:0<=b/\b < 8:=by split at kx <;> split at kB <;> lia
   refine bD ⟨_,rfl,_,rfl,zL,fun tk ml=>?_⟩;have dK:=dT.same (Same.upd (o:=.tup [V.int n,V.int y]) ml);refine ⟨_,rfl,fo,_,rfl,DGet.t (k:=ky n y) dK.e aa,_,rfl,?_⟩;generalize upd H2 tk (.tup [V.int n,V.int y])=H3 at dK ⊢;by_cases hd:¬ dom ps n y
   ·rw [dK.no n y hd];exact bO ⟨_,rfl,_,rfl,zL,fun t ht=>bad dK.sm (gx fun h=>hd h.1.1) t ht⟩
   have hd:=Classical.not_not.mp hd;obtain ⟨d1,v1,_⟩:=dK.g n y hd;rw [v1];refine bD (du ?_);dsimp only;clear v1 dT ml;refine aF ?_;refine ⟨fo,kvs0,dK.e,fun ob=>?_⟩;have ez:=aa (H:=H3) (a:=fo) (o:=.frz ob (.dT kvs0))
   have kz:∀ b u,b≠fo->H3 b=some u->upd H3 fo (.frz ob (.dT kvs0)) b=some u:=fun b u n e=>by
    rw [aC n];exact e
   generalize upd H3 fo (.frz ob (.dT kvs0))=Hz at ez kz ⊢;refine ⟨_,rfl,fo,ob,_,rfl,ez,fc kvs0.length (fun j ys σ Hd=>Same Hz Hd/\(∃ o1 o2,σ=[o1,o2,some (.int n),some (.int y)])/\ys=((kvs0.take j).filterMap (yk n y)).map V.int) ⟨Same.refl _,⟨_,_,rfl⟩,rfl⟩ (by rw [sizeLine_eq];lia) ?_ ?_⟩
   ·rintro j ys σ Hd hj hy ⟨sd,⟨o1,o2,rfl⟩,rfl⟩;refine ⟨⟨sd _ _ ez,hj⟩,fun x H' yv R hR=>?_⟩;obtain ⟨rfl,bb,kk,vv,rfl,Ji,EK⟩:=yv;obtain ⟨n',z',rfl,rh⟩:=dK.kk kk (zA5.mpr ⟨(kk,vv),zB6 Ji,rfl⟩);have EK:H' bb=some (.tup [.int n',.int z']):=EK
    have EM:(kvs0.take (j+1)).filterMap (yk n y)=(kvs0.take j).filterMap (yk n y)++(if n'=n/\y<=z' then [z'] else []):=by
     rw [zAj,Ji,List.filterMap_append];congr 1;have e0:yk n y (ky n' z',vv)=if n'=n/\y<=z' then some z' else none:=rfl;show [(ky n' z',vv)].filterMap (yk n y)=_;rw [List.filterMap_cons,e0];by_cases hc:n'=n/\y<=z'
     ·rw [zAw hc,zAw hc];rfl
     ·rw [zAv hc,zAv hc];rfl
    refine ⟨bb,_,rfl,SqT.of EK,rfl,_,_,rfl,_,_,rfl,rfl,?_⟩;refine ⟨_,rfl,_,rfl,rfl,_,rfl,?_⟩;by_cases h1:n'=n
    ·rw [zAt (by rw [h1])];refine bO ⟨_,rfl,_,rfl,_,_,rfl,rfl,_,rfl,?_⟩;by_cases h2:z' ≥ y
     ·rw [zAt h2];refine bO ⟨_,rfl,hR _ _ _ (by rw [zA2];show _+1<=j+1;lia) ⟨sd,⟨_,_,rfl⟩,?_⟩⟩;rw [EM,zAw ⟨h1,h2⟩,zA4];rfl
     ·rw [zB2 h2];refine bD (hR _ _ _ (by lia) ⟨sd,⟨_,_,rfl⟩,?_⟩);rw [EM,zAv (fun w=>h2 w.2),zAn]
    ·rw [zB2 (fun z=>h1 (by injection z))];refine bD (bD (hR _ _ _ (by lia) ⟨sd,⟨_,_,rfl⟩,?_⟩));rw [EM,zAv (fun w=>h1 w.1),zAn]
   rintro ys σ Hd hy ⟨sd,_,rfl⟩;rw [zAm];refine ⟨⟨sd _ _ ez,zA3 _⟩,fun Ly md=>⟨Same.upd md _ _ (sd _ _ ez),?_⟩⟩
   obtain ⟨zs,zk⟩:∃ zs,zs=kvs0.filterMap (yk n y):=⟨_,rfl⟩
   have rj:∀ z,z∈zs↔dom ps n z/\y<=z:=fun z=>by
    rw [zk,List.mem_filterMap];constructor
    ·rintro ⟨⟨kk,vv⟩,hp,e⟩;obtain ⟨n',z',rfl,rh⟩:=dK.kk kk (zA5.mpr ⟨_,hp,rfl⟩);have e:(if n'=n/\y<=z' then some z' else none)=some z:=e;by_cases hc:n'=n/\y<=z'
     ·rw [zAw hc] at e;cases e;obtain ⟨rfl,h2⟩:=hc;exact ⟨rh,h2⟩
     ·rw [zAv hc] at e;cases e
    ·rintro ⟨h1,h2⟩;obtain ⟨d,v,_⟩:=dK.g n z h1
     have:(ky n z)∈kvs0.map (·.1):=by
      have hs:(cF kvs0 (ky n z)).isSome=true:=by rw [v];rfl
      rw [<- dJ,List.any_eq_true] at hs;obtain ⟨p,hp,e⟩:=hs;exact zA5.mpr ⟨p,hp,zB3 e⟩
     obtain ⟨p,hp,e⟩:=zA5.mp this;refine ⟨p,hp,?_⟩;unfold yk;rw [show p.1=ky n z from e];show (if n=n/\y<=z then some z else none)=some z;rw [zAw ⟨rfl,h2⟩]
   have EI:zs.Nodup:=by
    rw [zk]
    have:∀ {l:List (List Key×V)},(l.map (·.1)).Nodup->(∀ k∈l.map (·.1),∃ n y,k=ky n y)->(l.filterMap (yk n y)).Nodup:=fun {l}=>by
     induction l with
     | nil=>exact fun _ _=>List.nodup_nil
     | cons p l ih =>
      intro nd kk;rw [zAk,List.nodup_cons] at nd
      have i1:=ih nd.2 fun k hk=>kk k (zA5.mpr (by
       obtain ⟨q,hq,e⟩:=zA5.mp hk
       exact ⟨q,.tail _ hq,e⟩))
      rw [List.filterMap_cons];obtain ⟨n',z',e'⟩:=kk p.1 (zA5.mpr ⟨p,.head _,rfl⟩)
      cases e:yk n y p with
      | none=>exact i1
      | some z =>
       refine List.nodup_cons.mpr ⟨fun hm=>?_,i1⟩;obtain ⟨q,hq,eq⟩:=List.mem_filterMap.mp hm;obtain ⟨n2,z2,e2⟩:=kk q.1 (zA5.mpr ⟨q,.tail _ hq,rfl⟩)
       have key:∀ {r:List Key×V} {n3 z3 z:Int},r.1=ky n3 z3->yk n y r=some z->n3=n/\z3=z:=fun {r n3 z3 z} h1 h2=>by
        unfold yk at h2;rw [h1] at h2;have h2:(if n3=n/\y<=z3 then some z3 else none)=some z:=h2;by_cases hc:n3=n/\y<=z3
        ·rw [zAw hc] at h2;cases h2;exact ⟨hc.1,rfl⟩
        ·rw [zAv hc] at h2;cases h2
       obtain ⟨w1,w2⟩:=key e' e;obtain ⟨w3,w4⟩:=key e2 eq;exact nd.1 (zA5.mpr ⟨q,hq,by show q.1=p.1;rw [e',e2,w1,w2,w3,w4]⟩)
    exact this dK.kd fun k hk=>by
     obtain ⟨n,y,a,_⟩:=dK.kk k hk;exact ⟨n,y,a⟩
   have Qe:zs.length<=200:=by
    rw [zk];have:=List.length_filterMap_le (yk n y) kvs0;lia
   rw [<- zk]
   have nD:Ly≠fo:=fun z=>by rw [z,sd _ _ ez] at md;cases md
   have S6:Same H3 (upd (upd Hd Ly (.lst (zs.map V.int))) fo (.dT kvs0)):=fun b u e=>by
    by_cases tF:b=fo
    ·subst tF;rw [dK.e] at e;cases e;exact aa
    ·rw [aC tF];exact Same.upd md _ _ (sd _ _ (kz _ _ tF e))
   have rk:upd (upd Hd Ly (.lst (zs.map V.int))) fo (.dT kvs0) Ly=some (.lst (zs.map V.int)):=by rw [aC nD];exact aa
   have d6:=dK.same S6
   have LO:H Ly=none:=by
    cases z:H Ly with
    | none=>rfl
    | some o =>
     by_cases tF:Ly=fo
     ·exact absurd tF nD
     ·rw [sd _ _ (kz _ _ tF (dK.sm _ _ z))] at md;cases md
   have EN:∀ m z d,cF kvs0 (ky m z)=some (.ref d)->d≠Ly:=fun m z d hv w=>by
    by_cases hm:dom ps m z
    ·obtain ⟨d',q1,q2⟩:=dK.g m z hm;rw [hv] at q1;cases q1;rw [w] at q2;rw [sd _ _ (kz _ _ nD q2)] at md;cases md
    ·rw [dK.no m z hm] at hv;cases hv
   generalize upd (upd Hd Ly (.lst (zs.map V.int))) fo (.dT kvs0)=H6 at S6 rk d6 ⊢;clear S6 dK md sd ez kz hy zk;dsimp only;refine aF (aW ?_);refine ⟨_,rfl,Ly,rfl,⟨_,SqL.of rk⟩,cJ zs.length (fun j ys σ Hc=>Same H6 Hc/\(∃ o1,σ=[o1,some (.ref fo),some (.int n),some (.int a)])/\ys=(((zs.take j).map fun z=>(hl ps sa n z).getD a.toNat 0):List Int).map V.int) ⟨Same.refl _,⟨_,rfl⟩,rfl⟩ (by rw [sizeLine_eq];lia) ?_ ?_⟩
   ·rintro j ys σ Hc hj hy ⟨sc,⟨o1,rfl⟩,rfl⟩;have ex:(zs.map V.int)[j]?=some (.int zs[j]):=by rw [zAb,zA0 hj];rfl
    refine ⟨⟨_,_,SqL.of (sc _ _ rk),ex⟩,fun v H' y' R hR=>?_⟩;obtain ⟨rfl,y'⟩:=y';have hv:=y' _ (SqL.of (sc _ _ rk));rw [ex] at hv;cases hv;refine aK ?_;obtain ⟨rh,_⟩:=(rj zs[j]).mp (zAh hj);obtain ⟨d,v1,v2⟩:=(d6.same sc).g n zs[j] rh;refine ⟨_,rfl,_,rfl,_,rfl,zL,fun tk ml=>?_⟩;have u:=Same.upd (o:=.tup [V.int n,V.int zs[j]]) ml
    have dv:atI ((hl ps sa n zs[j]).map V.int) a=some (.int ((hl ps sa n zs[j]).getD a.toNat 0)):=by
     have Iz:=qG ps sa n zs[j]
     have:((hl ps sa n zs[j]).map V.int)[a.toNat]?=some (.int ((hl ps sa n zs[j]).getD a.toNat 0)):=by
      rw [zAb,zA7,zA0 (by lia)];rfl
     have:=cu this;rw [show ((a.toNat:Nat):Int)=a by lia] at this;exact this
    refine ⟨fo,.ref d,rfl,v1 ▸ DGet.t (k:=ky n zs[j]) (u _ _ (sc _ _ d6.e)) aa,_,rfl,d,_,a,_,rfl,rfl,SqL.of (u _ _ v2),dv,hR _ _ _ ⟨sc.updR ml,⟨_,rfl⟩,?_⟩⟩;rw [zAj,zA0 hj,zA4,zA4];rfl
   rintro ys σ Hc hy ⟨sc,_,rfl⟩;rw [zAm];refine ⟨⟨_,SqL.of (sc _ _ rk),by rw [zA1];exact zA3 _⟩,fun D hD=>⟨D,_,rfl,SqL.of aa,?_,fun M hM LP=>aK ?_⟩⟩
   ·have:=(rj y).mpr ⟨hd,Int.le_refl _⟩;intro z;rw [List.map_eq_nil_iff] at z;rw [z] at this;cases this
   have d7:=(d6.same sc).same (Same.upd (o:=.lst (((zs.map fun z=>(hl ps sa n z).getD a.toNat 0):List Int).map V.int)) hD);have rl:=Same.upd (o:=.lst (((zs.map fun z=>(hl ps sa n z).getD a.toNat 0):List Int).map V.int)) hD _ _ (sc _ _ rk);generalize upd Hc D (.lst (((zs.map fun z=>(hl ps sa n z).getD a.toNat 0):List Int).map V.int))=H7 at d7 rl ⊢;clear d6 sc hD rk hy;dsimp only;refine aF ?_;refine cG (p:=fun i j=>decide (i<=j)) (q:=fun i j=>decide (i<=j)) (i:=1) (j:=k) (k:=99) gh (fj rfl) gh _ ⟨_,rfl,?_⟩;dsimp only
   cases ek:(decide (1<=k) && decide (k<=99)) with
   | false =>
    refine bO (bO ⟨_,rfl,_,rfl,zL,fun t ht=>bad d7.sm (gx fun h=>?_) t ht⟩);rw [zAt h.1.2.2.2.2.1,zAt h.1.2.2.2.2.2] at ek;cases ek
   | true =>
   obtain ⟨k1,k2⟩:=Bool.and_eq_true_iff.mp ek;have k1:=zB3 k1;have k2:=zB3 k2;refine bD ⟨_,rfl,_,rfl,_,_,rfl,rfl,_,rfl,?_⟩;by_cases Jj:M < k
   ·rw [zAt Jj];refine bO ⟨_,rfl,_,rfl,zL,fun t ht=>bad d7.sm (gx fun h=>?_) t ht⟩;obtain ⟨z,hz,rfl⟩:=zA5.mp hM;have:=h.2 z ((rj z).mp hz).1 ((rj z).mp hz).2;lia
   rw [decide_eq_false Jj];refine bD (du ?_);dsimp only
   have good:bY ps sa s=true:=Jh.mpr ⟨⟨hd,ha,hb,A7,k1,k2⟩,fun z h1 h2=>by
    have:=LP _ (zA5.mpr ⟨z,(rj z).mpr ⟨h1,h2⟩,rfl⟩)
    lia⟩
   clear bad gx
   have Qf:∀ (j:Nat),∃ fm:Int->Int->List Int,fm=fun n' z'=>if n'=n/\z'∈zs.take j then hstep n z' (hl ps sa n z') s else hl ps sa n' z':=fun j=>⟨_,rfl⟩
   refine ⟨_,rfl,Ly,rfl,⟨_,SqL.of rl⟩,?_⟩;refine eU (xs:=zs.map V.int) (fun j σ Hd=>∃ gp,σ=[some (.ref ap),some (.ref ae),some (.ref fo),some (.int n),x4,x5,x6,x7,some (.int k),x9,some (.int y),some (.int i),some (.int a),some (.int b),some (.ref Ly),some (.int M),gp]/\Lts fo H Hd (dom ps) (fun n' z'=>if n'=n/\z'∈zs.take j then hstep n z' (hl ps sa n z') s else hl ps sa n' z') kvs0/\Hd Ly=some (.lst (zs.map V.int))) ?_ ?_ ?_ ?_
   ·refine ⟨_,rfl,d7.cast fun n' z' _=>?_,rl⟩;rw [List.take_zero,zAv (fun w=>by cases w.2)]
   ·rintro j σ Hd hj ⟨gp,rfl,dj,eL⟩;exact SqL.of eL
   ·rintro j v σ Hd hv ⟨gp,rfl,dj,eL⟩
    have hj:j < zs.length:=by
     have:=(zAa.mp hv).1;rw [zA1] at this;exact this
    have ev:v=.int zs[j]:=by
     rw [zAb,zA0 hj] at hv;exact (zAl hv).symm
    subst ev;obtain ⟨rh,Jk⟩:=(rj zs[j]).mp (zAh hj)
    have Jl:¬ (zs[j]∈zs.take j):=fun hm=>by
     obtain ⟨j',mS,e⟩:=List.getElem_of_mem hm;rw [zAd] at mS;rw [List.getElem_take] at e;exact List.pairwise_iff_getElem.mp EI j' j (by lia) hj (by lia) e
    generalize hz:zs[j]=z at rh Jk Jl ⊢
    obtain ⟨L,EO⟩:∃ L,L=hl ps sa n z:=⟨_,rfl⟩
    have l8:L.length=8:=by rw [EO];exact qG _ _ _ _
    obtain ⟨d,v1,v2⟩:=dj.g n z rh;rw [zAv (fun w=>Jl w.2),<- EO] at v2;have Jm:=EN n z d v1
    have tf:∀ {c:Int} {L:List Int},L.length=8->0<=c/\c < 8->ixN (L.map V.int).length c=some c.toNat/\atI (L.map V.int) c=some (.int (L.getD c.toNat 0)):=fun {c L} l8 hc=>by
     refine ⟨?_,?_⟩
     ·unfold ixN;rw [zA1,l8,zAw hc.1,zAw (by lia)]
     ·have:(L.map V.int)[c.toNat]?=some (.int (L.getD c.toNat 0)):=by
       rw [zAb,zA7,zA0 (by lia)];rfl
      have:=cu this;rw [show ((c.toNat:Nat):Int)=c by lia] at this;exact this
    refine aK ?_;refine rO fun De ku=>?_;refine aF (aW ?_);refine ⟨_,rfl,_,rfl,_,rfl,zL,fun t1 h1=>?_⟩;have w1:=Same.upd (o:=.tup [V.int n,V.int z]) h1;refine ⟨fo,.ref d,rfl,v1 ▸ DGet.t (k:=ky n z) (w1 _ _ dj.e) aa,_,rfl,d,_,a,_,rfl,rfl,SqL.of (w1 _ _ v2),(tf l8 ha).2,_,rfl,_,_,rfl,rfl,?_⟩;have d1:=dj.same w1;have ER:=w1 _ _ v2;have ES:=w1 _ _ eL;generalize upd Hd t1 (.tup [V.int n,V.int z])=Ha at d1 ER ES ⊢;refine ⟨_,rfl,_,rfl,_,rfl,zL,fun t2 h2=>?_⟩;have w2:=Same.upd (o:=.tup [V.int n,V.int z]) h2;refine ⟨fo,.ref d,rfl,v1 ▸ DGet.t (k:=ky n z) (w2 _ _ d1.e) aa,_,rfl,d,_,a,_,rfl,rfl,w2 _ _ ER,(tf l8 ha).1,?_⟩;have d2:=d1.same w2;have ET:=w2 _ _ ES;generalize upd Ha t2 (.tup [V.int n,V.int z])=Hb at d2 ET ⊢;rw [show (L.map V.int).set a.toNat (.int (L.getD a.toNat 0 - k))=(cU L a (-k)).map V.int by unfold cU;rw [List.map_set];rfl]
    obtain ⟨L1,rq⟩:∃ L1,L1=cU L a (-k):=⟨_,rfl⟩
    rw [<- rq];have Jn:L1.length=8:=by rw [rq,dM];exact l8
    have d3:=d2.wr (f':=fun n' z'=>if n'=n/\z'=z then L1 else if n'=n/\z'∈zs.take j then hstep n z' (hl ps sa n z') s else hl ps sa n' z') (L:=L1) v1 (by rw [zAw ⟨rfl,rfl⟩]) fun n' z' _ fI=>by rw [zAv fI]
    have e3:=aa (H:=Hb) (a:=d) (o:=.lst (L1.map V.int));have Jo:upd Hb d (.lst (L1.map V.int)) Ly=some (.lst (zs.map V.int)):=by rw [aC Jm.symm];exact ET
    generalize upd Hb d (.lst (L1.map V.int))=Hc at d3 e3 Jo ⊢;clear d1 d2 ER ES ET w1 w2 h1 h2 dj v2 eL;dsimp only;refine aW ?_;refine ⟨_,rfl,_,rfl,_,rfl,zL,fun t1 h1=>?_⟩;have w1:=Same.upd (o:=.tup [V.int n,V.int z]) h1;refine ⟨fo,.ref d,rfl,v1 ▸ DGet.t (k:=ky n z) (w1 _ _ d3.e) aa,_,rfl,d,_,b,_,rfl,rfl,SqL.of (w1 _ _ e3),(tf Jn hb).2,_,rfl,_,_,rfl,rfl,?_⟩;have d4:=d3.same w1;have e4:=w1 _ _ e3;have Jp:=w1 _ _ Jo;generalize upd Hc t1 (.tup [V.int n,V.int z])=Ha at d4 e4 Jp ⊢;refine ⟨_,rfl,_,rfl,_,rfl,zL,fun t2 h2=>?_⟩;have w2:=Same.upd (o:=.tup [V.int n,V.int z]) h2;refine ⟨fo,.ref d,rfl,v1 ▸ DGet.t (k:=ky n z) (w2 _ _ d4.e) aa,_,rfl,d,_,b,_,rfl,rfl,w2 _ _ e4,(tf Jn hb).1,?_⟩;have d5:=d4.same w2;have Jq:=w2 _ _ Jp;generalize upd Ha t2 (.tup [V.int n,V.int z])=Hb at d5 Jq ⊢;rw [show (L1.map V.int).set b.toNat (.int (L1.getD b.toNat 0+k))=(cU L1 b k).map V.int by unfold cU;rw [List.map_set]]
    have hs:hstep n z L s=cU L1 b k:=by
     unfold hstep;rw [ea,eb,ec,ed,ee,zAw ⟨rfl,Jk⟩,rq]
    refine ku _ _ ⟨_,rfl,d5.wr (L:=cU L1 b k) v1 ?_ fun n' z' _ fI=>?_,by rw [aC Jm.symm];exact Jq⟩
    ·rw [zAw ⟨rfl,by rw [zAj,zA0 hj,hz];exact zA6.mpr (.inr (.head _))⟩,<- hs,EO]
    ·rw [zAv fI]
     have:(n'=n/\z'∈zs.take (j+1))↔(n'=n/\z'∈zs.take j):=by
      rw [zAj,zA0 hj,hz];constructor
      ·rintro ⟨g1,g2⟩;refine ⟨g1,?_⟩;rcases zA6.mp g2 with w | w
       ·exact w
       ·exact absurd ⟨g1,List.mem_singleton.mp w⟩ fI
      ·rintro ⟨g1,g2⟩;exact ⟨g1,zA6.mpr (.inl g2)⟩
     by_cases hc:n'=n/\z'∈zs.take j
     ·rw [zAw hc,zAw (this.mpr hc)]
     ·rw [zAv hc,zAv fun w=>hc (this.mp w)]
   ·rintro σ Hd ⟨gp,rfl,dj,eL⟩;rw [zA1,zAm] at dj;refine ⟨_,_,_,_,_,_,_,_,_,_,_,_,_,_,rfl,dj.cast fun n' z' AD=>?_,fun j' mS=>?_⟩
    ·rw [fh,BK AD];by_cases hc:n'=n/\z'∈zs
     ·obtain ⟨rfl,hc⟩:=hc;rw [zAw ⟨rfl,hc⟩]
     ·rw [zAv hc];unfold hstep;rw [ea,ee,zAv fun w=>hc ⟨w.1.symm,(rj z').mpr ⟨by rw [w.1];exact AD,w.2⟩⟩]
    ·by_cases ax:j' < i
     ·exact hh j' ax
     ·have:j'=i:=by lia
      rw [this,<- hH];exact good
  rintro σ Hc ⟨x3,x4,x5,x6,x7,x8,x9,bX,eW,cx,fe,ff,fg,gp,rfl,dt,hh⟩;have hu:un ps ss=none:=uU fun j hj=>hh j (by rw [rs.l];exact hj);dsimp only;refine ⟨_,rfl,zL,fun t ht=>?_⟩
  refine q t fo _ (dt.sm.updR ht) (by rw [aa,hu];rfl) fun _=>⟨kvs0,?_⟩
  have:=dt.same (Same.upd (o:=.tup [V.ref fo,V.non]) ht);rw [rs.l,zAm] at this;exact this
end K90
namespace K90Q
open PySem L2 K90P
def okC (r:List Int):Prop:=r.length=3/\∀ x∈r,0<=x/\x < 1000
def smR (s:List Int):Prop:=s.length=5/\∀ i∈s,-10<=i/\i<=2000000
inductive SpClipsI (vs:List V)(H:Hp)(Q:VK):Prop
 | mk:∀ st n,(vs=[.ref st,.int n])->(StAt H st)->(1<=n)->(n<=20)->(∀ ac xc cs H',Dr st H H'->K90.RowsAt H' ac xc cs->1<=cs.length->(cs.length:Int)<=n->(∀ r∈cs,okC r)->Q (.ref ac) H')->SpClipsI  vs H Q
def vh:Sp:=fun vs H Q _=>SpClipsI  vs H Q
inductive SpPromI (vs:List V)(H:Hp)(Q:VK):Prop
 | mk:∀ st y,(vs=[.ref st,.int y])->(StAt H st)->(0<=y)->(y<=1000)->(∀ t r H',Dr st H H'->H' t=some (.tup (r.map V.int))->K90.okP r->Q (.ref t) H')->SpPromI  vs H Q
def zE:Sp:=fun vs H Q _=>SpPromI  vs H Q
inductive SpSaleI (vs:List V)(H:Hp)(Q:VK):Prop
 | mk:∀ st ap xp ps,(vs=[.ref st,.ref ap])->(StAt H st)->(K90.RowsAt H ap xp ps)->(ps.length<=10)->((∀ r∈ps,K90.okP r))->(∀ t s H',Dr st H H'->H' t=some (.tup (s.map V.int))->smR s->Q (.ref t) H')->SpSaleI  vs H Q
def zF:Sp:=fun vs H Q _=>SpSaleI  vs H Q
inductive SpBookI (vs:List V)(H:Hp)(Q:VK):Prop
 | mk:∀ (st:Addr) (y m:Int),(vs=[.ref st,.int y,.int m])->(StAt H st)->(1<=y)->(y<=20)->(0<=m)->(m<=10)->(∀ a ac xc cs ap xp ps ae xs ss H',Dr st H H'->H' a=some (.tup [.ref ac,.ref ap,.ref ae])->K90.RowsAt H' ac xc cs->1<=cs.length->(cs.length:Int)<=y->(∀ r∈cs,okC r)->K90.RowsAt H' ap xp ps->(ps.length:Int)<=m->(∀ r∈ps,K90.okP r)->K90.RowsAt H' ae xs ss->ss.length<=6->(∀ s∈ss,smR s)->K90.un ps ss=none->Q (.ref a) H')->SpBookI  vs H Q
def spBook:Sp:=fun vs H Q _=>SpBookI  vs H Q
theorem _root_.K90P.Dr.new {st p:Addr}{o:HO}{H H1:Hp}(g:Dr st H H1)(hp:H1 p=none):Dr st H (upd H1 p o):=g.same (Same.upd hp)
theorem _root_.K90P.Dr.rows {st a:Addr}{H H':Hp}{xs:List V}{rs:List (List Int)}(g:Dr st H H')(h0:StAt H st)(r:K90.RowsAt H a xs rs):K90.RowsAt H' a xs rs:=r.keep (g.tups h0)
theorem ik {X:Cx}{i j k:Int}{a b c p q r pos}:BE X (.List [.Constant (.int i) a p,.Constant (.int j) b q,.Constant (.int k) c r] pos) (zV (Ce [i,j,k])):=⟨cQ (j5 (.cons (.cons (.cons .nil))))⟩
section
variable {P:Program}{w:World}{K:PySem.W.Frag}{mg:Str->Option Value}{base:Heap}{f:Addr}{fd:FuncData}
theorem ndC:(["_law_year","_law_state_here","_law_wide"]:List Str).Nodup:=by decide +kernel
theorem scC:FnScope ["_law_state_here","_law_most","_law_wide","_law_many"] ["_law_state_here","_law_most"] (aJ (top 66)):=fS
theorem ok_clips (F:Fun K "_law_clips" "_law_clips" (top 66) f fd)(T:Mg mg)(Tr:mg "range" = none)(c1:Cal P w K mg base 1 "_law_choice" ["_law_state_here","_law_many"] gY):FnOk P w K mg base CX0 2 f fd ["_law_state_here","_law_most"] vh:=by
 refine F.ok scC (fun vs H Q E h=>?_) (fun ai A outer s H vs Q E hr h=>?_)
 ·obtain ⟨st,n,rfl,_⟩:=h;rfl
 ·obtain ⟨st,n,rfl,fR,n0,n1,q⟩:=h
  refine ok_b (aN (pZ (i:=2) scC.nd rfl (Or.inr rfl) (xK bB (pW (gj ik (gj ik (gj ik (gj ik (gj ik fJ)))))) ⟨aH c1 hr (aq (pv 0) (aq aB ao))⟩ (fun _ _=>rfl)))
   (aN ⟨pss 3 scC.nd (aV bG aB (aH c1 hr (aq (pv 0) (aq (pv 1) ao))))⟩
   (cD ⟨aQ (cZ cO rfl T.tuple boot_tuple (aq (bH ["_law_year","_law_state_here","_law_wide"] [none,some 0,some 2] rfl (cA rfl Tr (aq (pv 3) ao))
    (fun C fp pins s₂ H₂=>⟨pgn 0 ndC,bL,cZ (lU (K:=K) rfl) rfl T.tuple boot_tuple (aq
     (bH ["_law_one","_law_state_here"] [none,some 1] rfl (yq (K:=K) rfl (pv 2)) (fun C fp pins s₂ H₂=>⟨aY (i:=0) (nd2 _ _ (by decide)) rfl (Or.inl rfl),bL,aH c1 hr (aq (pv 1) (aq (pv 0) ao))⟩)
      (fun C=>cI trivial) ⟨rfl,rfl,rfl,rfl⟩) ao)⟩)
    (fun C=>cI (cI trivial)) ⟨rfl,rfl,rfl,rfl⟩) ao))⟩))) ?_
  refine aF (aW ?_);refine ⟨zL,fun l1 h1=>⟨zL,fun l2 h2=>⟨zL,fun l3 h3=>⟨zL,fun l4 h4=>⟨zL,fun l5 h5=>⟨zL,fun L hL=>?_⟩⟩⟩⟩⟩⟩;have m1:=Same.upd (o:=.lst (([3,3,3]:List Int).map V.int)) h1;have m2:=Same.upd (o:=.lst (([12,30,30]:List Int).map V.int)) h2;have m3:=Same.upd (o:=.lst (([60,3,200]:List Int).map V.int)) h3;have m4:=Same.upd (o:=.lst (([1,1,1]:List Int).map V.int)) h4;have m5:=Same.upd (o:=.lst (([1000,1000,1000]:List Int).map V.int)) h5;have m6:=Same.upd (o:=.lst [V.ref l1,V.ref l2,V.ref l3,V.ref l4,V.ref l5]) hL;have f5:=m6 _ _ (aa (a:=l5) (o:=.lst (([1000,1000,1000]:List Int).map V.int)));have f4:=m6 _ _ (m5 _ _ (aa (a:=l4) (o:=.lst (([1,1,1]:List Int).map V.int))));have f3:=m6 _ _ (m5 _ _ (m4 _ _ (aa (a:=l3) (o:=.lst (([60,3,200]:List Int).map V.int)))));have f2:=m6 _ _ (m5 _ _ (m4 _ _ (m3 _ _ (aa (a:=l2) (o:=.lst (([12,30,30]:List Int).map V.int))))));have f1:=m6 _ _ (m5 _ _ (m4 _ _ (m3 _ _ (m2 _ _ (aa (a:=l1) (o:=.lst (([3,3,3]:List Int).map V.int)))))));have ms:=m1.trans (m2.trans (m3.trans (m4.trans (m5.trans m6))));have fL:upd (upd (upd (upd (upd (upd H l1 (.lst (([3,3,3]:List Int).map V.int))) l2 (.lst (([12,30,30]:List Int).map V.int))) l3 (.lst (([60,3,200]:List Int).map V.int))) l4 (.lst (([1,1,1]:List Int).map V.int))) l5 (.lst (([1000,1000,1000]:List Int).map V.int))) L (.lst [V.ref l1,V.ref l2,V.ref l3,V.ref l4,V.ref l5]) L=some (.lst [V.ref l1,V.ref l2,V.ref l3,V.ref l4,V.ref l5]):=aa
  have old:∀ b o,H b=some o->b≠l1/\b≠l2/\b≠l3/\b≠l4/\b≠l5/\b≠L:=fun b o e=>⟨aD e h1,aD (m1 _ _ e) h2,aD (m2 _ _ (m1 _ _ e)) h3,aD (m3 _ _ (m2 _ _ (m1 _ _ e))) h4,aD (m4 _ _ (m3 _ _ (m2 _ _ (m1 _ _ e)))) h5,aD (m5 _ _ (m4 _ _ (m3 _ _ (m2 _ _ (m1 _ _ e))))) hL⟩
  obtain ⟨a0,b0,c0,LQ,_⟩:=id fR;obtain ⟨v1,v2,v3,v4,v5,v6⟩:=old _ _ LQ;generalize upd (upd (upd (upd (upd (upd H l1 _) l2 _) l3 _) l4 _) l5 _) L _=H1 at f1 f2 f3 f4 f5 fL ms ⊢;clear m1 m2 m3 m4 m5 m6 h1 h2 h3 h4 h5 hL old
  have rL:StAt H1 st:=by
   obtain ⟨a,b,c,e,h⟩:=fR;exact ⟨a,b,c,ms _ _ e,h⟩
  have g1:Dr st H H1:=⟨fun b o e _=>ms _ _ e,rL⟩
  refine ⟨_,rfl,st,5,rfl,rL,by decide,by decide,fun r a b c r0 r1 a0 b0 b1=>?_⟩
  have zo:∃ wd ws,([V.ref l1,V.ref l2,V.ref l3,V.ref l4,V.ref l5]:List V)[r.toNat]?=some (.ref wd)/\H1 wd=some (.lst ((ws:List Int).map V.int))/\wd≠st/\ws.length=3/\∀ x∈ws,1<=x/\x<=1000:=by
   have:r.toNat=0\/r.toNat=1\/r.toNat=2\/r.toNat=3\/r.toNat=4:=by lia
   rcases this with z | z | z | z | z <;> rw [z]
   ·exact ⟨l1,_,rfl,f1,v1.symm,rfl,by decide⟩
   ·exact ⟨l2,_,rfl,f2,v2.symm,rfl,by decide⟩
   ·exact ⟨l3,_,rfl,f3,v3.symm,rfl,by decide⟩
   ·exact ⟨l4,_,rfl,f4,v4.symm,rfl,by decide⟩
   ·exact ⟨l5,_,rfl,f5,v5.symm,rfl,by decide⟩
  obtain ⟨wd,ws,ei,Jr,zt,LR,bws⟩:=zo;have g2:Dr st H (upd H1 st (.lst [.int a,.int b,.int c])):=g1.draw a0 b0 b1;refine ⟨L,_,r,.ref wd,rfl,rfl,SqL.of (by rw [aC v6.symm];exact fL),?_,?_⟩
  ·have:=cu ei;rw [show ((r.toNat:Nat):Int)=r by lia] at this;exact this
  have rS:upd H1 st (.lst [.int a,.int b,.int c]) wd=some (.lst (ws.map V.int)):=by
   rw [aC zt];exact Jr
  generalize upd H1 st (.lst [.int a,.int b,.int c])=H2 at g2 rS ⊢;clear f1 f2 f3 f4 f5 fL ms g1 rL Jr ei;refine aK ?_;dsimp only;refine aF ?_;refine ⟨_,rfl,_,rfl,st,n,rfl,g2.sa,n0,by lia,fun m a b c m0 m1 a0 b0 b1=>⟨_,_,rfl,rfl,?_⟩⟩;have g3:=g2.draw (c:=c) a0 b0 b1
  have zw:upd H2 st (.lst [.int a,.int b,.int c]) wd=some (.lst (ws.map V.int)):=by
   rw [aC zt];exact rS
  generalize upd H2 st (.lst [.int a,.int b,.int c])=H3 at g3 zw ⊢;clear g2 rS;dsimp only;refine iM ?_;refine ⟨_,rfl,1+m,rfl,by lia,by lia,?_⟩
  have lz:(1+m).toNat < sizeLine:=by
   rw [sizeLine_eq];lia
  refine cJ (1+m).toNat (fun i ys σ Hc=>Dr st H3 Hc/\(∃ o,σ=[o,some (.ref st),some (.ref wd)])/\∃ rows:List (List Int),rows.length=i/\(∀ r∈rows,okC r)/\IsThs (fun _=>False) Hc ys (rows.map K90.rowD)) ⟨Dr.refl g3.sa,⟨_,rfl⟩,[],rfl,fun _ h=>(List.not_mem_nil h).elim,.nil⟩ lz ?_ ?_
  ·rintro i ys σ Hc hi hy ⟨g4,⟨o,rfl⟩,rows,gS,zI,it⟩;refine ⟨hi,fun v H' y R hR=>?_⟩;obtain ⟨eH,rfl⟩:=y;subst H';refine aK ?_;have rV:=g4.bt _ _ zw zt;refine ⟨_,rfl,wd,rfl,⟨_,SqL.of rV⟩,cJ 3 (fun j zs σ H5=>Dr st Hc H5/\(∃ o,σ=[o,some (.ref st)])/\∃ r:List Int,r.length=j/\(∀ n∈r,0<=n/\n < 1000)/\zs=r.map V.int) ⟨Dr.refl g4.sa,⟨_,rfl⟩,[],rfl,fun _ h=>(List.not_mem_nil h).elim,rfl⟩ (by decide) ?_ ?_⟩
   ·rintro j zs σ H5 hj hz ⟨g5,⟨o,rfl⟩,r,lr,br,rfl⟩;have zS:=g5.bt _ _ rV zt;have Js:j < ws.length:=by lia
    have ex:(ws.map V.int)[j]?=some (.int ws[j]):=by rw [zAb,zA0 Js];rfl
    refine ⟨⟨_,_,SqL.of zS,ex⟩,fun v H' y R hR=>?_⟩;obtain ⟨eH,y⟩:=y;subst H';have hv:=y _ (SqL.of zS);rw [ex] at hv;cases hv;have hb:=bws _ (zAh Js);refine aK ?_;refine ⟨_,rfl,_,rfl,st,_,rfl,g5.sa,hb.1,by lia,fun t a b c t0 t1 a0 b0 b1=>hR _ _ _ ⟨g5.draw a0 b0 b1,⟨_,rfl⟩,r++[t],by rw [zA2,lr];rfl,fun n hn=>?_,by rw [zA4];rfl⟩⟩;rcases zA6.mp hn with z | z
    ·exact br n z
    ·rw [List.mem_singleton.mp z];lia
   ·rintro zs σ H5 hz ⟨g5,_,r,lr,br,rfl⟩;refine ⟨⟨_,SqL.of (g5.bt _ _ rV zt),by rw [zA1,LR];exact zA3 _⟩,fun D hD=>⟨D,_,rfl,.inl ⟨SqL.of aa,fun t ht=>?_⟩⟩⟩;have s6:=(Same.upd (o:=.lst (r.map V.int)) hD).updR (o:=.tup (r.map V.int)) ht;refine hR _ _ _ ⟨(g4.trans g5).same s6,⟨_,rfl⟩,rows++[r],by rw [zA2,gS];rfl,fun x hx=>?_,?_⟩
    ·rcases zA6.mp hx with z | z
     ·exact zI x z
     ·rw [List.mem_singleton.mp z];exact ⟨lr,br⟩
    ·rw [zA4];exact ((g5.ths g4.sa it).same s6).append (.cons (.tup aa (IsThs.ints r)) .nil)
  ·rintro ys σ Hc hy ⟨g4,_,rows,gS,zI,it⟩;refine ⟨zA3 _,fun D hD=>⟨D,_,rfl,.inl ⟨SqL.of aa,fun t ht=>?_⟩⟩⟩;have s6:=(Same.upd (o:=.lst ys) hD).updR (o:=.tup ys) ht;obtain ⟨ac,xc,ev,rr⟩:=K90.th_rows (rs:=rows) (.tup aa (it.same s6));cases ev;exact q _ xc rows _ ((g3.trans g4).same s6) rr (by lia) (by lia) zI
end
section
variable {P:Program}{w:World}{K:PySem.W.Frag}{mg:Str->Option Value}{base:Heap}{f:Addr}{fd:FuncData}
theorem scP:FnScope ["_law_state_here","_law_years","_law_first","_law_last","_law_sacks","_law_price"] ["_law_state_here","_law_years"] (aJ (top 67)):=fS
theorem ok_prom (F:Fun K "_law_promise" "_law_promise" (top 67) f fd)(Tm:mg "min" = none)(c1:Cal P w K mg base 1 "_law_choice" ["_law_state_here","_law_many"] gY):FnOk P w K mg base CX0 2 f fd ["_law_state_here","_law_years"] zE:=by
 refine F.ok scP (fun vs H Q E h=>?_) (fun ai A outer s H vs Q E hr h=>?_)
 ·obtain ⟨st,y,rfl,_⟩:=h;rfl
 ·obtain ⟨st,y,rfl,fR,y0,y1,q⟩:=h
  refine ok_b (aN ⟨pss 2 scP.nd (aO (fM rfl) rfl Tm oG (aq aB (aq (aH c1 hr (aq (pv 0) (aq (aV bG (pv 1) aB) ao))) ao)))⟩
   (aN ⟨pss 3 scP.nd (aO (fM rfl) rfl Tm oG (aq aB (aq (aV bG (pv 2) (pX bB (Am (Al aB (Al (aH c1 hr (aq (pv 0) (aq aB ao))) (Al (aH c1 hr (aq (pv 0) (aq aB ao))) fJ)))) (aH c1 hr (aq (pv 0) (aq aB ao))))) ao)))⟩
   (aN ⟨wY (i:=4) (j:=5) rfl scP.nd rfl rfl (by decide) rfl rfl (aq (aV bG aB (aH c1 hr (aq (pv 0) (aq (pX bB (cQ (j5 (by repeat constructor))) (aH c1 hr (aq (pv 0) (aq aB ao)))) ao)))) (aq (aH c1 hr (aq (pv 0) (aq aB ao))) ao)) rfl⟩
   (cD ⟨aQ (Cg (tD (gj ⟨aH c1 hr (aq (pv 0) (aq aB ao))⟩ (gj ⟨aH c1 hr (aq (pv 0) (aq aB ao))⟩ (gj ⟨pv 2⟩ (gj ⟨pv 3⟩ (gj ⟨pv 4⟩ (gj ⟨pv 5⟩ fJ))))))))⟩)))) ?_
  have g0:Dr st H H:=Dr.refl fR;refine aF (aW ?_);refine ⟨_,rfl,_,rfl,_,_,rfl,rfl,st,_,rfl,fR,by lia,by lia,fun r1 a1 b1 nN Qg Qh k1 k2 k3=>⟨_,_,rfl,?_⟩⟩;have g1:=g0.draw (c:=nN) k1 k2 k3
  obtain ⟨fi,LS,LU,Qi⟩:∃ fi:Int,fi=(if r1 < 19 then r1 else 19)/\0<=fi/\fi<=19:=⟨_,rfl,by split <;> lia,by split <;> lia⟩
  rw [<- LS];generalize upd H st (.lst [.int a1,.int b1,.int nN])=H1 at g1 ⊢;refine aK ?_;dsimp only;refine aF (aW ?_);refine ⟨_,rfl,_,rfl,st,4,rfl,g1.sa,by decide,by decide,fun r2 a2 b2 c2 LV Qj k4 k5 k6=>⟨_,rfl,st,20,rfl,(g1.draw k4 k5 k6).sa,by decide,by decide,fun r3 a3 b3 c3 LW LX k7 k8 k9=>⟨zL,fun p hp=>?_⟩⟩⟩;have g3:=(g1.draw (c:=c2) k4 k5 k6).draw (c:=c3) k7 k8 k9;have np:=g3.ne hp;have g4:=g3.new (o:=.lst [V.int 0,V.int r2,V.int r3]) hp;have ep:upd (upd (upd H1 st (.lst [.int a2,.int b2,.int c2])) st (.lst [.int a3,.int b3,.int c3])) p (.lst [V.int 0,V.int r2,V.int r3]) p=some (.lst [V.int 0,V.int r2,V.int r3]):=aa;generalize upd (upd (upd H1 st (.lst [.int a2,.int b2,.int c2])) st (.lst [.int a3,.int b3,.int c3])) p (.lst [V.int 0,V.int r2,V.int r3])=H2 at g4 ep ⊢;refine ⟨_,rfl,st,3,rfl,g4.sa,by decide,by decide,fun r4 a4 b4 c4 Qk Ql k1 k2 k3=>?_⟩
  obtain ⟨d,hd,d0,d1⟩:∃ d:Int,atI [V.int 0,V.int r2,V.int r3] r4=some (.int d)/\0<=d/\d < 20:=by
   have:r4=0\/r4=1\/r4=2:=by lia
   rcases this with rfl | rfl | rfl
   ·exact ⟨_,rfl,by decide,by decide⟩
   ·exact ⟨_,rfl,LV,by lia⟩
   ·exact ⟨_,rfl,LW,LX⟩
  refine ⟨p,_,r4,.int d,rfl,rfl,SqL.of (by rw [aC np];exact ep),hd,_,_,rfl,rfl,_,_,rfl,?_⟩;have g5:=g4.draw (c:=c4) k1 k2 k3
  obtain ⟨la,ko,LY,LZ⟩:∃ la:Int,la=(if fi+d < 19 then fi+d else 19)/\fi<=la/\la<=19:=⟨_,rfl,by split <;> lia,by split <;> lia⟩
  rw [<- ko];clear ep np g3;generalize upd H2 st (.lst [.int a4,.int b4,.int c4])=H3 at g5 ⊢;refine aK ?_;dsimp only;refine aF ?_;refine ⟨_,rfl,zL,fun p2 mM=>?_⟩;have L0:=g5.ne mM;have g6:=g5.new (o:=.lst (([4,12,99]:List Int).map V.int)) mM;have Jt:upd H3 p2 (.lst (([4,12,99]:List Int).map V.int)) p2=some (.lst (([4,12,99]:List Int).map V.int)):=aa;generalize upd H3 p2 (.lst (([4,12,99]:List Int).map V.int))=H4 at g6 Jt ⊢;refine ⟨_,rfl,st,3,rfl,g6.sa,by decide,by decide,fun r5 a5 b5 c5 Qm Qn k4 k5 k6=>?_⟩
  obtain ⟨wd,hw,w1,w2⟩:∃ wd:Int,atI (([4,12,99]:List Int).map V.int) r5=some (.int wd)/\1<=wd/\wd<=99:=by
   have:r5=0\/r5=1\/r5=2:=by lia
   rcases this with rfl | rfl | rfl
   ·exact ⟨4,rfl,by decide,by decide⟩
   ·exact ⟨12,rfl,by decide,by decide⟩
   ·exact ⟨99,rfl,by decide,by decide⟩
  have g7:=g6.draw (c:=c5) k4 k5 k6;refine ⟨p2,_,r5,.int wd,rfl,rfl,SqL.of (by rw [aC L0];exact Jt),hw,st,wd,rfl,g7.sa,w1,by lia,fun r6 a6 b6 c6 Qo Qp k7 k8 k9=>⟨_,_,rfl,rfl,?_⟩⟩;have g8:=g7.draw (c:=c6) k7 k8 k9;generalize upd (upd H4 st (.lst [.int a5,.int b5,.int c5])) st (.lst [.int a6,.int b6,.int c6])=H5 at g8 ⊢;refine ⟨_,rfl,st,500,rfl,g8.sa,by decide,by decide,fun r7 a7 b7 c7 L3 Qq k1 k2 k3=>⟨_,_,rfl,?_⟩⟩;have g9:=g8.draw (c:=c7) k1 k2 k3;generalize upd H5 st (.lst [.int a7,.int b7,.int c7])=H6 at g9 ⊢;dsimp only;refine iM ?_;refine ⟨_,rfl,st,8,rfl,g9.sa,by decide,by decide,fun r8 a8 b8 c8 L4 L5 k4 k5 k6=>⟨_,rfl,st,3,rfl,(g9.draw k4 k5 k6).sa,by decide,by decide,fun r9 a9 b9 c9 L6 L7 k7 k8 k9=>⟨_,rfl,_,rfl,_,rfl,_,rfl,zL,fun t ht=>?_⟩⟩⟩;have ga:=((g9.draw (c:=c8) k4 k5 k6).draw (c:=c9) k7 k8 k9).new (o:=.tup [V.int r8,V.int r9,V.int fi,V.int la,V.int (1+r6),V.int r7]) ht;exact q t [r8,r9,fi,la,1+r6,r7] _ ga aa ⟨rfl,⟨L4,L5⟩,⟨L6,L7⟩,⟨LU,LY,LZ⟩,⟨by show 1<=1+r6;lia,by show 1+r6<=99;lia⟩,⟨L3,by show r7<=1000000;lia⟩⟩
theorem scS:FnScope ["_law_state_here","_law_promises","_law_number","_law_holder","_law_sort","_law_first","_law_last","_law_sacks","_law_price","_law_seller","_law_year"] ["_law_state_here","_law_promises"] (aJ (top 68)):=fS
theorem ok_sale (F:Fun K "_law_sale" "_law_sale" (top 68) f fd)(T:K90.Mg mg)(Tm:mg "max" = none)(c1:Cal P w K mg base 1 "_law_choice" ["_law_state_here","_law_many"] gY):FnOk P w K mg base CX0 2 f fd ["_law_state_here","_law_promises"] zF:=by
 refine F.ok scS (fun vs H Q E h=>?_) (fun ai A outer s H vs Q E hr h=>?_)
 ·obtain ⟨st,ap,xp,ps,rfl,_⟩:=h;rfl
 ·obtain ⟨st,ap,xp,ps,rfl,fR,rp,lp,okp,q⟩:=h
  refine ⟨_,aA (pss 2 scS.nd (aH c1 hr (aq (pv 0) (aq (aO (il rfl) rfl Tm oF (aq aB (aq (aO bR rfl T.len PySem.boot_len (aq (pv 1) ao)) ao))) ao))))
   (aA (cB (aZ (vP (K90.room_un hr)) (pv 1) (uB fJ) (bj _)) (aG (aQ (bA (j5 (by repeat constructor))))) bh)
   (aA (bN (pX bW (pv 1) (pv 2)) (bz rfl (aj (pgn 3 scS.nd) (aj (pgn 4 scS.nd) (aj (pgn 5 scS.nd)
    (aj (pgn 6 scS.nd) (aj (pgn 7 scS.nd) (aj (pgn 8 scS.nd) aR))))))))
   (aA (pss 9 scS.nd (pX bB (cQ (aq (pv 3) (aq (pv 3) (aq (aH c1 hr (aq (pv 0) (aq aB ao))) ao)))) (aH c1 hr (aq (pv 0) (aq aB ao)))))
   (aA (pss 10 scS.nd (aV bG (pv 5) (aH c1 hr (aq (pv 0) (aq (aV bG (aV gH (pv 6) (pv 5)) aB) ao)))))
   (aG (aQ (Cg (tD (gj ⟨pv 2⟩ (gj ⟨pv 9⟩ (gj ⟨aH c1 hr (aq (pv 0) (aq aB ao))⟩ (gj ⟨aV bG aB (aH c1 hr (aq (pv 0) (aq (pv 7) ao)))⟩ (gj ⟨pv 10⟩ fJ))))))))))))),?_⟩
  have g0:Dr st H H:=Dr.refl fR;have Qr:xp.length<=10:=by rw [rp.l];exact lp
  refine aF (aW ?_);refine ⟨_,rfl,_,rfl,ap,xp,rfl,.inr (SqT.of rp.e),_,_,rfl,st,_,rfl,fR,?_,?_,fun r1 a1 b1 nN r0 rn k1 k2 k3=>?_⟩
  ·split <;> lia
  ·split <;> lia
  have g1:=g0.draw (c:=nN) k1 k2 k3;have Ju:=g1.rows fR rp;generalize upd H st (.lst [.int a1,.int b1,.int nN])=H1 at g1 Ju ⊢;refine aK ?_;dsimp only;refine aF ?_;refine ⟨_,rfl,zL,fun e0 tI=>?_⟩;have g2:=g1.new (o:=.tup []) tI;have m2:=Same.upd (o:=.tup []) tI;have Jv:upd H1 e0 (.tup []) e0=some (.tup []):=aa;have A8:=Ju.same m2;generalize upd H1 e0 (.tup [])=H2 at g2 m2 Jv A8 ⊢;refine ⟨ap,e0,xp,rfl,rfl,SqT.of A8.e,SqT.of Jv,_,rfl,Ae (fun hb=>?_) fun hb=>?_⟩
  ·refine ⟨zL,fun t ht=>?_⟩;exact q t [0,0,1,1,0] _ (g2.new ht) aa ⟨rfl,by decide⟩
  have px:0 < xp.length:=by
   cases xp with
   | nil=>exact absurd rfl hb
   | cons a l=>exact Nat.succ_pos _
  have Qs:r1.toNat < xp.length:=by split at rn <;> lia
  dsimp only;refine aF ?_;obtain ⟨p,hp,_,op⟩:=K90.prom_ok (n:=r1) okp r0 (by rw [<- rp.l];lia);obtain ⟨tp,dv,gg⟩:=K90.rows_at A8 r0 hp;rw [K90.six_row op.1] at gg;obtain ⟨_,⟨p1,p2⟩,_,⟨p3,p4,p5⟩,⟨p6,p7⟩,_⟩:=id op;refine ⟨_,rfl,_,rfl,ap,_,r1,.ref tp,rfl,rfl,SqT.of A8.e,dv,?_⟩;refine ⟨tp,_,rfl,SqT.of gg,rfl,_,_,rfl,_,_,rfl,_,_,rfl,_,_,rfl,_,_,rfl,_,_,rfl,rfl,?_⟩;dsimp only;refine aF (aW ?_);refine ⟨_,rfl,_,rfl,_,rfl,st,8,rfl,g2.sa,by decide,by decide,fun r2 a2 b2 c2 i0 i1 k4 k5 k6=>⟨zL,fun l1 cw=>?_⟩⟩;have g4:=(g2.draw (c:=c2) k4 k5 k6).new (o:=.lst [V.int (K90.fl p 0),V.int (K90.fl p 0),V.int r2]) cw;have n4:=(g2.draw k4 k5 k6).ne cw;refine ⟨_,rfl,st,3,rfl,g4.sa,by decide,by decide,fun r3 a3 b3 c3 i2 i3 k7 k8 k9=>?_⟩
  obtain ⟨sl,L8,Qt,oC⟩:∃ sl:Int,atI [V.int (K90.fl p 0),V.int (K90.fl p 0),V.int r2] r3=some (.int sl)/\0<=sl/\sl < 8:=by
   have:r3=0\/r3=1\/r3=2:=by lia
   rcases this with rfl | rfl | rfl
   ·exact ⟨_,rfl,p1,p2⟩
   ·exact ⟨_,rfl,p1,p2⟩
   ·exact ⟨_,rfl,i0,i1⟩
  have g5:=g4.draw (c:=c3) k7 k8 k9;refine ⟨l1,_,r3,.int sl,rfl,rfl,SqL.of (by rw [aC n4];exact aa),L8,?_⟩;refine aK ?_;dsimp only;refine aF (aW ?_);refine ⟨_,rfl,_,rfl,_,rfl,_,rfl,_,_,rfl,rfl,_,_,rfl,rfl,st,_,rfl,g5.sa,by lia,by lia,fun r5 a5 b5 c5 i6 i7 m4 m5 m6=>⟨_,_,rfl,rfl,?_⟩⟩;have g7:=g5.draw (c:=c5) m4 m5 m6;refine aK ?_;dsimp only;refine ⟨_,rfl,_,rfl,_,rfl,st,8,rfl,g7.sa,by decide,by decide,fun r4 a4 b4 c4 i4 i5 m1 Jw m3=>⟨_,rfl,_,rfl,st,_,rfl,(g7.draw m1 Jw m3).sa,p6,by lia,fun r6 a6 b6 c6 i8 i9 m7 m8 m9=>⟨_,_,rfl,rfl,_,rfl,zL,fun t ht=>?_⟩⟩⟩;have g8:=(g7.draw (c:=c4) m1 Jw m3).draw (c:=c6) m7 m8 m9;refine q t [r1,sl,r4,1+r6,K90.fl p 2+r5] _ (g8.new ht) aa ⟨rfl,fun i hi=>?_⟩;simp only [List.mem_cons,List.not_mem_nil,or_false] at hi;lia
end
theorem vm {X:Cx}:OpR X (binaryOp .Add) (fun x y H Q=>∃ a b xs ys,x=.ref a/\y=.ref b/\H a=some (.tup xs)/\H b=some (.tup ys)/\ys≠[]/\xs.length+ys.length<=sizeLine/\∀ c H',Same H H'->H' c=some (.tup (xs++ys))->Q (.ref c) H'):=by
 intro pins s σ H x y v u Q I rx ry h;obtain ⟨a,b,xs,ys,rfl,rfl,ha,hb,hy,hz,q⟩:=h;refine xP pins s σ H _ _ v u Q I rx ry ⟨a,b,xs,ys,rfl,rfl,SqT.of ha,SqT.of hb,hy,hz,fun e=>q b H (Same.refl H) (by rw [e];exact hb),fun _ p hp=>q p _ (Same.upd hp) aa⟩
theorem oY {H:Hp}{a b t:Addr}{xs:List V}{rs:List (List Int)}{r:List Int}(h:K90.RowsAt H a xs rs)(et:H t=some (.tup (r.map V.int)))(eb:H b=some (.tup (xs++[V.ref t]))):K90.RowsAt H b (xs++[V.ref t]) (rs++[r]):=by
 refine ⟨eb,by rw [zA2,zA2,h.l];rfl,fun i r' e=>?_⟩;by_cases hi:i < rs.length
 ·rw [zBb hi] at e;rw [zBb (by rw [h.l];exact hi)];exact h.g i r' e
 ·rw [zBc (by lia)] at e;rw [zBc (by rw [h.l];lia),h.l]
  cases hj:i - rs.length with
  | zero =>
   rw [hj] at e;injection e with e;subst e;exact ⟨t,rfl,et⟩
  | succ k =>
   rw [hj] at e;simp at e
theorem zG {u:Option Nat}(h:decide (K90.unV u=.non)=true):u=none:=by
 have:=zB3 h
 cases u with
 | none=>rfl
 | some n=>cases this
theorem nq {X:Cx}{K:PySem.W.Frag}(hK:X.K=K):dX X (.builtin "len") (fun xs H Q=>∃ p ys,xs=[.ref p]/\(SqL K H p ys\/SqT K H p ys)/\Q (.int ys.length) H):=by
 subst hK;exact bR
section
variable {P:Program}{w:World}{K:PySem.W.Frag}{mg:Str->Option Value}{base:Heap}{f:Addr}{fd:FuncData}
theorem ndB:(["_law_turn","_law_state_here","_law_clips_here"]:List Str).Nodup:=by decide +kernel
theorem scB:FnScope ["_law_state_here","_law_years","_law_most","_law_clips_here","_law_promises","_law_sales","_law_turn","_law_sale_here"] ["_law_state_here","_law_years","_law_most"] (aJ (top 69)):=fS
theorem ok_book (F:Fun K "_law_book" "_law_book" (top 69) f fd)(T:Mg mg)(Tr:mg "range" = none)(Tl:mg "len" = none)(c1:Cal P w K mg base 1 "_law_choice" ["_law_state_here","_law_many"] gY)(c2:Cal P w K mg base 2 "_law_clips" ["_law_state_here","_law_most"] vh)(c3:Cal P w K mg base 2 "_law_promise" ["_law_state_here","_law_years"] zE)(c4:Cal P w K mg base 2 "_law_sale" ["_law_state_here","_law_promises"] zF)(c5:Cal P w K mg base 1 "_law_rows" ["_law_promises","_law_sales"] K90.spRows) :
  FnOk P w K mg base CX0 3 f fd ["_law_state_here","_law_years","_law_most"] spBook:=by
 refine F.ok scB (fun vs H Q E h=>?_) (fun ai A outer s H vs Q E hr h=>?_)
 ·obtain ⟨st,y,m,rfl,_⟩:=h;rfl
 ·obtain ⟨st,y,m,rfl,fR,y1,y2,m1,m2,q⟩:=h
  refine ⟨_,aA (pC (i:=3) scB.nd rfl (Or.inr rfl) (aH c2 hr (aq (pv 0) (aq (pv 1) ao))))
   (aA (pss 4 scB.nd (cZ cO rfl T.tuple boot_tuple (aq (bH ["_law_turn","_law_state_here","_law_clips_here"] [none,some 0,some 3] rfl (cA rfl Tr (aq (aH c1 hr (aq (pv 0) (aq (aV bG (pv 2) aB) ao))) ao))
    (fun C fp pins s₂ H₂=>⟨pgn 0 ndB,bL,aH c3 hr (aq (pv 1) (aq (aO (nq (K:=K) rfl) rfl Tl PySem.boot_len (aq (pv 2) ao)) ao))⟩)
    (fun C=>cI (cI trivial)) ⟨rfl,rfl,rfl,rfl⟩) ao)))
   (aA (pss 5 scB.nd (uB fJ))
   (aA (bV zB5 rfl (cA rfl Tr (aq (aH c1 hr (aq (pv 0) (aq aB ao))) ao)) (pgn 6 scB.nd)
    (aA (pss 7 scB.nd (aH c4 hr (aq (pv 0) (aq (pv 4) ao))))
    (aG (cB (aZ xm (pX bW (aH c5 hr (aq (pv 4) (aq (aV vm (pv 5) (bA (aq (pv 7) ao))) ao))) aB) p8 (bj _)) (aG (pss 5 scB.nd (aV vm (pv 5) (bA (aq (pv 7) ao))))) bh))))
   (aG (aQ (bA (aq (pv 3) (aq (pv 4) (aq (pv 5) ao)))))))))  ,?_⟩
  refine aF (aW ?_);refine ⟨_,rfl,_,rfl,st,y,rfl,fR,y1,y2,fun ac xc cs H1 d1 rc lc1 Jx okc=>?_⟩;refine aK ?_;dsimp only;refine aF (aW ?_);refine ⟨_,rfl,_,rfl,_,_,rfl,rfl,st,m+1,rfl,d1.sa,by lia,by lia,fun r a1 b1 nN k0 kn k1 k2 k3=>⟨r,rfl,by lia,by lia,?_⟩⟩;have d2:=(Dr.refl d1.sa).draw (c:=nN) k1 k2 k3;have A9:=d2.rows d1.sa rc;have EU:=d1.trans d2;generalize upd H1 st (.lst [.int a1,.int b1,.int nN])=H2 at d2 EU A9 ⊢
  have lz:r.toNat < sizeLine:=by
   rw [sizeLine_eq];lia
  refine cJ r.toNat (fun i ys σ Hc=>Dr st H2 Hc/\(∃ o,σ=[o,some (.ref st),some (.ref ac)])/\∃ rows:List (List Int),rows.length=i/\(∀ r∈rows,K90.okP r)/\IsThs (fun _=>False) Hc ys (rows.map K90.rowD)) ⟨Dr.refl d2.sa,⟨_,rfl⟩,[],rfl,fun _ h=>(List.not_mem_nil h).elim,.nil⟩ lz ?_ ?_
  ·rintro i ys σ Hc hi hy ⟨g4,⟨o,rfl⟩,rows,gS,zI,it⟩;refine ⟨hi,fun v H' y R hR=>?_⟩;obtain ⟨eH,rfl⟩:=y;subst H';refine aK ?_;have L9:=g4.rows d2.sa A9;have:=rc.l;refine ⟨_,rfl,_,rfl,ac,xc,rfl,.inr (SqT.of L9.e),st,_,rfl,g4.sa,by lia,by lia,fun t Ap H5 d5 et Ma=>hR _ _ _ ⟨g4.trans d5,⟨_,rfl⟩,rows++[Ap],by rw [zA2,gS];rfl,fun x hx=>?_,?_⟩⟩
   ·rcases zA6.mp hx with z | z
    ·exact zI x z
    ·rw [List.mem_singleton.mp z];exact Ma
   ·rw [zA4];exact (d5.ths g4.sa it).append (.cons (.tup et (IsThs.ints Ap)) .nil)
  rintro ys σ Hc hy ⟨g4,_,ps,Qu,okp,it⟩;refine ⟨zA3 _,fun D hD=>⟨D,_,rfl,.inl ⟨SqL.of aa,fun t ht=>?_⟩⟩⟩;have s6:=(Same.upd (o:=.lst ys) hD).updR (o:=.tup ys) ht;obtain ⟨ap,xp,ev,rp⟩:=K90.th_rows (rs:=ps) (.tup aa (it.same s6));cases ev;have Jy:=(g4.rows d2.sa A9).same s6;have Jz:=(EU.trans g4).same s6;generalize upd (upd Hc D (.lst ys)) t (.tup ys)=H3 at rp Jy Jz ⊢;clear A9 d2 g4 it s6 ht hD EU rc d1;refine aK ?_;dsimp only;refine aF (aW ?_);refine ⟨zL,fun e0 tI=>?_⟩;have d6:=Jz.new (o:=.tup []) tI
  have r6:K90.RowsAt (upd H3 e0 (.tup [])) e0 [] []:=⟨aa,rfl,fun i r e=>by simp at e⟩
  have JA:=rp.same (Same.upd (o:=.tup []) tI);have JB:=Jy.same (Same.upd (o:=.tup []) tI);generalize upd H3 e0 (.tup [])=H4 at d6 r6 JA JB ⊢;refine aK ?_;dsimp only;refine aF ?_;refine ⟨_,rfl,st,7,rfl,d6.sa,by decide,by decide,fun r2 a2 b2 JC q0 qn q1 q2 q3=>⟨r2,rfl,by lia,by lia,?_⟩⟩;have d7:=(Dr.refl d6.sa).draw (c:=JC) q1 q2 q3;have JD:=d7.rows d6.sa JA;have JE:=d7.rows d6.sa JB;have r7:=d7.rows d6.sa r6;have JF:=d6.trans d7;generalize upd H4 st (.lst [.int a2,.int b2,.int JC])=H5 at JF JD JE r7 ⊢;refine cY (lo:=0) (n:=r2.toNat) (fun i σ Hc=>∃ a xs ss x6 x7,σ=[some (.ref st),some (.int y),some (.int m),some (.ref ac),some (.ref t),some (.ref a),x6,x7]/\Dr st H Hc/\K90.RowsAt Hc ac xc cs/\K90.RowsAt Hc t xp ps/\K90.RowsAt Hc a xs ss/\ss.length<=i/\(∀ s∈ss,smR s)/\K90.un ps ss=none) ?_ ?_ ?_
  ·exact ⟨e0,[],[],none,none,rfl,JF,JE,JD,r7,zA3 _,(fun _ h=>nomatch h),rfl⟩
  ·rintro i σ Hc hi ⟨a,xs,ss,x6,x7,rfl,g,rcc,Bi,EV,ls,df,tJ⟩;refine aK (aF ?_);refine aW ?_;refine ⟨_,rfl,_,rfl,st,t,xp,ps,rfl,g.sa,Bi,by lia,okp,fun t' s' H6 d8 et sm=>?_⟩;have JG:=d8.rows g.sa rcc;have EW:=d8.rows g.sa Bi;have tN:=d8.rows g.sa EV;have gd:=g.trans d8;refine aK ?_;dsimp only
   have JH:∀ s∈ss++[s'],smR s:=fun s hs=>by
    rcases zA6.mp hs with z | z
    ·exact df s z
    ·rw [List.mem_singleton.mp z];exact sm
   have l5:(ss++[s']).length<=i+1:=by rw [zA2];show ss.length+1<=_;lia
   have yn:=tN.l;refine ⟨_,rfl,_,rfl,_,rfl,zL,fun t1 rX=>?_⟩;have m4:=Same.upd (o:=.tup [V.ref t']) rX;refine ⟨a,t1,xs,_,rfl,rfl,m4 _ _ tN.e,aa,by simp,by rw [yn,sizeLine_eq];show _+1<=_;lia,fun c H7 s7 ec=>?_⟩;have Mb:=oY ((tN.same m4).same s7) (s7 _ _ (m4 _ _ et)) ec;refine ⟨t,xp,ps,c,_,ss++[s'],rfl,(EW.same m4).same s7,by lia,okp,Mb,by lia,fun s hs=>(JH s hs).1,fun tt fo H8 s8 Mc _=>?_⟩;have tP:=(m4.trans s7).trans s8;refine ⟨tt,_,1,K90.unV (K90.un ps (ss++[s'])),rfl,rfl,SqT.of Mc,rfl,rfl,_,rfl,Ae (fun hb=>?_) fun _=>?_⟩
   ·refine aW ?_;refine ⟨_,rfl,_,rfl,zL,fun t2 lT=>?_⟩;have m9:=Same.upd (o:=.tup [V.ref t']) lT;refine ⟨a,t2,xs,_,rfl,rfl,m9 _ _ (tP _ _ tN.e),aa,by simp,by rw [yn,sizeLine_eq];show _+1<=_;lia,fun c' H9 s9 Md=>?_⟩;have As:=(tP.trans m9).trans s9;exact ⟨c',_,ss++[s'],_,_,rfl,gd.same As,JG.same As,EW.same As,oY (tN.same As) (As _ _ et) Md,l5,JH,zG hb⟩
   ·exact ⟨a,xs,ss,_,_,rfl,gd.same tP,JG.same tP,EW.same tP,tN.same tP,by lia,df,tJ⟩
  ·rintro σ Hc ⟨a,xs,ss,x6,x7,rfl,g,rcc,Bi,EV,ls,df,tJ⟩;refine ⟨_,rfl,_,rfl,_,rfl,zL,fun b hb=>?_⟩;have mb:=Same.upd (o:=.tup [V.ref ac,V.ref t,V.ref a]) hb;exact q b ac xc cs t xp ps a xs ss _ (g.new hb) aa (rcc.same mb) lc1 Jx okc (Bi.same mb) (by lia) okp (EV.same mb) (by lia) df tJ
end
end K90Q
namespace K90
open PySem L2
structure TB (H:Hp)(bk ac:Addr)(xc:List V)(cs:List (List Int))(ap:Addr)(xp:List V)(ps:List (List Int))(ae:Addr)(xs:List V)(ss:List (List Int)):Prop where
 b:BookAt H bk ac xc cs ap xp ps ae xs ss
 okc:∀ r∈cs,okC r
 lc1:1<=cs.length
section
variable {H H':Hp}{bk ac:Addr}{xc:List V}{cs:List (List Int)}{ap:Addr}{xp:List V}{ps:List (List Int)}{ae:Addr}{xs:List V}{ss:List (List Int)}
theorem TB.same (h:TB H bk ac xc cs ap xp ps ae xs ss)(s:Same H H'):TB H' bk ac xc cs ap xp ps ae xs ss:=⟨h.b.same s,h.okc,h.lc1⟩
theorem TB.keep (h:TB H bk ac xc cs ap xp ps ae xs ss)(k:∀ b l,H b=some (.tup l)->H' b=some (.tup l)):TB H' bk ac xc cs ap xp ps ae xs ss:=⟨⟨k _ _ h.b.e,h.b.rc.keep k,h.b.okc,h.b.lc,h.b.rp.keep k,h.b.lp,h.b.okp,h.b.rs.keep k,h.b.ls,h.b.h5,h.b.un⟩,h.okc,h.lc1⟩
theorem TB.bko (h:TB H bk ac xc cs ap xp ps ae xs ss):BkO cs ps ss:=⟨h.b.okc,h.b.lp,h.b.un,h.b.h5,h.b.okp⟩
theorem TB.th (h:TB H bk ac xc cs ap xp ps ae xs ss):IsTh (fun _=>False) H (.ref bk) (.tuple [bT cs,bT ps,bT ss]):=.tup h.b.e (.cons h.b.rc.th (.cons h.b.rp.th (.cons h.b.rs.th .nil)))
theorem TB.sz (h:TB H bk ac xc cs ap xp ps ae xs ss):L2.sz (.tuple [bT cs,bT ps,bT ss])<=4000:=by
 show 1+((1+szs (cs.map rowD))+((1+szs (ps.map rowD))+((1+szs (ss.map rowD))+0)))<=4000;rw [jr (k:=3) fun r hr=>(h.okc r hr).1,jr (k:=6) fun r hr=>(h.b.okp r hr).1,jr (k:=5) h.b.h5];have:=h.b.lc;have:=h.b.lp;have:=h.b.ls;lia
theorem TB.ok (h:TB H bk ac xc cs ap xp ps ae xs ss):lQ (.tuple [bT cs,bT ps,bT ss])=true:=Bp h.lc1 h.b.lc h.okc h.b.lp h.b.okp h.b.ls h.b.h5 h.b.un
theorem TB.by_ {R:List (List Int)->List (List Int)->List (List Int)->Int->VK->Hp->Prop}{y:Int}{Q:VK}(h:TB H bk ac xc cs ap xp ps ae xs ss)(y0:0<=y)(y1:y < cs.length)(q:R cs ps ss y Q H):jq R [.ref bk,.int y] H Q E0 :=
 ⟨fun _=>False,bk,y,_,ac,xc,cs,ap,xp,ps,ae,xs,ss,rfl,h.th,h.sz,h.ok,h.b,y0,y1,q⟩
end
theorem CK {A:Around}{k:Nat}(hr:Room k A):A.units+64 < cLine:=by
 have:=hr.un;lia
def Bt (gd:Addr)(H H':Hp):Prop:=∀ b o,H b=some o->b≠gd->H' b=some o
section
variable {gd ro:Addr}{H H1 H2:Hp}{kvs kr:List (List Key×V)}{ps ss R:List (List Int)}
theorem Bt.same (g:Bt gd H H1)(s:Same H1 H2):Bt gd H H2:=fun b o e n=>s _ _ (g b o e n)
theorem Bt.trans (g:Bt gd H H1)(g':Bt gd H1 H2):Bt gd H H2:=fun b o e n=>g' b o (g b o e n) n
theorem Bt.put {o:HO}(g:Bt gd H H1):Bt gd H (upd H1 gd o):=fun b o e n=>by rw [aC n];exact g b o e n
theorem Bt.tups (g:Bt gd H H1)(e:H gd=some (.dT kvs)):∀ b l,H b=some (.tup l)->H1 b=some (.tup l):=fun b l q=>g b _ q fun z=>by
 rw [z,e] at q;cases q
theorem Bt.lst {b:Addr}{l:List V}(g:Bt gd H H1)(e:H gd=some (.dT kvs))(q:H b=some (.lst l)):H1 b=some (.lst l):=g b _ q fun z=>by
 rw [z,e] at q;cases q
structure RwAt (H:Hp)(ro:Addr)(ps ss:List (List Int))(kr:List (List Key×V)):Prop where
 e:H ro=some (.dT kr)
 g:∀ n y,dom ps n y->∃ d,cF kr (ky n y)=some (.ref d)/\H d=some (.lst ((hl ps ss n y).map V.int))
theorem RwAt.same (r:RwAt H ro ps ss kr)(s:Same H H1):RwAt H1 ro ps ss kr:=⟨s _ _ r.e,fun n y h=>by
 obtain ⟨d,e1,e2⟩:=r.g n y h
 exact ⟨d,e1,s _ _ e2⟩⟩
theorem RwAt.bt (r:RwAt H ro ps ss kr)(g:Bt gd H H1)(e:H gd=some (.dT kvs))(n:ro≠gd):RwAt H1 ro ps ss kr:=⟨g _ _ r.e n,fun n y h=>by
 obtain ⟨d,e1,e2⟩:=r.g n y h
 exact ⟨d,e1,g.lst e e2⟩⟩
theorem GvAt.same (g:GvAt H gd R kvs)(s:Same H H1):GvAt H1 gd R kvs:=⟨s _ _ g.e,g.v,g.k,g.l⟩
end
theorem zH {ps rs:List (List Int)}{i:Nat}(hi:i < rs.length):hs3 ps (rs.take (i+1))=cU (hs3 ps (rs.take i)) (fl (ps.getD (fl rs[i] 1).toNat []) 1) (fl rs[i] 3):=by
 unfold hs3;rw [zAj,zA0 hi,List.foldl_append];rfl
theorem CN (ps rs:List (List Int)):(hs3 ps rs).length=3:=vg ps rs _
theorem zJ {A G:List (List Int)}{i:Nat}(hi:i < G.length):A++G.take (i+1)=(A++G.take i)++[G[i]]:=by
 rw [zAj,zA0 hi,zAf];rfl
theorem TB.gv {H:Hp}{bk ac:Addr}{xc:List V}{cs:List (List Int)}{ap:Addr}{xp:List V}{ps:List (List Int)}{ae:Addr}{xs:List V}{ss:List (List Int)}(h:TB H bk ac xc cs ap xp ps ae xs ss){m:Nat}(hm:m < cs.length):(bU cs ps ss m).length<=320000/\(srt (dN cs ps ss m).g).length<=16000:=by
 have hc:=h.b.lc;have a:=(sE h.b.okc h.b.lp h.b.un h.b.h5 h.b.okp m (by lia)).2;have b:=(yZ h.b.okc h.b.lp h.b.un h.b.h5 h.b.okp (n:=m) (by lia)).2;exact ⟨by lia,b⟩
theorem TB.gr {H:Hp}{bk ac:Addr}{xc:List V}{cs:List (List Int)}{ap:Addr}{xp:List V}{ps:List (List Int)}{ae:Addr}{xs:List V}{ss:List (List Int)}(h:TB H bk ac xc cs ap xp ps ae xs ss)(m:Nat):∀ r∈srt (dN cs ps ss m).g,r.length=4:=fun r hr=>(y_row 3).1 r ((dG _).mem_iff.mp hr)
theorem TB.or {H:Hp}{bk ac:Addr}{xc:List V}{cs:List (List Int)}{ap:Addr}{xp:List V}{ps:List (List Int)}{ae:Addr}{xs:List V}{ss:List (List Int)}(h:TB H bk ac xc cs ap xp ps ae xs ss)(m:Nat):∀ r∈cN cs ps ss m,r.length=4/\0<=fl r 1/\fl r 1 < ps.length:=fun r hr=>by
 obtain ⟨a,b,c,_⟩:=(jn h.b.lp h.b.un h.b.h5 h.b.okp m).1 r hr;exact ⟨a,b,c⟩
inductive SpYRI (vs:List V)(H:Hp)(Q:VK):Prop
 | mk:∀ (bk ro gd:Addr) (m:Nat) (ac:Addr) (xc:List V) (cs:List (List Int)) (ap:Addr) (xp:List V) (ps:List (List Int)) (ae:Addr) (xs:List V) (ss:List (List Int)) (kr kvs:List (List Key×V)),(vs=[.ref bk,.ref ro,.int m,.ref gd])->(TB H bk ac xc cs ap xp ps ae xs ss)->(m < cs.length)->(RwAt H ro ps ss kr)->(ro≠gd)->(GvAt H gd (bU cs ps ss m) kvs)->(∀ kR H',Bt gd H H'->GvAt H' gd (bU cs ps ss (m+1)) kR->Q (.bl true) H')->SpYRI  vs H Q
def GF:Sp:=fun vs H Q _=>SpYRI  vs H Q
variable {P:Program}{w:World}{K:PySem.W.Frag}{mg:Str->Option Value}{base:Heap}{f:Addr}{fd:FuncData}
theorem HW:(["_law_sort","_law_sorts","_law_down"]:List Str).Nodup:=by decide +kernel
theorem HX:(["_law_gift"]:List Str).Nodup:=by decide +kernel
theorem scYR:FnScope ["_law_book_here","_law_rows_here","_law_year","_law_given","_law_gifts","_law_down","_law_owing","_law_due","_law_number","_law_holder","_law_sacks","_law_sorts","_law_sort"] ["_law_book_here","_law_rows_here","_law_year","_law_given"] (aJ (top 70)):=fS
theorem GJ (F:Fun K "_law_year_right" "_law_year_right" (top 70) f fd)(Tr:mg "range" = none)(Ts:mg "sum" = none)
  (cl:Cal P w K mg base 11 "left_in" ["book","year"] (jq CJ)) (cg:Cal P w K mg base 11 "gifts_in" ["book","year"] (jq yN)) (co:Cal P w K mg base 12 "owed_by" ["book","year"] (jq rZ)):FnOk P w K mg base CX0 13 f fd ["_law_book_here","_law_rows_here","_law_year","_law_given"] GF:=by
 refine F.ok scYR (fun vs H Q E h=>?_) (fun ai A outer s H vs Q E hr h=>?_)
 ·obtain ⟨bk,ro,gd,m,ac,xc,cs,ap,xp,ps,ae,xs,ss,kr,kvs,rfl,_⟩:=h;rfl
 ·obtain ⟨bk,ro,gd,m,ac,xc,cs,ap,xp,ps,ae,xs,ss,kr,kvs,rfl,B,hm,Ap,ne,G,q⟩:=h
  refine K90P.ok_b (aN ⟨bN (bA (aq (aH cg hr (aq (pv 0) (aq (pv 2) ao))) (aq (aH cl hr (aq (pv 0) (aq (pv 2) ao))) (aq (aH co hr (aq (pv 0) (aq (pv 2) ao))) ao)))) (bz rfl (aj (pgn 4 scYR.nd) (aj (aY (i:=5) scYR.nd rfl (Or.inr rfl)) (aj (pgn 6 scYR.nd) aR))))⟩
   (aN ⟨bV zB5 rfl (cC (pv 4)) (bz rfl (aj (pgn 7 scYR.nd) (aj (pgn 8 scYR.nd) (aj (pgn 9 scYR.nd) (aj (pgn 10 scYR.nd) aR)))))
    (j6 (aN ⟨cB (PW.pt (qK (aZ iV (pv 7) (pv 2) (bj _)) (sJ (aZ iU (pv 10) aB (bj _))))) (aG (aQ gG)) bh⟩
    (cD ⟨uz (fP hr) (pv 3) (bA (aq (pv 7) (aq (pv 8) (aq (pv 9) ao)))) (aV bG (rm (fP hr) (pv 3) (bA (aq (pv 7) (aq (pv 8) (aq (pv 9) ao)))) aB (by constructor <;> rfl)) (pv 10)) rfl⟩)))⟩
   (aN (pZ (i:=11) scYR.nd rfl (Or.inr rfl) ⟨cQ (j5 (by repeat constructor))⟩)
   (aN ⟨bV zB5 rfl (cC (pv 6)) (bz rfl (aj (pgn 7 scYR.nd) (aj (pgn 8 scYR.nd) (aj (pgn 9 scYR.nd) (aj (pgn 10 scYR.nd) aR)))))
    (j6 (aN (lA 12 scYR.nd ⟨pX bW (pX bW (pX bW (pv 0) aB) (pv 8)) aB⟩)
    (aN ⟨bN (aV bG (pX bB (pv 11) (pv 12)) (pv 10)) (iz (pv 11) (pv 12) set_list)⟩
    (cD ⟨cB (aZ xj (aV bG (rm (fP hr) (pv 3) (bA (aq (pv 7) (aq (pv 8) (aq (pv 9) ao)))) aB (by constructor <;> rfl)) (pv 10)) (pX bB (fB (fP hr) (pv 1) (bA (aq (pv 8) (aq (pv 7) ao))) (fun _ _=>rfl)) (pv 9)) (bj _)) (aG (aQ gG)) bh⟩))))⟩
   (aN ⟨cB (aZ (ye (S:=fun _=>True) (CK hr)) (bH ["_law_sort","_law_sorts","_law_down"] [none,some 11,some 5] rfl (cA rfl Tr (aq aB ao)) (fun C fp pins s₂ H₂=>⟨pgn 0 HW,gf (PW.pt (sO (aZ iV (pX (lM (K:=K) rfl) (pv 1) (pv 0)) aB (bj _)) (pq (aZ iV (pX (K90P.ix_tupK (K:=K) rfl) (pv 2) (pv 0)) aB (bj _))))),pv 0⟩) (fun C=>cI (cI trivial)) ⟨rfl,rfl,rfl,rfl⟩) (cQ ao) (bj _)) (aG (aQ gG)) bh⟩
   (cD ⟨aQ (iW jW (aO (d9 rfl) rfl Ts boot_sum (aq (pX bW (pX bW (pv 0) aB) (pv 2)) ao)) (aV bG (aO (d9 rfl) rfl Ts boot_sum (aq (bH ["_law_gift"] [none] rfl (cC (pv 4)) (fun C fp pins s₂ H₂=>⟨pgn 0 HX,bL,pX (K90P.ix_tupK (K:=K) rfl) (pv 0) aB⟩) (fun C=>trivial) ⟨rfl,rfl,rfl,rfl⟩) ao)) (pX bW (pv 5) aB)) (bj _))⟩)))))) ?_
  have j0:(0:Int)<=m:=by lia
  have j1:(m:Int) < cs.length:=by lia
  refine aF (aW ?_);refine ⟨_,rfl,_,rfl,B.by_ j0 j1 fun g xg H1 s1 ng ze eg cm=>⟨_,rfl,_,rfl,(B.same s1).by_ j0 j1 fun tl H2 s2 fN=>⟨_,rfl,_,rfl,((B.same s1).same s2).by_ j0 j1 fun ow xo H3 s3 no Me eo dA=>⟨zL,fun t ht=>?_⟩⟩⟩⟩;rw [zAi] at cm fN dA;have S4:=((s1.trans s2).trans s3).updR (o:=.tup [.ref g,.ref tl,.ref ow]) ht;have u3:=Same.upd (o:=.tup [.ref g,.ref tl,.ref ow]) ht;have et:=aa (H:=H3) (a:=t) (o:=.tup [.ref g,.ref tl,.ref ow]);have eg:=u3 _ _ (s3 _ _ (s2 _ _ eg));have cm:=((cm.same s2).same s3).same u3;have fN:=u3 _ _ (s3 _ _ fN);have eo:=u3 _ _ eo;have dA:=dA.same u3;generalize upd H3 t (.tup [.ref g,.ref tl,.ref ow])=H4 at S4 et eg cm fN eo dA ⊢;clear u3 s1 s2 s3 ht ng ze no Me;refine ⟨t,_,rfl,SqT.of et,rfl,_,_,rfl,_,_,rfl,_,_,rfl,rfl,?_⟩;dsimp only;have B4:=B.same S4;have R4:=Ap.same S4;have G4:=G.same S4;clear B Ap G et;have bd:=B4.gv hm;have gk:=Cw (cs:=cs) (ps:=ps) (ss:=ss) m;have g4:=B4.gr m;have se:bU cs ps ss (m+1)=bU cs ps ss m++srt (dN cs ps ss m).g:=rfl;have gT:=uc B4.bko hm;generalize srt (dN cs ps ss m).g=Gs at cm gk g4 se bd gT;refine aF ?_;refine ⟨_,rfl,g,rfl,⟨_,SqL.of eg⟩,?_⟩;refine eU (xs:=xg) (fun i σ Hc=>∃ x7 x8 x9 bX kv,σ=[some (.ref bk),some (.ref ro),some (.int m),some (.ref gd),some (.ref g),some (.ref tl),some (.ref ow),x7,x8,x9,bX,none,none]/\Bt gd H4 Hc/\GvAt Hc gd (bU cs ps ss m++Gs.take i) kv) ?_ ?_ ?_ ?_
  ·exact ⟨none,none,none,none,kvs,rfl,fun _ _ e _=>e,by rw [List.take_zero,zAn];exact G4⟩
  ·rintro i σ Hc hi ⟨x7,x8,x9,bX,kv,rfl,bt,gv⟩;exact SqL.of (bt.lst G4.e eg)
  ·rintro i x σ Hc hx ⟨x7,x8,x9,bX,kv,rfl,bt,gv⟩
   have hi:i < Gs.length:=by
    have:=(zAa.mp hx).1;rw [cm.1] at this;exact this
   obtain ⟨tr,cy,bq⟩:=(cm.keep (bt.tups G4.e)).2 i Gs[i] (zA0 hi)
   have:x=.ref tr:=by
    rw [hx] at cy;exact zAl cy
   subst this;obtain ⟨⟨a0,a1,dm,c0,c1⟩,p1⟩:=gk _ (zAh hi);have r4:=g4 _ (zAh hi);rw [zJ hi]
   have lR:(bU cs ps ss m++Gs.take i).length<=336000:=by
    rw [zA2,zAd];lia
   generalize bU cs ps ss m++Gs.take i=R at gv lR ⊢;generalize Gs[i]=r at bq a1 p1 r4 ⊢;rw [cH r4] at bq;have a1:fl r 0<=m:=a1;refine ⟨tr,_,rfl,SqT.of bq,rfl,_,_,rfl,_,_,rfl,_,_,rfl,_,_,rfl,rfl,?_⟩;refine rO fun De ku=>?_;refine aF ?_;refine ⟨_,rfl,_,rfl,_,_,rfl,rfl,_,rfl,?_⟩;rw [decide_eq_false (show ¬ fl r 0 > (m:Int) by lia)];refine bD ?_;refine ⟨_,rfl,_,_,rfl,rfl,_,rfl,?_⟩;rw [decide_eq_false (show ¬ fl r 3 < 1 by lia)];refine bD (du ?_);dsimp only;refine ⟨_,rfl,gd,rfl,.inr ⟨kv,.inl gv.e⟩,_,rfl,_,rfl,_,rfl,zL,fun t1 rX=>?_⟩;have s5:=Same.upd (o:=.tup [.int (fl r 0),.int (fl r 1),.int (fl r 2)]) rX;have nS:upd Hc t1 (.tup [.int (fl r 0),.int (fl r 1),.int (fl r 2)]) t1=some (.tup (((keyOf r).map (Sum.inl:Int->Key)).map kV)):=aa;have nV:=gv.same s5;generalize upd Hc t1 (.tup [.int (fl r 0),.int (fl r 1),.int (fl r 2)])=H5 at s5 nS nV ⊢;refine ⟨_,DGet.t nV.e nS,_,rfl,_,_,nV.v (keyOf r),rfl,_,rfl,_,rfl,_,rfl,_,rfl,zL,fun t2 lT=>?_⟩;have s6:=Same.upd (o:=.tup [.int (fl r 0),.int (fl r 1),.int (fl r 2)]) lT;have gu:upd H5 t2 (.tup [.int (fl r 0),.int (fl r 1),.int (fl r 2)]) t2=some (.tup (((keyOf r).map (Sum.inl:Int->Key)).map kV)):=aa;have EX:=nV.same s6;generalize upd H5 t2 (.tup [.int (fl r 0),.int (fl r 1),.int (fl r 2)])=H6 at s6 gu EX ⊢;refine ⟨gd,_,rfl,DPut.t EX.e gu (by have:=gv.l;rw [sizeLine_eq];lia),?_⟩;exact ku _ _ ⟨_,_,_,_,_,rfl,(bt.same (s5.trans s6)).put,EX.put⟩
  rintro σ H5 ⟨x7,x8,x9,bX,kv,rfl,bt,gv⟩;rw [cm.1,zAm,<- se] at gv;have eg:=bt.lst G4.e eg;have cm:=cm.keep (bt.tups G4.e);have fN:=bt.tups G4.e _ _ fN;have eo:=bt.lst G4.e eo;have dA:=dA.keep (bt.tups G4.e);have B5:=B4.keep (bt.tups G4.e);have R5:=R4.bt bt G4.e ne;have q:∀ kR H',Bt gd H5 H'->GvAt H' gd (bU cs ps ss (m+1)) kR->Q (.bl true) H':=fun k' H' b' g'=>q k' H' (Bt.trans (Bt.trans (fun b o e _=>S4 _ _ e) bt) b') g';clear bt B4 R4 G4 S4 se gk;dsimp only;refine aF (aW ?_);refine ⟨zL,fun l1 cw=>?_⟩;have s2:=Same.upd (o:=.lst (([0,0,0]:List Int).map V.int)) cw;have e1:upd H5 l1 (.lst (([0,0,0]:List Int).map V.int)) l1=some (.lst ((hs3 ps []).map V.int)):=aa;generalize upd H5 l1 (.lst (([0,0,0]:List Int).map V.int))=H6 at s2 e1 ⊢;refine aK ?_;dsimp only;refine aF ?_;refine ⟨_,rfl,ow,rfl,⟨_,SqL.of (s2 _ _ eo)⟩,?_⟩;have orr:=B5.or (m+1);have Bn:=(qF (cs:=cs) (ps:=ps) (ss:=ss) (m+1)).1;have me:=fun r hr=>u9 B5.bko (m:=m) (r:=r) hr;have gX:=fun s hs=>Bw B5.bko m (s:=s) hs;generalize cN cs ps ss (m+1)=W at dA orr Bn me gX;refine eU (xs:=xo) (fun i σ Hc=>∃ x7 x8 x9 bX cx,σ=[some (.ref bk),some (.ref ro),some (.int m),some (.ref gd),some (.ref g),some (.ref tl),some (.ref ow),x7,x8,x9,bX,some (.ref l1),cx]/\Same H5 Hc/\Hc l1=some (.lst ((hs3 ps (W.take i)).map V.int))) ?_ ?_ ?_ ?_
  ·exact ⟨_,_,_,_,_,rfl,s2,e1⟩
  ·rintro i σ Hc hi ⟨x7,x8,x9,bX,cx,rfl,sm,e⟩;exact SqL.of (sm _ _ eo)
  ·rintro i x σ Hc hx ⟨x7,x8,x9,bX,cx,rfl,sm,e⟩
   have hi:i < W.length:=by
    have:=(zAa.mp hx).1;rw [dA.1] at this;exact this
   obtain ⟨tr,cy,bq⟩:=dA.2 i W[i] (zA0 hi)
   have:x=.ref tr:=by
    rw [hx] at cy;exact zAl cy
   subst this;rw [zH hi];have l3:=CN ps (W.take i);generalize hs3 ps (W.take i)=L at e l3 ⊢;obtain ⟨o4,o1,o2⟩:=orr _ (zAh hi);obtain ⟨a0,a1,dm,c0,c1⟩:=Bn _ (zAh hi);have er:=me _ (zAh hi);obtain ⟨p,hp,ep,op⟩:=prom_ok (n:=fl W[i] 1) B5.b.okp o1 o2;obtain ⟨tp,dv,gg⟩:=rows_at B5.b.rp o1 hp;rw [ep];clear a0 a1 Bn me orr hx cy;generalize W[i]=r at bq o4 o1 o2 dv hp ep dm c0 c1 er ⊢;rw [cH o4] at bq;rw [six_row op.1] at gg;obtain ⟨_,_,⟨b0,b1⟩,_⟩:=op;have dm:dom ps (fl r 1) (fl r 0):=dm;have c0:0<=fl r 2:=c0;have c1:fl r 2 < 8:=c1;obtain ⟨dr,q1,q2⟩:=R5.g _ _ dm
   have Au:atI (L.map V.int) (fl p 1)=some (.int (L.getD (fl p 1).toNat 0)):=by
    have:=cu (dw (L:=L) (i:=(fl p 1).toNat) (by lia));rw [show (((fl p 1).toNat:Nat):Int)=fl p 1 by lia] at this;exact this
   have sf:atI ((hl ps ss (fl r 1) (fl r 0)).map V.int) (fl r 2)=some (.int ((hl ps ss (fl r 1) (fl r 0)).getD (fl r 2).toNat 0)):=by
    have:=cu (dw (L:=hl ps ss (fl r 1) (fl r 0)) (i:=(fl r 2).toNat) (by rw [qG];lia));rw [show (((fl r 2).toNat:Nat):Int)=fl r 2 by lia] at this;exact this
   refine ⟨tr,_,rfl,SqT.of (sm _ _ bq),rfl,_,_,rfl,_,_,rfl,_,_,rfl,_,_,rfl,rfl,?_⟩;refine rO fun De ku=>?_;refine aF (aW ?_);refine ⟨_,rfl,bk,_,1,.ref ap,rfl,rfl,SqT.of (sm _ _ B5.b.e),rfl,_,rfl,ap,xp,fl r 1,.ref tp,rfl,rfl,SqT.of (sm _ _ B5.b.rp.e),dv,tp,_,1,.int (fl p 1),rfl,rfl,SqT.of (sm _ _ gg),rfl,?_⟩;refine aK ?_;dsimp only;refine aF ?_;refine ⟨_,rfl,_,rfl,l1,_,fl p 1,_,rfl,rfl,SqL.of e,Au,_,rfl,_,_,rfl,rfl,_,rfl,_,rfl,l1,_,fl p 1,(fl p 1).toNat,rfl,rfl,e,oE b0 (by rw [zA1];lia),?_⟩;rw [jl];dsimp only;refine tY (fun H7=>Same H5 H7/\H7 l1=some (.lst ((cU L (fl p 1) (fl r 3)).map V.int))) ⟨fun b o e'=>by rw [aC (aD e' cw)];exact sm _ _ e',aa⟩ fun H7 ⟨EZ,e7⟩=>?_;clear e sm bq gg dv Au;refine ⟨_,rfl,gd,rfl,.inr ⟨kv,.inl (EZ _ _ gv.e)⟩,_,rfl,_,rfl,_,rfl,zL,fun t1 rX=>?_⟩;have s5:=Same.upd (o:=.tup [.int (fl r 0),.int (fl r 1),.int (fl r 2)]) rX;have nS:upd H7 t1 (.tup [.int (fl r 0),.int (fl r 1),.int (fl r 2)]) t1=some (.tup (((keyOf r).map (Sum.inl:Int->Key)).map kV)):=aa;have nV:=(gv.same EZ).same s5;generalize upd H7 t1 (.tup [.int (fl r 0),.int (fl r 1),.int (fl r 2)])=H8 at s5 nS nV ⊢;refine ⟨_,DGet.t nV.e nS,_,rfl,_,_,nV.v (keyOf r),rfl,_,rfl,_,rfl,_,rfl,zL,fun t2 lT=>?_⟩;have s6:=Same.upd (o:=.tup [.int (fl r 1),.int (fl r 0)]) lT;have gu:upd H8 t2 (.tup [.int (fl r 1),.int (fl r 0)]) t2=some (.tup ((ky (fl r 1) (fl r 0)).map kV)):=aa;have S:=(EZ.trans s5).trans s6;have eR:=S _ _ R5.e;have eD:=S _ _ q2;have e9:=(s5.trans s6) _ _ e7;generalize upd H8 t2 (.tup [.int (fl r 1),.int (fl r 0)])=H9 at S gu eR eD e9 ⊢;refine ⟨ro,.ref dr,rfl,by rw [<- q1];exact DGet.t eR gu,_,rfl,dr,_,fl r 2,_,rfl,rfl,SqL.of eD,sf,rfl,_,rfl,?_⟩;rw [<- er,decide_eq_true rfl];refine bD ?_;exact ku _ _ ⟨_,_,_,_,_,rfl,S,e9⟩
  rintro σ H7 ⟨x7,x8,x9,bX,cx,rfl,sm,e⟩;rw [dA.1,zAm] at e;clear orr Bn me dA eo;have l3:=CN ps W
  have Mf:(dN cs ps ss m).l.length=3:=by
   show (yTo _ ps ss _ _ 3).l.length=3;rw [y_l 3];rfl
  generalize hs3 ps W=Z at e l3 gX;generalize (dN cs ps ss m).l=D3 at fN Mf gX gT;have fN:=sm _ _ fN;dsimp only;refine aF ?_;refine ⟨3,rfl,by decide,by decide,fc 3 (fun i ys σ Hj=>Same H7 Hj/\(∃ o1,σ=[o1,some (.ref l1),some (.ref tl)])/\ys=[]) ⟨Same.refl _,⟨_,rfl⟩,rfl⟩ (by rw [sizeLine_eq];decide) ?_ ?_⟩
  ·rintro i ys σ Hj hi hy ⟨sj,⟨o1,rfl⟩,rfl⟩;refine ⟨hi,fun v H' y' R hR=>?_⟩;obtain ⟨eH,rfl⟩:=y';subst H';refine aK ?_
   have hz:atI (Z.map V.int) (0+(i:Int))=some (.int (Z.getD i 0)):=by
    rw [Int.zero_add];exact cu (dw (by lia))
   have hd:atI (D3.map V.int) (0+(i:Int))=some (.int (D3.getD i 0)):=by
    rw [Int.zero_add];exact cu (dw (by lia))
   have hn:=gX i hi;refine ⟨_,rfl,_,rfl,l1,_,_,_,rfl,rfl,SqL.of (sj _ _ e),hz,_,_,rfl,rfl,_,rfl,?_⟩;by_cases h1:Z.getD i 0 > 0
   ·rw [zAt h1];refine bO ?_;refine ⟨_,rfl,_,rfl,tl,_,_,_,rfl,rfl,SqT.of (sj _ _ fN),hd,_,_,rfl,rfl,_,rfl,?_⟩;rw [zB2 (fun z=>hn ⟨h1,z⟩)];exact bD (hR _ _ _ (zAp _) ⟨sj,⟨_,rfl⟩,rfl⟩)
   ·rw [zB2 h1];exact bD (hR _ _ _ (zAp _) ⟨sj,⟨_,rfl⟩,rfl⟩)
  rintro ys σ H8 hy ⟨s8,_,rfl⟩;refine ⟨by show _<=3;decide,fun la kX=>⟨zL,fun lb Bz=>?_⟩⟩;have u8:=Same.upd (o:=.lst []) Bz;have S8:=(s8.updR (o:=.lst []) kX).trans u8;have ko:=u8 _ _ (aa (H:=H8) (a:=la) (o:=.lst []));have tS:=aa (H:=upd H8 la (.lst [])) (a:=lb) (o:=.lst []);generalize upd (upd H8 la (.lst [])) lb (.lst [])=H9 at S8 ko tS ⊢;refine ⟨.list [],.lst trivial ko .nil,.lst trivial tS .nil,rfl,rfl,_,rfl,?_⟩;refine bD (du ?_);dsimp only;have S9:=sm.trans S8;clear s8 u8 ko tS kX Bz e sm;have B9:=B5.same S9;obtain ⟨tc,E1,AY⟩:=rows_at B9.b.rc j0 (show cs[((m:Int)).toNat]?=some cs[m] by rw [zAi];exact zA0 hm);rw [getD_get hm] at gT;have cm:=cm.same S9;have eg:=S9 _ _ eg;have fN:=S8 _ _ fN;refine iM ?_;refine ⟨_,rfl,bk,_,0,.ref ac,rfl,rfl,SqT.of B9.b.e,rfl,_,rfl,ac,xc,(m:Int),.ref tc,rfl,rfl,SqT.of B9.b.rc.e,E1,tc,cs[m],rfl,.inr (SqT.of AY),?_⟩;refine ⟨_,rfl,g,rfl,⟨_,SqL.of eg⟩,cJ Gs.length (fun i ys σ Hc=>Same H9 Hc/\(∃ o1,σ=[o1])/\ys=(wts (Gs.take i)).map V.int) ⟨Same.refl _,⟨_,rfl⟩,rfl⟩ (by rw [sizeLine_eq];lia) ?_ ?_⟩
  ·rintro i ys σ Hc hi hy ⟨sc,⟨o1,rfl⟩,rfl⟩;obtain ⟨t,ex,et⟩:=cm.2 i Gs[i] (zA0 hi);have r4:=g4 _ (zAh hi)
   have ew:wts (Gs.take (i+1))=wts (Gs.take i)++[fl Gs[i] 3]:=by
    unfold wts;rw [zAj,zA0 hi,zA4];rfl
   rw [ew,zA4];generalize Gs[i]=r at et r4 ⊢;rw [cH r4] at et;refine ⟨⟨_,_,SqL.of (sc _ _ eg),ex⟩,fun v H' y R hR=>?_⟩;obtain ⟨rfl,y⟩:=y;have hv:=y _ (SqL.of (sc _ _ eg));rw [ex] at hv;cases hv;refine aK ?_;exact ⟨_,rfl,t,_,3,.int (fl r 3),rfl,rfl,SqT.of (sc _ _ et),rfl,hR _ _ _ ⟨sc,⟨_,rfl⟩,rfl⟩⟩
  rintro ys σ Qv hy ⟨sc,_,rfl⟩;rw [zAm];refine ⟨⟨_,SqL.of (sc _ _ eg),by rw [cm.1];exact zA3 _⟩,fun D hD=>?_⟩;have u:=Same.upd (o:=.lst ((wts Gs).map V.int)) hD;have hd2:atI (D3.map V.int) 2=some (.int (D3.getD 2 0)):=cu (j:=2) (dw (L:=D3) (i:=2) (by lia));refine ⟨D,wts Gs,rfl,.inl (SqL.of aa),_,rfl,tl,_,2,_,rfl,rfl,SqT.of (u _ _ (sc _ _ fN)),hd2,_,_,rfl,rfl,rfl,?_⟩;have ee:cs[m].sum=(wts Gs).sum+D3.getD 2 0:=gT;rw [ee,zAt rfl];have SF:=(S9.trans sc).trans u;exact q kv _ (fun b o e _=>SF _ _ e) (gv.same SF)
theorem zK {d:Addr}{o:Obj}{kvs:List (List Key×V)}{g:TG}{tb:TS}{D:Ends}{σ:St}{H:Hp}(Pv:Nat->St->Hp->Prop)(h0:Pv 0 σ H)(hl:∀ i σ H,i<=kvs.length->Pv i σ H->H d=some (.frz o (.dT kvs)))
  (hs:∀ i b k v σ H,kvs[i]?=some (k,v)->H b=some (.tup (k.map kV))->Pv i σ H->g (.ref b) σ H fun ay H2=>tb { D with nx:=Pv (i+1),ct:=Pv (i+1),bk:=D.nx } ay H2) (hd:∀ σ H,Pv kvs.length σ H->D.nx σ H) :
  ∃ W:Nat->Nat->St->Hp->Prop,(∃ m,W 0 m σ H)/\∀ i m σ H,W i m σ H ->
   ((Itd d o kvs).stop i H/\D.nx σ H)\/((Itd d o kvs).go i H/\∃ N:St->Hp->Prop,(∀ af H',N af H'->∃ m',m' < m/\W (i+1) m' af H')/\∀ x H',(Itd d o kvs).yld i H x H'->g x σ H' fun ay H2=>tb { D with nx:=N,ct:=N,bk:=D.nx } ay H2):=by
 refine ⟨fun i m σ H=>m=kvs.length - i/\i<=kvs.length/\Pv i σ H,⟨kvs.length,by simp,Nat.zero_le _,h0⟩,?_⟩;rintro i m σ H ⟨rfl,hi,p⟩;have q:=hl i σ H hi p;by_cases ax:i < kvs.length
 ·refine .inr ⟨⟨q,ax⟩,Pv (i+1),fun af H' p'=>⟨kvs.length - (i+1),by lia,rfl,ax,p'⟩,fun v H' y=>?_⟩;obtain ⟨rfl,b,k,v,rfl,e1,e2⟩:=y;exact hs i b k v σ H' e1 e2 p
 ·have e:i=kvs.length:=by lia
  subst e;exact .inl ⟨⟨q,zA3 _⟩,hd σ H p⟩
theorem zM {kvs:List (List Key×V)}{i:Nat}{k:List Key}{v:V}(e:kvs[i]?=some (k,v)):∃ u,cF kvs k=some u:=by
 have h:(cF kvs k).isSome=true:=by
  rw [<- dJ,List.any_eq_true];exact ⟨(k,v),zB6 e,zAt rfl⟩
 exact Option.isSome_iff_exists.mp h
inductive SpLawI (K:PySem.W.Frag)(vs:List V)(H:Hp)(Q:VK):Prop
 | mk:∀ (a:Addr) (ns:List Int),(vs=[.ref a])->(SqL K H a (ns.map V.int))->(ns.length<=63)->(∀ H',Q (.bl true) H')->SpLawI K vs H Q
def vo (K:PySem.W.Frag):Sp:=fun vs H Q _=>SpLawI K vs H Q
theorem wQ:bootBuiltins "max" = some (.builtin "max"):=by decide +kernel
theorem wR:bootBuiltins "min" = some (.builtin "min"):=by decide +kernel
theorem HY:(["_law_one"]:List Str).Nodup:=by decide +kernel
theorem scLL:FnScope ["_law_script","_law_k","_law_state_here","_law_book_here","_law_rows_here","_law_given","_law_year","_law_due","_law_number","_law_holder"] ["_law_script"] (aJ (top 71)):=fS
theorem Eo (F:Fun K "law" "law" (top 71) f fd)(T:Mg mg)(Tr:mg "range" = none)(Tm:mg "max" = none)(Tn:mg "min" = none)
  (c1:Cal P w K mg base 2 "_law_state" ["_law_script","_law_k"] (K90P.spState K)) (c2:Cal P w K mg base 3 "_law_book" ["_law_state_here","_law_years","_law_most"] K90Q.spBook) (c3:Cal P w K mg base 1 "_law_rows" ["_law_promises","_law_sales"] spRows)
  (c4:Cal P w K mg base 13 "_law_year_right" ["_law_book_here","_law_rows_here","_law_year","_law_given"] GF) (c5:Cal P w K mg base 12 "sums_by" ["book","year"] (jq En)):FnOk P w K mg base CX0 63 f fd ["_law_script"] (vo K):=by
 refine F.ok scLL (fun vs H Q E h=>?_) (fun ai A outer s H vs Q E hr h=>?_)
 ·obtain ⟨a,ns,rfl,_⟩:=h;rfl
 ·obtain ⟨a,ns,rfl,hS,hl,q⟩:=h
  refine K90P.ok_b (aN ⟨bV zB5 rfl (cA rfl Tr (aq (aO (il rfl) rfl Tm wQ (aq aB (aq (aO (fM rfl) rfl Tn wR (aq (aO bR rfl T.len PySem.boot_len (aq (pv 0) ao)) (aq aB ao))) ao))) ao)) (pgn 1 scLL.nd)
   (j6 (aN (lA 2 scLL.nd ⟨aH c1 hr (aq (pv 0) (aq (pv 1) ao))⟩)
   (aN (lA 3 scLL.nd ⟨aH c2 hr (aq (pv 2) (aq aB (aq aB ao)))⟩)
   (aN ⟨wY (i:=4) (j:=5) rfl scLL.nd rfl rfl (by decide) rfl rfl (aq (pX bW (aH c3 hr (aq (pX bW (pv 3) aB) (aq (pX bW (pv 3) aB) ao))) aB) (aq qZ ao)) rfl⟩
   (aN ⟨bV zB5 rfl (cA rfl Tr (aq (aO bR rfl T.len PySem.boot_len (aq (pX bW (pv 3) aB) ao)) ao)) (pgn 6 scLL.nd)
    (j6 (aN ⟨cB (dq (eQ (aH c4 hr (aq (pv 3) (aq (pv 4) (aq (pv 6) (aq (pv 5) ao))))))) (aG (aQ gG)) bh⟩
    (cD ⟨cB (aZ (ye (S:=fun _=>True) (CK hr)) (bH ["_law_one"] [none] rfl (cC (aH c5 hr (aq (pv 3) (aq (pv 6) ao)))) (fun C fp pins s₂ H₂=>⟨pgn 0 HY,gf (aZ xj (pX (K90P.ix_tupK (K:=K) rfl) (pv 0) aB) (aV bG (pX (K90P.ix_tupK (K:=K) rfl) (pv 0) aB) (pX (K90P.ix_tupK (K:=K) rfl) (pv 0) aB)) (bj _)),pv 0⟩) (fun C=>trivial) ⟨rfl,rfl,rfl,rfl⟩) (cQ ao) (bj _)) (aG (aQ gG)) bh⟩)))⟩
   (cD ⟨yd (bV zB5 rfl (uN (pv 5)) (bz rfl (aj (pgn 7 scLL.nd) (aj (pgn 8 scLL.nd) (aj (pgn 9 scLL.nd) aR))))
    (aG (cB (aZ iV (fB (fP hr) (pv 5) (bA (aq (pv 7) (aq (pv 8) (aq (pv 9) ao)))) (fun _ _=>rfl)) (pX bB (fB (fP hr) (pv 4) (bA (aq (pv 8) (aq (pv 7) ao))) (fun _ _=>rfl)) (pv 9)) (bj _)) (aG (aQ gG)) bh)))⟩))))))⟩
   (cD (tE Fx))) ?_
  refine aF ?_;have Qw:(ns.map V.int).length<=63:=by rw [zA1];exact hl
  refine ⟨_,rfl,a,_,rfl,.inl hS,_,_,rfl,_,_,rfl,_,rfl,?_,?_,?_⟩
  ·split <;> split <;> lia
  ·split <;> split <;> lia
  refine cY (lo:=0) (fun i σ Hc=>∃ x1 x2 x3 x4 x5 x6 x7 x8 x9,σ=[some (.ref a),x1,x2,x3,x4,x5,x6,x7,x8,x9]/\Same H Hc) ?_ ?_ ?_
  ·exact ⟨none,none,none,none,none,none,none,none,none,rfl,Same.refl H⟩
  ·rintro i σ H1 hi ⟨x1,x2,x3,x4,x5,x6,x7,x8,x9,rfl,s1⟩;refine aK ?_;refine rO fun De ku=>?_;refine aF (aW ?_);refine ⟨_,rfl,_,rfl,a,ns,_,rfl,s1.seq hS,by lia,fun st x y z hn D0 Mi qE=>?_⟩;have Mj:H st=none:=s1.free hn
   have g1:K90P.StAt (upd H1 st (.lst [.int x,.int y,.int z])) st:=⟨x,y,z,aa,D0,Mi,qE⟩
   have s2:Same H (upd H1 st (.lst [.int x,.int y,.int z])):=s1.updR hn;generalize upd H1 st (.lst [.int x,.int y,.int z])=H2 at g1 s2 ⊢;refine aK ?_;dsimp only;refine aF (aW ?_);refine ⟨_,rfl,st,12,10,rfl,g1,by decide,by decide,by decide,by decide,fun bk ac xc cs ap xp ps ae xs ss H3 d3 eb rc lc1 Jx okc rp lp okp rs ls df tJ=>?_⟩;have S3:Same H H3:=fun b o e=>d3.bt b o (s2 _ _ e) (aD e Mj);have Ml:cs.length<=12:=by lia
   have B3:TB H3 bk ac xc cs ap xp ps ae xs ss:=⟨⟨eb,rc,fun r hr=>⟨(okc r hr).1,fun x hx=>((okc r hr).2 x hx).1⟩,by lia,rp,by lia,okp,rs,by lia,fun s hs=>(df s hs).1,tJ⟩,okc,lc1⟩
   have Qx:=rc.l;clear rc rp rs df d3 s2 s1 g1;refine aK ?_;dsimp only;refine aF ?_;refine ⟨_,rfl,bk,_,1,.ref ap,rfl,rfl,SqT.of eb,rfl,_,rfl,bk,_,2,.ref ae,rfl,rfl,SqT.of eb,rfl,ap,xp,ps,ae,xs,ss,rfl,B3.b.rp,B3.b.lp,B3.b.okp,B3.b.rs,by have:=B3.b.ls;lia,B3.b.h5,fun t fo H4 s4 et hL=>?_⟩;obtain ⟨kr,BA⟩:=hL tJ;refine ⟨t,_,0,.ref fo,rfl,rfl,SqT.of et,rfl,fun gd AB=>⟨_,_,rfl,?_⟩⟩;have s5:=Same.upd (o:=.dT []) AB;have JI:H gd=none:=(S3.trans s4).free AB
   have ne:fo≠gd:=fun z=>by rw [<- z,BA.e] at AB;cases AB
   have S5:=(S3.trans s4).trans s5;have B5:=(B3.same s4).same s5
   have R5:RwAt (upd H4 gd (.dT [])) fo ps ss kr:=⟨s5 _ _ BA.e,fun n y h=>by
    obtain ⟨d,e1,e2⟩:=BA.g n y h
    exact ⟨d,e1,s5 _ _ e2⟩⟩
   have G5:GvAt (upd H4 gd (.dT [])) gd (bU cs ps ss 0) []:=⟨aa,fun k=>rfl,fun q hq=>(by cases hq),zAp _⟩
   generalize upd H4 gd (.dT [])=H5 at S5 B5 R5 G5 ⊢;clear s4 s5 AB BA et B3 S3 eb hL;dsimp only;refine aF ?_;refine ⟨_,rfl,bk,_,0,.ref ac,rfl,rfl,SqT.of B5.b.e,rfl,ac,_,rfl,.inr (SqT.of B5.b.rc.e),_,rfl,?_,?_,?_⟩
   ·lia
   ·lia
   refine cY (lo:=0) (fun j σ Hc=>∃ x6 kv,σ=[some (.ref a),some (.int (0+(i:Int))),some (.ref st),some (.ref bk),some (.ref fo),some (.ref gd),x6,x7,x8,x9]/\Bt gd H5 Hc/\GvAt Hc gd (bU cs ps ss j) kv) ?_ ?_ ?_
   ·exact ⟨_,[],rfl,fun _ _ e _=>e,G5⟩
   ·rintro j σ Hc hj ⟨x6,kv,rfl,bt,gv⟩;refine aK ?_;have z0:(0:Int)+(j:Int)=j:=by lia
    rw [z0];have hj:j < cs.length:=by lia
    have j0:(0:Int)<=j:=by lia
    have j1:(j:Int) < cs.length:=by lia
    have BC:=B5.keep (bt.tups G5.e);have RC:=R5.bt bt G5.e ne;refine aF ?_;refine ⟨_,rfl,_,rfl,_,rfl,_,rfl,bk,fo,gd,j,ac,xc,cs,ap,xp,ps,ae,xs,ss,kr,kv,rfl,BC,hj,RC,ne,gv,fun Mm H6 b6 Mn=>?_⟩;refine ⟨_,rfl,?_⟩;refine bD (du ?_);dsimp only;have B6:=BC.keep (b6.tups gv.e);have Mo:=bt.trans b6;clear BC RC b6 gv bt;refine ⟨_,rfl,_,rfl,B6.by_ j0 j1 fun l tT H7 s7 nl Iv el ln ea=>⟨l,rfl,⟨_,SqL.of el⟩,fc 8 (fun i ys σ Hj=>Same H7 Hj/\(∃ o1,σ=[o1])/\ys=[]) ⟨Same.refl _,⟨_,rfl⟩,rfl⟩ (by rw [sizeLine_eq];decide) ?_ ?_⟩⟩
    ·rintro i ys σ Hj hi hy ⟨sj,⟨o1,rfl⟩,rfl⟩;have fw:i < tT.length:=by lia
     have ex:(tT.map V.ref)[i]?=some (.ref tT[i]):=by rw [zAb,zA0 fw];rfl
     have et:=sj _ _ (ea i _ (zA0 fw));rw [zAi] at et;have BB:=wN B6.bko (m:=j+1) (by lia) hi;have e3:mF cs ps ss (j+1) i=[fl (mF cs ps ss (j+1) i) 0,fl (mF cs ps ss (j+1) i) 1,fl (mF cs ps ss (j+1) i) 2]:=rfl;rw [e3] at et;generalize fl (mF cs ps ss (j+1) i) 0=A0 at et BB;generalize fl (mF cs ps ss (j+1) i) 1=A1 at et BB;generalize fl (mF cs ps ss (j+1) i) 2=A2 at et BB;refine ⟨⟨_,_,SqL.of (sj _ _ el),ex⟩,fun v H' y R hR=>?_⟩;obtain ⟨rfl,y⟩:=y;have hv:=y _ (SqL.of (sj _ _ el));rw [ex] at hv;cases hv;refine aK ?_;refine ⟨_,rfl,tT[i],_,0,.int A0,rfl,rfl,SqT.of et,rfl,_,rfl,tT[i],_,1,.int A1,rfl,rfl,SqT.of et,rfl,_,rfl,tT[i],_,2,.int A2,rfl,rfl,SqT.of et,rfl,_,_,rfl,rfl,rfl,_,rfl,?_⟩;rw [BB,zAt rfl];exact bD (hR _ _ _ (zAp _) ⟨sj,⟨_,rfl⟩,rfl⟩)
    rintro ys σ H8 hy ⟨s8,_,rfl⟩;refine ⟨⟨_,SqL.of (s8 _ _ el),by rw [zA1,ln];exact zA3 _⟩,fun la kX=>⟨zL,fun lb Bz=>?_⟩⟩;have u8:=Same.upd (o:=.lst []) Bz;have S8:=(s8.updR (o:=.lst []) kX).trans u8;have ko:=u8 _ _ (aa (H:=H8) (a:=la) (o:=.lst []));have tS:=aa (H:=upd H8 la (.lst [])) (a:=lb) (o:=.lst []);generalize upd (upd H8 la (.lst [])) lb (.lst [])=H9 at S8 ko tS ⊢;refine ⟨.list [],.lst trivial ko .nil,.lst trivial tS .nil,rfl,rfl,_,rfl,?_⟩;refine bD ?_;have S9:=s7.trans S8;exact ⟨_,Mm,rfl,Mo.same S9,Mn.same S9⟩
   rintro σ H6 ⟨x6,kv,rfl,bt,gv⟩;rw [show ((xc.length:Int)).toNat=cs.length by lia] at gv;have B6:=B5.keep (bt.tups G5.e);have R6:=R5.bt bt G5.e ne;have S6:Same H H6:=fun b o e=>bt b o (S5 _ _ e) (aD e JI);clear B5 R5 S5 bt G5;dsimp only
   obtain ⟨m,hm⟩:∃ m,cs.length=m+1:=⟨cs.length - 1,by lia⟩
   rw [hm] at gv;refine ⟨gd,kv,gv.e,fun o=>?_⟩
   have BD:∀ b u,H6 b=some u->b≠gd->upd H6 gd (.frz o (.dT kv)) b=some u:=fun b u e n=>by rw [aC n];exact e
   have eF:upd H6 gd (.frz o (.dT kv)) gd=some (.frz o (.dT kv)):=aa;have eR:=BD _ _ R6.e ne
   have gR:∀ n y,dom ps n y->∃ d,cF kr (ky n y)=some (.ref d)/\upd H6 gd (.frz o (.dT kv)) d=some (.lst ((K90.hl ps ss n y).map V.int)):=fun n y h=>by
    obtain ⟨d,e1,e2⟩:=R6.g n y h;exact ⟨d,e1,BD _ _ e2 fun z=>by rw [z,gv.e] at e2;cases e2⟩
   generalize upd H6 gd (.frz o (.dT kv))=HF at eF eR gR BD ⊢;refine ⟨_,rfl,gd,o,kv,rfl,eF,?_⟩;refine zK (fun j σ Hc=>∃ x7 x8 x9,σ=[some (.ref a),some (.int (0+(i:Int))),some (.ref st),some (.ref bk),some (.ref fo),some (.ref gd),x6,x7,x8,x9]/\Same HF Hc) ?_ ?_ ?_ ?_
   ·exact ⟨_,_,_,rfl,Same.refl _⟩
   ·rintro j σ Hc _ ⟨x7,x8,x9,rfl,sc⟩;exact sc _ _ eF
   ·rintro j b k v σ Hc e1 e2 ⟨x7,x8,x9,rfl,sc⟩;obtain ⟨r,fA,ek⟩:=gv.k k (zA5.mpr ⟨(k,v),zB6 e1,rfl⟩);subst ek;have gr:=sI B6.bko fA;obtain ⟨_,_,dm,c0,c1⟩:=u6 _ r fA;obtain ⟨u,eu⟩:=zM e1;have ev:=gv.v (keyOf r);rw [eu] at ev;have ev:u=.int (sF (isK (keyOf r)) (bU cs ps ss (m+1))):=ev;subst ev;have dm:dom ps (fl r 1) (fl r 0):=dm;have c0:0<=fl r 2:=c0;have c1:fl r 2 < 8:=c1;obtain ⟨dr,q1,q2⟩:=gR _ _ dm
    have sf:atI ((K90.hl ps ss (fl r 1) (fl r 0)).map V.int) (fl r 2)=some (.int ((K90.hl ps ss (fl r 1) (fl r 0)).getD (fl r 2).toNat 0)):=by
     have:=cu (dw (L:=K90.hl ps ss (fl r 1) (fl r 0)) (i:=(fl r 2).toNat) (by rw [qG];lia));rw [show (((fl r 2).toNat:Nat):Int)=fl r 2 by lia] at this;exact this
    have e2:Hc b=some (.tup [.int (fl r 0),.int (fl r 1),.int (fl r 2)]):=e2;refine ⟨b,_,rfl,SqT.of e2,rfl,_,_,rfl,_,_,rfl,_,_,rfl,rfl,?_⟩;refine ⟨_,rfl,_,rfl,_,rfl,_,rfl,zL,fun t1 rX=>?_⟩;have s5:=Same.upd (o:=.tup [.int (fl r 0),.int (fl r 1),.int (fl r 2)]) rX;have nS:upd Hc t1 (.tup [.int (fl r 0),.int (fl r 1),.int (fl r 2)]) t1=some (.tup (((keyOf r).map (Sum.inl:Int->Key)).map kV)):=aa;have S5:=sc.trans s5;generalize upd Hc t1 (.tup [.int (fl r 0),.int (fl r 1),.int (fl r 2)])=H8 at S5 nS ⊢;refine ⟨gd,_,rfl,.inr ⟨kv,_,t1,.inr ⟨o,S5 _ _ eF⟩,rfl,nS,eu.symm⟩,?_⟩;refine ⟨_,rfl,_,rfl,_,rfl,zL,fun t2 lT=>?_⟩;have s6:=Same.upd (o:=.tup [.int (fl r 1),.int (fl r 0)]) lT;have gu:upd H8 t2 (.tup [.int (fl r 1),.int (fl r 0)]) t2=some (.tup ((ky (fl r 1) (fl r 0)).map kV)):=aa;have S9:=S5.trans s6;generalize upd H8 t2 (.tup [.int (fl r 1),.int (fl r 0)])=H9 at S9 gu ⊢;refine ⟨fo,.ref dr,rfl,by rw [<- q1];exact DGet.t (S9 _ _ eR) gu,_,rfl,dr,_,fl r 2,_,rfl,rfl,SqL.of (S9 _ _ q2),sf,_,_,rfl,rfl,_,rfl,?_⟩;rw [zB2 (by lia)];refine bD ?_;exact ⟨_,_,_,rfl,S9⟩
   ·rintro σ Hc ⟨x7,x8,x9,rfl,sc⟩;refine ⟨sc _ _ eF,ku _ _ ⟨_,_,_,_,_,_,_,_,_,rfl,fun b u e=>?_⟩⟩;have nb:=aD e JI;rw [aC nb];exact sc _ _ (BD _ _ (S6 _ _ e) nb)
  ·rintro σ Hc ⟨x1,x2,x3,x4,x5,x6,x7,x8,x9,rfl,sc⟩;exact q Hc
end K90
namespace PySem.W.Fast
abbrev T:=True
theorem t:T:=⟨⟩
theorem tw15913519975001453696:T:=t
theorem tw11177258734992373920:T:=t
theorem tw7181251472884880640:T:=t
theorem tw15402656403696065888:T:=t
theorem tw16074063085346791808:T:=t
theorem tw5913991548131823072:T:=t
theorem tw10563122726302648928:T:=t
theorem tw10838192687898561280:T:=t
theorem tw16894759686057880320:T:=t
theorem tw17965898543327022912:T:=t
theorem tw2079888777585468352:T:=t
theorem tw1400272088393591776:T:=t
theorem tw9944372165968353281:T:=t
theorem tw2583592637433984225:T:=t
theorem tw18050826847715187073:T:=t
theorem tw3274690337885940097:T:=t
theorem tw12879302930159915681:T:=t
theorem tw14787804881783703425:T:=t
theorem tw11847930736161595265:T:=t
theorem tw7131998183208782785:T:=t
theorem tw15587881470131533826:T:=t
theorem tw1254393682474461218:T:=t
theorem tw4908713078294458562:T:=t
theorem tw14859104698806268130:T:=t
theorem tw2778452302797623618:T:=t
theorem tw13753756398937781666:T:=t
theorem tw18348003137393272226:T:=t
theorem tw10480632965283824098:T:=t
theorem tw9243071708641096322:T:=t
theorem tw15959297030290350786:T:=t
theorem tw1552350243014744802:T:=t
theorem tw16932067022429004803:T:=t
theorem tw12348639731212276739:T:=t
theorem tw6338153563090442339:T:=t
theorem tw12844792541044509827:T:=t
theorem tw7708229126094377123:T:=t
theorem tw17214600110886997315:T:=t
theorem tw18298437140141027651:T:=t
theorem tw16031049504070174179:T:=t
theorem tw11255425927073946115:T:=t
theorem tw5600609130204109443:T:=t
theorem tw15503567493714674403:T:=t
theorem tw3140431703306403651:T:=t
theorem tw14226678297758360547:T:=t
theorem tw13904569485524968484:T:=t
theorem tw104451903395936452:T:=t
theorem tw10416547077391201572:T:=t
theorem tw16477494349423684900:T:=t
theorem tw6119332003629477188:T:=t
theorem tw180669562772602212:T:=t
theorem tw6683875497514105220:T:=t
theorem tw16934597610890413444:T:=t
theorem tw12886644804787155364:T:=t
theorem tw11059260076212878852:T:=t
theorem tw7045545326120325796:T:=t
theorem tw14333217446420591396:T:=t
theorem tw5366936846393298724:T:=t
theorem tw16081595549838061476:T:=t
theorem tw12062327336166572996:T:=t
theorem tw12578306983174994981:T:=t
theorem tw3291714472656586885:T:=t
theorem tw5568314936895081637:T:=t
theorem tw5780193633270735109:T:=t
theorem tw216162971774166469:T:=t
theorem tw15034975349793291717:T:=t
theorem tw15625021872865630693:T:=t
theorem tw9377930686801194501:T:=t
theorem tw4383206214417661509:T:=t
theorem tw17647193240216271493:T:=t
theorem tw17374923690514301605:T:=t
theorem tw3955332193402913445:T:=t
theorem tw16237038942510467941:T:=t
theorem tw13481029379033175941:T:=t
theorem tw9958056151427376069:T:=t
theorem tw7983872445759253477:T:=t
theorem tw6043117828218158118:T:=t
theorem tw293016206906300486:T:=t
theorem tw2324238833639206054:T:=t
theorem tw11639521323875051782:T:=t
theorem tw4421396145831546214:T:=t
theorem tw15007352051219420614:T:=t
theorem tw5413801749448395238:T:=t
theorem tw8680530269763546630:T:=t
theorem tw2487236389292983046:T:=t
theorem tw1899843415939327814:T:=t
theorem tw10165973302052832070:T:=t
theorem tw12130109443239864166:T:=t
theorem tw12427585733387048838:T:=t
theorem tw2261876348327812998:T:=t
theorem tw3039816986509413318:T:=t
theorem tw11906532387644054502:T:=t
theorem tw10864718973671126279:T:=t
theorem tw15668051901445946855:T:=t
theorem tw6637965076309726791:T:=t
theorem tw4665099370827033223:T:=t
theorem tw2485987198853832359:T:=t
theorem tw9281238752500427431:T:=t
theorem tw3574368060605046792:T:=t
theorem tw14257284118869590056:T:=t
theorem tw8978747654677721160:T:=t
theorem tw13173390681812579528:T:=t
theorem tw15845102816031850856:T:=t
theorem tw750631885152025000:T:=t
theorem tw3436157811568656840:T:=t
theorem tw16410442846918606408:T:=t
theorem tw10632876943431192168:T:=t
theorem tw15935134267552825992:T:=t
theorem tw15397992883906620072:T:=t
theorem tw14977857149453510344:T:=t
theorem tw14621407883448016616:T:=t
theorem tw3717882597663177448:T:=t
theorem tw3667328099333984136:T:=t
theorem tw3142658156166348744:T:=t
theorem tw5888511829050806409:T:=t
theorem tw12314276761471676745:T:=t
theorem tw5704281493678184809:T:=t
theorem tw14978133828391906761:T:=t
theorem tw12442323243842635401:T:=t
theorem tw18243335196506871593:T:=t
theorem tw12038013291651073130:T:=t
theorem tw15979897481883115626:T:=t
theorem tw11259907978927183018:T:=t
theorem tw11653651489361628426:T:=t
theorem tw12186588510706919786:T:=t
theorem tw2179702599700801034:T:=t
theorem tw1630709603953883882:T:=t
theorem tw10364069829172653802:T:=t
theorem tw17543483788792807178:T:=t
theorem tw6360563404940313354:T:=t
theorem tw7058473297361694570:T:=t
theorem tw3557467782279180363:T:=t
theorem tw856846509974992971:T:=t
theorem tw963484016550963307:T:=t
theorem tw9715070851197041835:T:=t
theorem tw12650344534472685739:T:=t
theorem tw977575930745192747:T:=t
theorem tw13505511338979825995:T:=t
theorem tw9277821625465036139:T:=t
theorem tw16636014278358692267:T:=t
theorem tw8149236965014213227:T:=t
theorem tw6338824834114451147:T:=t
theorem tw4428130074741257003:T:=t
theorem tw1376270669586821035:T:=t
theorem tw4078022556155263915:T:=t
theorem tw15025174665018742731:T:=t
theorem tw3980256773544281067:T:=t
theorem tw9184895128445260844:T:=t
theorem tw6534665383755281516:T:=t
theorem tw9421049553521639532:T:=t
theorem tw4866112807711375596:T:=t
theorem tw15904845321425565996:T:=t
theorem tw3224160865468453324:T:=t
theorem tw10918553952049345004:T:=t
theorem tw2615497091950194444:T:=t
theorem tw1277057364114945804:T:=t
theorem tw718805468031076204:T:=t
theorem tw10716088382124091308:T:=t
theorem tw10269173260100057036:T:=t
theorem tw6923924707773989933:T:=t
theorem tw8858214553236043853:T:=t
theorem tw11171806729044958445:T:=t
theorem tw7335337235190931853:T:=t
theorem tw3510207627278048685:T:=t
theorem tw7558177685914623629:T:=t
theorem tw1243123015426768621:T:=t
theorem tw5356987652548628301:T:=t
theorem tw10128863990280994701:T:=t
theorem tw15495829800720373741:T:=t
theorem tw9907530406157972622:T:=t
theorem tw18300133570388770990:T:=t
theorem tw16795820149664011598:T:=t
theorem tw2077367597292844430:T:=t
theorem tw14003778557665087950:T:=t
theorem tw4586971959179710990:T:=t
theorem tw9435057139506757230:T:=t
theorem tw17303096031758624462:T:=t
theorem tw15126914610509226990:T:=t
theorem tw2556632088327825423:T:=t
theorem tw16673833363084954703:T:=t
theorem tw1506577245569614063:T:=t
theorem tw2366753951252260207:T:=t
theorem tw9248038205032748431:T:=t
theorem tw1724344536961012111:T:=t
theorem tw16052237207620782543:T:=t
theorem tw632889625123048911:T:=t
theorem tw16132748355977999855:T:=t
theorem tw5265494254508516847:T:=t
theorem tw580303703465409071:T:=t
theorem tw8621662899438301807:T:=t
theorem tw9960716521597172495:T:=t
theorem tw13204358189549711311:T:=t
theorem tw2834130124537059504:T:=t
theorem tw2166301061937786288:T:=t
theorem tw1214751836251824752:T:=t
theorem tw13286465989676396240:T:=t
theorem tw6829674952334112624:T:=t
theorem tw13607793916963758992:T:=t
theorem tw684099653001635760:T:=t
theorem tw10519587223554670544:T:=t
theorem tw14094408092391995344:T:=t
theorem tw3118492516571803729:T:=t
theorem tw7427672592415735921:T:=t
theorem tw861603664751766673:T:=t
theorem tw680336212426841265:T:=t
theorem tw17951562629299504369:T:=t
theorem tw3487979986830526705:T:=t
theorem tw6521000323832984817:T:=t
theorem tw7433247559903167857:T:=t
theorem tw3843005989325164113:T:=t
theorem tw9575835315029480049:T:=t
theorem tw2715613156781907569:T:=t
theorem tw7192399864294078065:T:=t
theorem tw7845546090787377809:T:=t
theorem tw13387050632417261201:T:=t
theorem tw266522520668573393:T:=t
theorem tw14798069503481458481:T:=t
theorem tw11087380436168390449:T:=t
theorem tw1498373077394064209:T:=t
theorem tw10677444902783017266:T:=t
theorem tw4618814516538949170:T:=t
theorem tw4036788073693716050:T:=t
theorem tw10826858249736716914:T:=t
theorem tw8123534586420151986:T:=t
theorem tw6916658575550865234:T:=t
theorem tw6870948953910582194:T:=t
theorem tw17536759167788845139:T:=t
theorem tw1541527475785349299:T:=t
theorem tw3312139044525594835:T:=t
theorem tw5970610035268272371:T:=t
theorem tw11050639010709119475:T:=t
theorem tw10150734936129832563:T:=t
theorem tw3871659101867541363:T:=t
theorem tw4806679261780861843:T:=t
theorem tw5535891861186447540:T:=t
theorem tw7924695350008322260:T:=t
theorem tw7883593054837269844:T:=t
theorem tw17391759379940496756:T:=t
theorem tw14047793965293609428:T:=t
theorem tw7610031100681881108:T:=t
theorem tw17378633869489622580:T:=t
theorem tw4747832144626667188:T:=t
theorem tw12499814049442012884:T:=t
theorem tw3939223298378268404:T:=t
theorem tw10149389422424712980:T:=t
theorem tw9763151130612032500:T:=t
theorem tw56344263601248244:T:=t
theorem tw7754682545024757813:T:=t
theorem tw5023321658180504661:T:=t
theorem tw15054619281618342261:T:=t
theorem tw15900437149366167957:T:=t
theorem tw6180140150268847605:T:=t
theorem tw242356346879061653:T:=t
theorem tw3121015733998867125:T:=t
theorem tw11994697878179884757:T:=t
theorem tw18234217896236064597:T:=t
theorem tw11731458422952644469:T:=t
theorem tw17467974892028945365:T:=t
theorem tw13305681272849600726:T:=t
theorem tw12314673175245366582:T:=t
theorem tw8100925471752705366:T:=t
theorem tw17649940845135934934:T:=t
theorem tw7628624238512929334:T:=t
theorem tw403326603858748054:T:=t
theorem tw3869393109969772502:T:=t
theorem tw4546067800795730934:T:=t
theorem tw15854664145659361399:T:=t
theorem tw15185066728289047703:T:=t
theorem tw1312720562936716535:T:=t
theorem tw4243442001987265815:T:=t
theorem tw9808835053106853143:T:=t
theorem tw14715751344433244471:T:=t
theorem tw2462803358426875319:T:=t
theorem tw17600032755312743991:T:=t
theorem tw15146663027466720023:T:=t
theorem tw13996168293118540663:T:=t
theorem tw10026913481882198040:T:=t
theorem tw2144253022675713240:T:=t
theorem tw8600335831194712344:T:=t
theorem tw141860876622216568:T:=t
theorem tw11477910960413010296:T:=t
theorem tw15400359977564597624:T:=t
theorem tw3068479529020708280:T:=t
theorem tw1191852578894294456:T:=t
theorem tw10797819310042053080:T:=t
theorem tw4351871792991225496:T:=t
theorem tw18441408785976861560:T:=t
theorem tw11636957340941471897:T:=t
theorem tw17810039415177869465:T:=t
theorem tw3226883756307562713:T:=t
theorem tw2857829027519033561:T:=t
theorem tw9200860206418482489:T:=t
theorem tw8845565278291082649:T:=t
theorem tw17495530083380046265:T:=t
theorem tw6756215907901512537:T:=t
theorem tw9630474232146661305:T:=t
theorem tw2547277237458108506:T:=t
theorem tw14171364395029033082:T:=t
theorem tw4969648578001683706:T:=t
theorem tw16776287881631675706:T:=t
theorem tw5606573240776842874:T:=t
theorem tw4958801578991213178:T:=t
theorem tw15455466597495884506:T:=t
theorem tw968350328268314362:T:=t
theorem tw7437321592519372602:T:=t
theorem tw2899623037843442522:T:=t
theorem tw5113319009124739962:T:=t
theorem tw6762509862510462874:T:=t
theorem tw703058903044759835:T:=t
theorem tw15828575917587168699:T:=t
theorem tw14724934700276201915:T:=t
theorem tw9942086902560186843:T:=t
theorem tw10569248541974390363:T:=t
theorem tw6484190862206848635:T:=t
theorem tw10417570932172177083:T:=t
theorem tw7040280955530783451:T:=t
theorem tw10872406064706383611:T:=t
theorem tw17323455974825779003:T:=t
theorem tw7185454105823104859:T:=t
theorem tw2371549436736280475:T:=t
theorem tw12189719254752504827:T:=t
theorem tw7972455011206837340:T:=t
theorem tw13657707073717866620:T:=t
theorem tw17333326965238449308:T:=t
theorem tw2903143707673482428:T:=t
theorem tw11341115552233703708:T:=t
theorem tw18443579104232307996:T:=t
theorem tw5857011802818815420:T:=t
theorem tw11766718198131169852:T:=t
theorem tw15146494241189389948:T:=t
theorem tw7143459978876310172:T:=t
theorem tw5768270199039684284:T:=t
theorem tw16327202886240566972:T:=t
theorem tw5379113389341903676:T:=t
theorem tw5343133245747122044:T:=t
theorem tw11638823064270689212:T:=t
theorem tw2212211780746142749:T:=t
theorem tw18021212256454054973:T:=t
theorem tw18360464832943511645:T:=t
theorem tw3269587291265592413:T:=t
theorem tw128943163209542749:T:=t
theorem tw14764663964359644285:T:=t
theorem tw1808524820338217117:T:=t
theorem tw14302408597622703261:T:=t
theorem tw16047831832688010397:T:=t
theorem tw8372863512977977565:T:=t
theorem tw2484544707144710365:T:=t
theorem tw1481224553490821437:T:=t
theorem tw4998616208795724221:T:=t
theorem tw1810163271529363037:T:=t
theorem tw1948851710651595389:T:=t
theorem tw350049798653644413:T:=t
theorem tw15157021263349177053:T:=t
theorem tw2325619273516088061:T:=t
theorem tw1396315655456635837:T:=t
theorem tw14582828259258396605:T:=t
theorem tw14035655649552014301:T:=t
theorem tw15009863137374267357:T:=t
theorem tw15572441823714602973:T:=t
theorem tw18312174437209222174:T:=t
theorem tw1613096410070531166:T:=t
theorem tw16789381827363205310:T:=t
theorem tw5280318713410017534:T:=t
theorem tw9160523821033456894:T:=t
theorem tw6782380392096505150:T:=t
theorem tw10558586041358423390:T:=t
theorem tw5773513566430152030:T:=t
theorem tw12913534043840900574:T:=t
theorem tw3810443244968199710:T:=t
theorem tw10026835278868069278:T:=t
theorem tw6445884865507829855:T:=t
theorem tw1175634170279491039:T:=t
theorem tw8631258357930420735:T:=t
theorem tw890159151517931199:T:=t
theorem tw5004106345722307423:T:=t
theorem tw4563443903765311327:T:=t
theorem tw17308965361483808607:T:=t
theorem tw6786032240873988991:T:=t
theorem tw14416147406211911551:T:=t
theorem tw7748490137873360799:T:=t
theorem tw13460721504178941951:T:=t
theorem tw4349839286378216797:T:=t
end PySem.W.Fast
namespace K90
open PySem L2
theorem el1 {C:List Value->Prop}(h:∀ a0:Value,C [a0]):∀ us:List Value,us.length=1->C us:=fun us e=>match us,e with | [a0],_=>h a0
theorem el2 {C:List Value->Prop}(h:∀ a0 a1:Value,C [a0,a1]):∀ us:List Value,us.length=2->C us:=fun us e=>match us,e with | [a0,a1],_=>h a0 a1
theorem el3 {C:List Value->Prop}(h:∀ a0 a1 a2:Value,C [a0,a1,a2]):∀ us:List Value,us.length=3->C us:=fun us e=>match us,e with | [a0,a1,a2],_=>h a0 a1 a2
theorem el4 {C:List Value->Prop}(h:∀ a0 a1 a2 a3:Value,C [a0,a1,a2,a3]):∀ us:List Value,us.length=4->C us:=fun us e=>match us,e with | [a0,a1,a2,a3],_=>h a0 a1 a2 a3
theorem el5 {C:List Value->Prop}(h:∀ a0 a1 a2 a3 a4:Value,C [a0,a1,a2,a3,a4]):∀ us:List Value,us.length=5->C us:=fun us e=>match us,e with | [a0,a1,a2,a3,a4],_=>h a0 a1 a2 a3 a4
def Has (K:PySem.W.Frag)(x:Str)(st:Stmt):Prop:=∃ (f:Addr) (od an:Option Addr) (sl:Array (Option Value)) (oc kV dc pm cd ct:Value),PySem.W.nsIn K mainGlobals x=some (some (.ref f)) /\
 K.lookup f=some ⟨oc,od,.func (PySem.W.fnOf x x (fu st) (dY st) (aJ st) .none kV dc pm an cd ct),sl⟩/\PySem.W.codeIn K cd x=true/\PySem.W.keepIn K (.ref f)=true
theorem has_mk {K:PySem.W.Frag}{x:Str}{st:Stmt}{f:Addr}{od an:Option Addr}{sl:Array (Option Value)}{oc kV dc pm cd ct:Value}(a:PySem.W.nsIn K mainGlobals x=some (some (.ref f)))
  (l:K.lookup f=some ⟨oc,od,.func (PySem.W.fnOf x x (fu st) (dY st) (aJ st) .none kV dc pm an cd ct),sl⟩) (c:PySem.W.codeIn K cd x=true) (k:PySem.W.keepIn K (.ref f)=true):Has K x st:=⟨f,od,an,sl,oc,kV,dc,pm,cd,ct,a,l,c,k⟩
theorem Has.get {K:PySem.W.Frag}{x:Str}{st:Stmt}{h:Heap}{mg:Str->Option Value}(H:Has K x st)(X:K.In h)(G:h.Ns mainGlobals mg):∃ f fd,Fun K x x st f fd/\mg x=some (.ref f):=by
 obtain ⟨f,od,an,sl,oc,kV,dc,pm,cd,ct,a,l,c,k⟩:=H;exact ⟨f,_,xx (st:=st) l c k,PySem.W.mg_of X G a⟩
theorem aU (P:Program)(w:World)(base:Heap){K:PySem.W.Frag}{mg:Str->Option Value}{k:Nat}{x:Str}{ps:List Str}{sp:Sp}{f:Addr}{fd:FuncData}(F:FnOk P w K mg base CX0 k f fd ps sp)(m:mg x=some (.ref f))(kp:PySem.W.keepIn K (.ref f)=true)(b:Binds K fd ps []):Cal P w K mg base k x ps sp:=⟨f,fd,F,m,kp,b⟩
theorem all_mk {l:PySem.W.OpenLaw}{w:World}{K:PySem.W.Frag}{h:Heap}{mg:Str->Option Value}{fa fL:Addr}{Mp JJ:Option Addr}{Mq:Array (Option Value)}{Mr JK JL sP E2 JM:Value}{t0 t1 t2 t3 t4 t5 t6 t7 t8 t9 JN:Tok}(X:K.In h)(G:h.Ns mainGlobals mg)(Ms:mg "law" = some (.ref fa))
  (h9:Has K "is_whole" (top 9))
  (h10:Has K "is_whole_from" (top 10))
  (h11:Has K "is_tuple_of" (top 11))
  (h12:Has K "are_wholes" (top 12))
  (h23:Has K "is_clip" (top 23))
  (h24:Has K "are_clips" (top 24))
  (h25:Has K "is_promise" (top 25))
  (h26:Has K "are_promises" (top 26))
  (h27:Has K "are_sales" (top 27))
  (h28:Has K "held_in" (top 28))
  (h29:Has K "is_sale_between" (top 29))
  (h30:Has K "sale_holds" (top 30))
  (h31:Has K "first_unheld" (top 31))
  (h32:Has K "is_book" (top 32))
  (h33:Has K "refuse_no_book" (top 33))
  (h37:Has K "are_weights" (top 37))
  (h38:Has K "refuse_unpartable" (top 38))
  (h39:Has K "places_by_rest" (top 39))
  (h40:Has K "parts_of" (top 40))
  (h41:Has K "parted" (top 41))
  (h43:Has K "sacks_of" (top 43))
  (h44:Has K "claims_in" (top 44))
  (h45:Has K "shares_of" (top 45))
  (h46:Has K "made_good" (top 46))
  (h47:Has K "sort_given" (top 47))
  (h48:Has K "year_given" (top 48))
  (h49:Has K "years_given" (top 49))
  (h50:Has K "refuse_no_year_of" (top 50))
  (h51:Has K "refuse_no_year" (top 51))
  (h55:Has K "owed_behind" (top 55))
  (h52:Has K "gifts_in" (top 52))
  (h53:Has K "left_in" (top 53))
  (h56:Has K "by_holder" (top 56))
  (h57:Has K "claims_to" (top 57))
  (h58:Has K "owed_by" (top 58))
  (h59:Has K "sums_by" (top 59))
  (h61:Has K "_law_cell_at" (top 61))
  (h62:Has K "_law_state" (top 62))
  (h63:Has K "_law_choice" (top 63))
  (h65:Has K "_law_rows" (top 65))
  (h66:Has K "_law_clips" (top 66))
  (h67:Has K "_law_promise" (top 67))
  (h68:Has K "_law_sale" (top 68))
  (h69:Has K "_law_book" (top 69))
  (h70:Has K "_law_year_right" (top 70))
  (aL:PySem.W.nsIn K mainGlobals "law" = some (some (.ref fL))) (lL:K.lookup fL=some ⟨Mr,Mp,.func (PySem.W.fnOf "law" "law" (fu (top 71)) (dY (top 71)) (aJ (top 71)) .none JK JL sP JJ E2 JM),Mq⟩) (cL:PySem.W.codeIn K E2 "law" = true) (kL:PySem.W.keepIn K (.ref fL)=true)
  (n0:PySem.W.nsIn K mainGlobals "SORTS" = some (some (.int 3 t0)))
  (n1:PySem.W.nsIn K mainGlobals "HOLDERS" = some (some (.int 8 t1)))
  (n2:PySem.W.nsIn K mainGlobals "LAST_YEAR" = some (some (.int 19 t2)))
  (n3:PySem.W.nsIn K mainGlobals "MOST_CLIPS" = some (some (.int 20 t3)))
  (n4:PySem.W.nsIn K mainGlobals "MOST_PROMISES" = some (some (.int 10 t4)))
  (n5:PySem.W.nsIn K mainGlobals "MOST_WOOL" = some (some (.int 999 t5)))
  (n6:PySem.W.nsIn K mainGlobals "MOST_SACKS" = some (some (.int 99 t6)))
  (n7:PySem.W.nsIn K mainGlobals "MOST_PRICE" = some (some (.int 1000000 t7)))
  (n8:PySem.W.nsIn K mainGlobals "MOST_SALES" = some (some (.int 12 t8)))
  (n9:PySem.W.nsIn K mainGlobals "MOST_WEIGHTS" = some (some (.int 80 t9)))
  (n10:PySem.W.nsIn K mainGlobals "MOST_WEIGHT" = some (some (.int 99 JN)))
  (bS:PySem.W.nsIn K mainGlobals "isinstance" = some none)
  (nX:PySem.W.nsIn K mainGlobals "int" = some none)
  (kC:PySem.W.nsIn K mainGlobals "bool" = some none)
  (hJ:PySem.W.nsIn K mainGlobals "tuple" = some none)
  (kD:PySem.W.nsIn K mainGlobals "len" = some none)
  (oe:PySem.W.nsIn K mainGlobals "all" = some none)
  (aw:PySem.W.nsIn K mainGlobals "range" = some none)
  (kF:PySem.W.nsIn K mainGlobals "list" = some none)
  (hU:PySem.W.nsIn K mainGlobals "max" = some none)
  (hV:PySem.W.nsIn K mainGlobals "min" = some none)
  (oj:PySem.W.nsIn K mainGlobals "zip" = some none)
  (aE:PySem.W.nsIn K mainGlobals "enumerate" = some none)
  (fE:PySem.W.nsIn K mainGlobals "sorted" = some none)
  (eC:PySem.W.nsIn K mainGlobals "sum" = some none)
  : ∃ fd:FuncData,(∀ (s:Shared) (v:Value),BindsTo s fd ⟨[v],[]⟩ [("_law_script",v)])/\∀ base:Heap,K.In base->base.Ns mainGlobals mg->FnOk l.prog w K mg base CX0 63 fa fd ["_law_script"] (vo K):=by
 have e:=Ms.symm.trans (PySem.W.mg_of X G aL);cases e;have FL:=xx (st:=top 71) lL cL kL;obtain ⟨f9,Qy,F9,m9⟩:=h9.get X G;have b9:=F9.binds (ps:=["thing"]) fun _ _ _ _ _ _=>el1 fun _=>rfl;obtain ⟨Qz,Mt,E3,Mu⟩:=h10.get X G;have Mv:=E3.binds (ps:=["thing","least","most"]) fun _ _ _ _ _ _=>el3 fun _ _ _=>rfl;obtain ⟨QA,Mw,E4,Mx⟩:=h11.get X G;have My:=E4.binds (ps:=["thing","fewest","most"]) fun _ _ _ _ _ _=>el3 fun _ _ _=>rfl;obtain ⟨QB,Mz,E5,MA⟩:=h12.get X G;have MB:=E5.binds (ps:=["thing","many"]) fun _ _ _ _ _ _=>el2 fun _ _=>rfl;obtain ⟨QC,MC,E6,MD⟩:=h23.get X G;have ME:=E6.binds (ps:=["thing"]) fun _ _ _ _ _ _=>el1 fun _=>rfl;obtain ⟨QD,MF,E7,MG⟩:=h24.get X G;have MJ:=E7.binds (ps:=["thing"]) fun _ _ _ _ _ _=>el1 fun _=>rfl;obtain ⟨QE,MK,E8,ML⟩:=h25.get X G;have MM:=E8.binds (ps:=["thing"]) fun _ _ _ _ _ _=>el1 fun _=>rfl;obtain ⟨QF,MN,E9,MO⟩:=h26.get X G;have MP:=E9.binds (ps:=["thing"]) fun _ _ _ _ _ _=>el1 fun _=>rfl;obtain ⟨QG,MQ,Fc,MR⟩:=h27.get X G;have MT:=Fc.binds (ps:=["thing"]) fun _ _ _ _ _ _=>el1 fun _=>rfl;obtain ⟨QH,MU,Fh,MV⟩:=h28.get X G;have MW:=Fh.binds (ps:=["promises","sales","number","year"]) fun _ _ _ _ _ _=>el4 fun _ _ _ _=>rfl;obtain ⟨QI,MX,Fm,MY⟩:=h29.get X G;have MZ:=Fm.binds (ps:=["promises","sale"]) fun _ _ _ _ _ _=>el2 fun _ _=>rfl;obtain ⟨QJ,M0,Fn,M3⟩:=h30.get X G;have M4:=Fn.binds (ps:=["promises","ahead","sale"]) fun _ _ _ _ _ _=>el3 fun _ _ _=>rfl;obtain ⟨QK,M5,Fs,M6⟩:=h31.get X G;have M7:=Fs.binds (ps:=["promises","sales"]) fun _ _ _ _ _ _=>el2 fun _ _=>rfl;obtain ⟨QL,M8,Fu,M9⟩:=h32.get X G;have Na:=Fu.binds (ps:=["thing"]) fun _ _ _ _ _ _=>el1 fun _=>rfl;obtain ⟨QM,Nb,FA,Nd⟩:=h33.get X G;have Nf:=FA.binds (ps:=["thing"]) fun _ _ _ _ _ _=>el1 fun _=>rfl;obtain ⟨QN,Ng,FC,Nh⟩:=h37.get X G;have Ni:=FC.binds (ps:=["thing"]) fun _ _ _ _ _ _=>el1 fun _=>rfl;obtain ⟨QO,Nj,FD,Nk⟩:=h38.get X G;have Nl:=FD.binds (ps:=["sacks","weights"]) fun _ _ _ _ _ _=>el2 fun _ _=>rfl;obtain ⟨QP,Nm,FE,Nn⟩:=h39.get X G;have Np:=FE.binds (ps:=["rests"]) fun _ _ _ _ _ _=>el1 fun _=>rfl;obtain ⟨QQ,Nq,FF,Nr⟩:=h40.get X G;have Nt:=FF.binds (ps:=["sacks","weights"]) fun _ _ _ _ _ _=>el2 fun _ _=>rfl;obtain ⟨QR,Nu,FG,Nv⟩:=h41.get X G;have Nw:=FG.binds (ps:=["sacks","weights"]) fun _ _ _ _ _ _=>el2 fun _ _=>rfl;obtain ⟨QS,Nx,FH,Ny⟩:=h43.get X G;have Nz:=FH.binds (ps:=["rows"]) fun _ _ _ _ _ _=>el1 fun _=>rfl;obtain ⟨QT,NA,FI,NB⟩:=h44.get X G;have NC:=FI.binds (ps:=["promises","sales","sort","year"]) fun _ _ _ _ _ _=>el4 fun _ _ _ _=>rfl;obtain ⟨QU,ND,FK,NF⟩:=h45.get X G;have NG:=FK.binds (ps:=["wool","claims"]) fun _ _ _ _ _ _=>el2 fun _ _=>rfl;obtain ⟨QV,NH,FO,NI⟩:=h46.get X G;have NJ:=FO.binds (ps:=["wool","owed"]) fun _ _ _ _ _ _=>el2 fun _ _=>rfl;obtain ⟨QW,NK,FR,NL⟩:=h47.get X G;have NM:=FR.binds (ps:=["wool","claims","owed"]) fun _ _ _ _ _ _=>el3 fun _ _ _=>rfl;obtain ⟨QX,NN,FU,NO⟩:=h48.get X G;have NQ:=FU.binds (ps:=["book","year","owed"]) fun _ _ _ _ _ _=>el3 fun _ _ _=>rfl;obtain ⟨QY,NR,FV,NS⟩:=h49.get X G;have NT:=FV.binds (ps:=["book","year"]) fun _ _ _ _ _ _=>el2 fun _ _=>rfl;obtain ⟨QZ,NU,FX,NV⟩:=h50.get X G;have NW:=FX.binds (ps:=["clips","year"]) fun _ _ _ _ _ _=>el2 fun _ _=>rfl;obtain ⟨Q0,NX,FY,NY⟩:=h51.get X G;have NZ:=FY.binds (ps:=["book","year"]) fun _ _ _ _ _ _=>el2 fun _ _=>rfl;obtain ⟨Q3,N0,F1,N1⟩:=h55.get X G;have N3:=F1.binds (ps:=["book","year"]) fun _ _ _ _ _ _=>el2 fun _ _=>rfl;obtain ⟨Q4,N4,F2,N5⟩:=h52.get X G;have N6:=F2.binds (ps:=["book","year"]) fun _ _ _ _ _ _=>el2 fun _ _=>rfl;obtain ⟨Q5,N7,F3,N8⟩:=h53.get X G;have N9:=F3.binds (ps:=["book","year"]) fun _ _ _ _ _ _=>el2 fun _ _=>rfl;obtain ⟨Q6,Oa,F4,Ob⟩:=h56.get X G;have Oc:=F4.binds (ps:=["rows"]) fun _ _ _ _ _ _=>el1 fun _=>rfl;obtain ⟨Q7,Od,F5,Oe⟩:=h57.get X G;have Of:=F5.binds (ps:=["book","year"]) fun _ _ _ _ _ _=>el2 fun _ _=>rfl;obtain ⟨Q8,Og,F6,Oh⟩:=h58.get X G;have Oi:=F6.binds (ps:=["book","year"]) fun _ _ _ _ _ _=>el2 fun _ _=>rfl;obtain ⟨Q9,Oj,F7,Ol⟩:=h59.get X G;have Om:=F7.binds (ps:=["book","year"]) fun _ _ _ _ _ _=>el2 fun _ _=>rfl;obtain ⟨Ra,Oo,F8,Oq⟩:=h61.get X G;have Ot:=F8.binds (ps:=["_law_script","_law_k"]) fun _ _ _ _ _ _=>el2 fun _ _=>rfl;obtain ⟨Rb,Ou,GA,Ov⟩:=h62.get X G;have Ow:=GA.binds (ps:=["_law_script","_law_k"]) fun _ _ _ _ _ _=>el2 fun _ _=>rfl;obtain ⟨Rc,Ox,GB,Oy⟩:=h63.get X G;have Oz:=GB.binds (ps:=["_law_state_here","_law_many"]) fun _ _ _ _ _ _=>el2 fun _ _=>rfl;obtain ⟨Rf,OA,GH,OB⟩:=h65.get X G;have OC:=GH.binds (ps:=["_law_promises","_law_sales"]) fun _ _ _ _ _ _=>el2 fun _ _=>rfl;obtain ⟨Rg,OD,GI,OE⟩:=h66.get X G;have OF:=GI.binds (ps:=["_law_state_here","_law_most"]) fun _ _ _ _ _ _=>el2 fun _ _=>rfl;obtain ⟨Rh,OG,GL,OH⟩:=h67.get X G;have OI:=GL.binds (ps:=["_law_state_here","_law_years"]) fun _ _ _ _ _ _=>el2 fun _ _=>rfl;obtain ⟨Ri,OJ,GN,OK⟩:=h68.get X G;have OL:=GN.binds (ps:=["_law_state_here","_law_promises"]) fun _ _ _ _ _ _=>el2 fun _ _=>rfl;obtain ⟨Rj,OM,GO,ON⟩:=h69.get X G;have OO:=GO.binds (ps:=["_law_state_here","_law_years","_law_most"]) fun _ _ _ _ _ _=>el3 fun _ _ _=>rfl;obtain ⟨Rk,OP,GS,OQ⟩:=h70.get X G;have OR:=GS.binds (ps:=["_law_book_here","_law_rows_here","_law_year","_law_given"]) fun _ _ _ _ _ _=>el4 fun _ _ _ _=>rfl
 have T:Mg mg:=⟨(zAy X G bS),(zAy X G nX),(zAy X G kC),(zAy X G hJ),(zAy X G kD),(zAy X G oe)⟩
 have TP:K90.Mg mg:=⟨(zAy X G bS),(zAy X G nX),(zAy X G kC),(zAy X G hJ),(zAy X G kD),(zAy X G oe)⟩
 have N:Nums mg:=⟨⟨t0,PySem.W.mg_of X G n0⟩,⟨t1,PySem.W.mg_of X G n1⟩,⟨t2,PySem.W.mg_of X G n2⟩,⟨t3,PySem.W.mg_of X G n3⟩,⟨t4,PySem.W.mg_of X G n4⟩,⟨t5,PySem.W.mg_of X G n5⟩,⟨t6,PySem.W.mg_of X G n6⟩,⟨t7,PySem.W.mg_of X G n7⟩⟩
 have NP:K90P.Nums mg:=⟨⟨t9,PySem.W.mg_of X G n9⟩,⟨JN,PySem.W.mg_of X G n10⟩⟩
 have N2:MS mg:=⟨⟨t8,PySem.W.mg_of X G n8⟩⟩
 refine ⟨PySem.W.fnOf "law" "law" (fu (top 71)) (dY (top 71)) (aJ (top 71)) .none JK JL sP JJ E2 JM,fun s v=>.of_eq rfl,fun base _ _=>?_⟩;have C9:=aU l.prog w base (rK F9 T) m9 F9.kp b9;have GU:=aU l.prog w base (nj E3 C9) Mu E3.kp Mv;have ua:=aU l.prog w base (lK E4 T) Mx E4.kp My;have GV:=aU l.prog w base (mY E5 T C9 ua) MA E5.kp MB;have OS:=aU l.prog w base (tO E6 T N GV) MD E6.kp ME;have OT:=aU l.prog w base (ql E7 T N OS ua) MG E7.kp MJ;have OU:=aU l.prog w base (mZ E8 T N GV) ML E8.kp MM;have JO:=aU l.prog w base (jP E9 T N OU ua) MO E9.kp MP;have JP:=aU l.prog w base (qp Fc T N2 GV ua) MR Fc.kp MT;have JQ:=aU l.prog w base (Bc Fh N) MV Fh.kp MW;have OV:=aU l.prog w base (Bd Fm T N) MY Fm.kp MZ;have OW:=aU l.prog w base (ym Fn T (zAy X G aw) OV JQ) M3 Fn.kp M4;have OX:=aU l.prog w base (yo Fs (zAy X G aE) JO JP OW) M6 Fs.kp M7;have OY:=aU l.prog w base (ok_book Fu ua OT JO JP OX) M9 Fu.kp Na;have OZ:=aU l.prog w base (Bl FA OY) Nd FA.kp Nf;have O0:=aU l.prog w base (K90P.ok_are_weights FC TP NP GU ua) Nh FC.kp Ni;have O3:=aU l.prog w base (K90P.ok_refuse FD (zAy X G eC) O0 GU) Nk FD.kp Nl;have O4:=aU l.prog w base (K90P.ok_places FE (zAy X G aE) (zAy X G fE)) Nn FE.kp Np;have O5:=aU l.prog w base (K90P.ok_parts FF TP (zAy X G eC) O4) Nr FF.kp Nt;have O6:=aU l.prog w base (K90P.ok_parted FG O3 O5) Nv FG.kp Nw;have O7:=aU l.prog w base (yp FH (zAy X G eC)) Ny FH.kp Nz;have JR:=aU l.prog w base (wJ FI (zAy X G aE) JQ) NB FI.kp NC;have O8:=aU l.prog w base (wI FK T (zAy X G eC) O6) NF FK.kp NG;have O9:=aU l.prog w base (Bg FO (zAy X G hV)) NI FO.kp NJ;have Pa:=aU l.prog w base (yx FR (zAy X G eC) (zAy X G kF) (zAy X G oj) O8 O9) NL FR.kp NM;have Pb:=aU l.prog w base (Bk FU T N (zAy X G aw) (zAy X G fE) JR Pa O7) NO FU.kp NQ;have BF:=aU l.prog w base (yJ FV (zAy X G aw) Pb) NS FV.kp NT;have Pc:=aU l.prog w base (Bm FX T GU) NV FX.kp NW;have BG:=aU l.prog w base (yO FY OZ Pc) NY FY.kp NZ;have JS:=aU l.prog w base (yR F1 BF) N1 F1.kp N3;have Pd:=aU l.prog w base (yP F2 BG BF) N5 F2.kp N6;have Pe:=aU l.prog w base (By F3 BG BF) N8 F3.kp N9;have Pf:=aU l.prog w base (Ek F4 N) Ob F4.kp Oc;have Pg:=aU l.prog w base (Bs F5 N (zAy X G aw) JR) Oe F5.kp Of;have Ph:=aU l.prog w base (Bo F6 BG JS) Oh F6.kp Oi;have Pj:=aU l.prog w base (Bu F7 (zAy X G kF) (zAy X G oj) BG BF Pg JS Pf) Ol F7.kp Om;have Pk:=aU l.prog w base (K90P.ok_cell F8 TP) Oq F8.kp Ot;have Pl:=aU l.prog w base (K90P.ok_state GA (zAy X G hU) Pk) Ov GA.kp Ow;have BH:=aU l.prog w base (K90P.ok_choice GB) Oy GB.kp Oz;have JT:=aU l.prog w base (BL GH T (zAy X G aE) (zAy X G aw) (zAy X G hV) (zAy X G hU)) OB GH.kp OC;have Pm:=aU l.prog w base (K90Q.ok_clips GI TP (zAy X G aw) BH) OE GI.kp OF;have Pn:=aU l.prog w base (K90Q.ok_prom GL (zAy X G hV) BH) OH GL.kp OI;have Po:=aU l.prog w base (K90Q.ok_sale GN T (zAy X G hU) BH) OK GN.kp OL;have Pp:=aU l.prog w base (K90Q.ok_book GO TP (zAy X G aw) (zAy X G kD) BH Pm Pn Po JT) ON GO.kp OO;have Pq:=aU l.prog w base (GJ GS (zAy X G aw) (zAy X G eC) Pe Pd Ph) OQ GS.kp OR;exact Eo FL T (zAy X G aw) (zAy X G hU) (zAy X G hV) Pl Pp JT Pq Pj
theorem walk {l:PySem.W.OpenLaw}{q:Program}{loose:List Str}{XP:(Str->Option Value)->Heap->Prop}{YP:World->Heap->Prop}{d:DefRec}{K:Params->PySem.W.Frag}(hn:l.most=some 63)(vj:d.params.defaults=[])
  (hY:∀ (w:World) (h:Heap),YP w h->(K w.params).In h)
  (F:∀ (w:World) (mg:Str->Option Value) (fa:Addr) (h:Heap),(K w.params).In h->h.Ns mainGlobals mg->mg d.name=some (.ref fa) ->
   ∃ fd:FuncData,(∀ (s:Shared) (u:Value),BindsTo s fd ⟨[u],[]⟩ [("_law_script",u)])/\∀ base:Heap,(K w.params).In base->base.Ns mainGlobals mg->FnOk l.prog w (K w.params) mg base CX0 63 fa fd ["_law_script"] (vo (K w.params))) :
  PySem.W.WalkO q loose XP YP l.row.toRowW d [] (fun f vs=>PySem.call f vs) :=
 L2.walk_of (n:=63) (k:=63) (x:="_law_script") (CX:=fun _=>CX0) (sp:=fun w=>vo (K w.params)) hn (by decide) vj ⟨rfl,by decide,by decide,rfl⟩ hY F (fun _ _ a ns hl _ hS=>⟨a,ns,rfl,hS,hl,fun _=>rfl⟩) fun _ _ _ _ _ z=>z
end K90
open PySem PySem.W PyProof.Rows
set_option maxRecDepth 100000 in
set_option maxHeartbeats 0 in
theorem PySem.Challenge.cw_woolyears_k90_whole_due_given_and_owed_holds : PySem.Challenge.rw_woolyears_k90_whole_due_given_and_owed.Holds := by
 w_on;o_law;k_head;(case hw=>w_witness2)
 k_fill
 refine K90.walk (l:=PySem.Challenge.rw_woolyears_k90_whole_due_given_and_owed) rfl rfl (fun w h Y=>PySem.W.kIn_of Y) ?F
 case F =>
  intro w mg fa h KX G hmg
  refine' K90.all_mk KX G hmg ?h9 ?h10 ?h11 ?h12 ?h23 ?h24 ?h25 ?h26 ?h27 ?h28 ?h29 ?h30 ?h31 ?h32 ?h33 ?h37 ?h38 ?h39 ?h40 ?h41 ?h43 ?h44 ?h45 ?h46 ?h47 ?h48 ?h49 ?h50 ?h51 ?h55 ?h52 ?h53 ?h56 ?h57 ?h58 ?h59 ?h61 ?h62 ?h63 ?h65 ?h66 ?h67 ?h68 ?h69 ?h70 ?aL ?lL ?cL ?kL ?n0 ?n1 ?n2 ?n3 ?n4 ?n5 ?n6 ?n7 ?n8 ?n9 ?n10 ?z0 ?z1 ?z2 ?z3 ?z4 ?z5 ?z6 ?z7 ?z8 ?z9 ?z10 ?z11 ?z12 ?z13
  case h9|h10|h11|h12|h23|h24|h25|h26|h27|h28|h29|h30|h31|h32|h33|h37|h38|h39|h40|h41|h43|h44|h45|h46|h47|h48|h49|h50|h51|h55|h52|h53|h56|h57|h58|h59|h61|h62|h63|h65|h66|h67|h68|h69|h70=>
   refine' K90.has_mk ?a ?l ?c ?k
   case a|l|c|k=>k_is
  case aL|lL|cL|kL|n0|n1|n2|n3|n4|n5|n6|n7|n8|n9|n10|z0|z1|z2|z3|z4|z5|z6|z7|z8|z9|z10|z11|z12|z13=>k_is
