import PyProof.Rows.All
import Wide.All
import OpenK.AllK
import Wide.FinOn
import Lean
import PyProof.EqAt
import PyProof.EqKinds
import PyProof.TupleCall
import PyProof.StrLawsRepr
import PyProof.ZipIter
import PySem.Challenge.RW_woolyears_k61_sheep_die
import PyProof.Rows.SortRunsK
import PyProof.AttrMissHeap
import PyProof.SeqRoads
import PyProof.ListOps
import PyProof.DictUpdate
import PyProof.DictWalks
import KE.KDictList
import PyProof.Rows.SortWalk
set_option compiler.extract_closed false
set_option Elab.async false
set_option linter.all false
set_option maxRecDepth 100000
set_option maxHeartbeats 4000000
noncomputable section
open PySem.W (Frag)
def zAt:=@decide_eq_true
def zAu:=@PySem.W.mg_none_of
def zAv:=@PySem.wpAny_bind
def zAw:=@if_neg
def zAx:=@if_pos
def zAy:=@PySem.Heap.get?_push_of_some
def zAz:=@decide_eq_false
def zB0:=@PySem.Heap.lt_size
def zB1:=@PySem.wpAny_pure
def zB2:=@PySem.Heap.get?_push_size
def zB3:=@PySem.PassesOwn.never
def zB4:=@Nat.lt_of_lt_of_le
def zB5:=@of_decide_eq_true
def zB6:=@Nat.ne_of_lt
def zB7:=@List.mem_of_getElem?
def zB8:=@List.getElem?_append_right
def zB9:=@List.filter_cons_of_neg
def zBa:=@List.take_append_drop
def zBb:=@List.filter_cons_of_pos
def zBc:=@List.getElem?_append_left
def zBd:=@PySem.F.plainAttrs_list
def zBe:=@List.mem_append_right
def zBf:=@PySem.F.type_list_append
def zBg:=@PySem.F.slot_list_append
def zA0:=@List.getElem?_eq_getElem
def zA1:=@List.length_map
def zA2:=@List.length_append
def zA3:=@Nat.le_refl
def zA4:=@List.map_append
def zA5:=@List.mem_map
def zA6:=@List.mem_append
def zA7:=@List.getD_eq_getElem?_getD
def zA8:=@List.size_toArray
def zA9:=@Array.length_toList
def zAa:=@List.getElem?_eq_some_iff
def zAb:=@List.getElem?_map
def zAc:=@Bool.and_eq_true
def zAd:=@List.length_take
def zAe:=@List.length_cons
def zAf:=@List.append_assoc
def zAg:=@Bool.false_ne_true
def zAh:=@List.getElem_mem
def zAi:=@Int.toNat_natCast
def zAj:=@List.take_add_one
def zAk:=@List.map_cons
def zAl:=@Option.some.inj
def zAm:=@List.take_length
def zAn:=@List.append_nil
def zAo:=@List.mem_cons
def zAp:=@Nat.zero_le
def zAq:=@List.mem_filter
def zAr:=@List.map_map
def zAs:=@List.length_zip
namespace L2
open PySem PySem.Spec PyProof.Rows
abbrev Key:=Sum Int Str
def mY:Key->Value->Bool
 | .inl k,v=>Value.isInt k v
 | .inr x,v=>Value.isStrOf x v
def Jq (w:World):Key->Int
 | .inl k=>hashInt k
 | .inr x=>hashStr w x
theorem cu:∀ {k:Key} {v:Value},mY k v=true->(∃ i t,k=Sum.inl i/\v=Value.int i t)\/(∃ x t,k=Sum.inr x/\v=Value.str x t)
 | .inl i,v,h=>by
  obtain ⟨t,e⟩:=Value.isInt_shape (k:=i) (v:=v) h;exact .inl ⟨i,t,rfl,e⟩
 | .inr x,v,h=>by
  obtain ⟨t,e⟩:=Value.isStrOf_shape (x:=x) (v:=v) h;exact .inr ⟨x,t,rfl,e⟩
theorem yt (i:Int)(t:Tok):mY (.inl i) (.int i t)=true:=by simp [mY,Value.isInt]
theorem yu (x:Str)(t:Tok):mY (.inr x) (.str x t)=true:=by simp [mY,Value.isStrOf]
theorem G5 (a b:Int):decide ((Sum.inl a:Key)=Sum.inl b)=(a == b):=by
 by_cases e:a=b
 ·subst e;simp
 ·have h:¬ (Sum.inl a:Key)=Sum.inl b:=fun q=>e (Sum.inl.inj q);rw [zAz h];exact (beq_eq_false_iff_ne.mpr e).symm
theorem G6 (a b:Str):decide ((Sum.inr a:Key)=Sum.inr b)=decide (a=b):=by
 by_cases e:a=b
 ·subst e;simp
 ·have h:¬ (Sum.inr a:Key)=Sum.inr b:=fun q=>e (Sum.inr.inj q);rw [zAz h,zAz e]
theorem G7 (a:Int)(b:Str):decide ((Sum.inl a:Key)=Sum.inr b)=false:=zAz (fun q=>nomatch q)
theorem G8 (a:Str)(b:Int):decide ((Sum.inr a:Key)=Sum.inl b)=false:=zAz (fun q=>nomatch q)
def cA (prog:Program)(w:World):PySem.KeyKind prog w Key where
 is:=mY
 hash:=Jq w
 inj:=fun v a b ha hb=>by
  rcases cu ha with ⟨i,t,rfl,rfl⟩ | ⟨x,t,rfl,rfl⟩
  ·rcases cu hb with ⟨j,u,rfl,e⟩ | ⟨y,u,rfl,e⟩
   ·injection e with e1 _;rw [e1]
   ·exact nomatch e
  ·rcases cu hb with ⟨j,u,rfl,e⟩ | ⟨y,u,rfl,e⟩
   ·exact nomatch e
   ·injection e with e1 _;rw [e1]
 byValue:=fun k v h=>by
  rcases cu h with ⟨i,t,rfl,rfl⟩ | ⟨x,t,rfl,rfl⟩ <;> rfl
 pyHash:=fun hv h=>by
  rcases cu hv with ⟨i,t,rfl,rfl⟩ | ⟨x,t,rfl,rfl⟩
  ·exact wpAny_pyHash_int h
  ·exact wpAny_pyHash_str h
 eqBool:=fun hu hv h=>by
  rcases cu hu with ⟨i,t,rfl,rfl⟩ | ⟨x,t,rfl,rfl⟩
  ·rcases cu hv with ⟨j,u,rfl,rfl⟩ | ⟨y,u,rfl,rfl⟩
   ·rw [G5] at h;exact wpAny_eqBool_int h
   ·rw [G7] at h;exact SeqAt.EqAt.int_str i t y u _ _ _ _ h
  ·rcases cu hv with ⟨j,u,rfl,rfl⟩ | ⟨y,u,rfl,rfl⟩
   ·rw [G8] at h;exact SeqAt.EqAt.str_int x t j u _ _ _ _ h
   ·rw [G6] at h;exact wpAny_eqBool_str h
 «strs»:=fun k x t v h=>by
  rcases cu h with ⟨i,u,rfl,e⟩ | ⟨y,u,rfl,e⟩
  ·exact nomatch e
  ·injection e with e1 _;subst e1;cases v <;> rfl
theorem tK (prog:Program)(w:World)(i:Int)(t:Tok):(cA prog w).is (.inl i) (.int i t)=true:=yt i t
theorem tL (prog:Program)(w:World)(x:Str)(t:Tok):(cA prog w).is (.inr x) (.str x t)=true:=yu x t
inductive V where
 | non | bl (b:Bool) | int (i:Int) | str (x:Str) | byt (b:Array UInt8) | flt (b:UInt64) | ref (a:Addr) | ty (n:String)
 deriving DecidableEq
def RelV:V->Value->Prop
 | .non,u=>u=Value.none
 | .bl b,u=>u=Value.bool b
 | .int i,u=>∃ t,u=Value.int i t
 | .str x,u=>∃ t,u=Value.str x t
 | .byt b,u=>∃ t,u=Value.bytes b t
 | .flt b,u=>∃ t,u=Value.float b t
 | .ref a,u=>u=Value.ref a
 | .ty n,u=>u=Value.type n
abbrev Vals:List V->List Value->Prop:=Paired RelV
theorem Vals.length {xs:List V}{us:List Value}(r:Vals xs us):xs.length=us.length:=Paired.length r
theorem Vals.get:∀ {xs:List V} {us:List Value} {i:Nat} {x:V},Vals xs us->xs[i]?=some x->∃ u,us[i]?=some u/\RelV x u
 | _,_,_,_,.nil,e=>by simp at e
 | _,_,0,_,.cons r _,e=>by simp at e;subst e;exact ⟨_,rfl,r⟩
 | _,_,i+1,x,.cons _ t,e=>by
  obtain ⟨u,h1,h2⟩:=Vals.get (i:=i) (x:=x) t (by simpa using e);exact ⟨u,by simpa using h1,h2⟩
theorem Vals.set {x:V}{u:Value}(r:RelV x u):∀ {xs:List V} {us:List Value} (i:Nat),Vals xs us->Vals (xs.set i x) (us.set i u)
 | _,_,_,.nil=>.nil
 | _,_,0,.cons _ t=>.cons r t
 | _,_,i+1,.cons q t=>.cons q (Vals.set r i t)
theorem Vals.append:∀ {xs ys:List V} {us ws:List Value},Vals xs us->Vals ys ws->Vals (xs++ys) (us++ws)
 | _,_,_,_,.nil,s=>s
 | _,_,_,_,.cons r t,s=>.cons r (Vals.append t s)
theorem Vals.take:∀ {xs:List V} {us:List Value} (n:Nat),Vals xs us->Vals (xs.take n) (us.take n)
 | _,_,0,_=>.nil
 | _,_,_+1,.nil=>.nil
 | _,_,n+1,.cons r t=>.cons r (Vals.take n t)
theorem Vals.drop:∀ {xs:List V} {us:List Value} (n:Nat),Vals xs us->Vals (xs.drop n) (us.drop n)
 | _,_,0,r=>r
 | _,_,_+1,.nil=>.nil
 | _,_,n+1,.cons _ t=>Vals.drop n t
def RelO:Option V->Option Value->Prop
 | some v,some u=>RelV v u
 | none,none=>True
 | _,_=>False
def KV {κ:Type}:List (κ×V)->List (κ×Value)->Prop:=Paired fun (p:κ×V) (q:κ×Value)=>p.1=q.1/\RelV p.2 q.2
def kV:Key->V
 | .inl i=>.int i
 | .inr x=>.str x
inductive HO where
  | lst (xs:List V)
  | tup (xs:List V)
  | dK (kvs:List (Key×V)) | dT (kvs:List (List Key×V))
  | set (S:Int->Bool) (n:Nat)
  | ins (C dx:Addr) (fs:List (Str×V))
  | own (x:Addr)
  | xd (fs:List (Str×V))
  | met (f x:Addr)
  | rng (lo hi:Int)
  | frz (o:Obj) (u:HO)
  | tbl (ps:Array Value)
  | ext (φ:Heap->Prop)
abbrev Hp:=Addr->Option HO
def upd (H:Hp)(a:Addr)(o:HO):Hp:=fun b=>if b=a then some o else H b
theorem aa {H:Hp}{a:Addr}{o:HO}:upd H a o a=some o:=by unfold upd;rw [zAx rfl]
theorem az {H:Hp}{a b:Addr}{o:HO}(h:b≠a):upd H a o b=H b:=by unfold upd;rw [zAw h]
theorem Hn {H:Hp}{a b:Addr}{o u:HO}(h:H a=some o)(h':H b=some u)(d:o≠u):a≠b:=by
 intro e;subst e;rw [h] at h';exact d (zAl h')
theorem au {H:Hp}{a b:Addr}{o:HO}(h:H a=some o)(h':H b=none):a≠b:=by
 intro e;subst e;rw [h] at h';cases h'
section
variable (P:Program)(w:World)
def ObjOk (H:Hp)(h:Heap)(a:Addr):HO->Prop
 | .lst xs=>xs.length<=sizeLine/\∃ (its:List Value) (n:Nat),Vals xs its/\h.get? a=some { cls:=.type "list",data:=.seq its.toArray n }
 | .tup xs=>xs.length<=sizeLine/\∃ its:List Value,Vals xs its/\IsTup h a its.toArray
 | .dK kvs=>kvs.length<=sizeLine/\(a == sysModules)=false/\∃ vs,KV kvs vs/\h.DictOf (cA P w) a vs
 | .dT kvs=>kvs.length<=sizeLine/\(a == sysModules)=false/\∃ xs:List (List Key×Addr×Value),
   Paired (fun (p:List Key×V) (q:List Key×Addr×Value)=>p.1=q.1/\H q.2.1=some (.tup (p.1.map kV))/\RelV p.2 q.2.2) kvs xs /\
   ∃ o es ep,h.get? a=some o/\o.ExactDict/\o.data=.dict es ep/\es.toList=xs.map (entryOfKey (tupleKind (cA P w)))/\(xs.map (·.1)).Nodup
 | .set S n=>h.SetOf (intKind P w) a S n
 | .ins C dx fs=>H dx=some (.own a)/\fs.length<=1000/\dx≠a/\h.get? a=some (PySem.W.instObj C dx) /\
   ∃ mA,h.Ns1 dx mA/\(∀ f,RelO (fs.lookup f) (mA f))/\PySem.Within mA (fs.map (·.1))
 | .own _=>∃ o,h.get? a=some o
 | .xd fs=>∃ mA,h.Ns1 a mA/\∀ f,RelO (fs.lookup f) (mA f)
 | .rng lo hi=>∃ t u v,h.get? a=some { cls:=.type "range",data:=.fields #[.int lo t,.int hi u,.int 1 v] }
 | .frz o u=>h.get? a=some o/\ObjOk H h a u
 | .tbl ps=>h.get? a=some { cls:=.none,data:=.fields ps }
 | .met f x=>h.get? a=some (PySem.W.methodObj (.ref f) (.ref x))
 | .ext φ=>φ h/\(∃ o,h.get? a=some o)/\∀ h1 h2:Heap,φ h1->(∀ o,h1.get? a=some o->h2.get? a=some o)->φ h2
def HOk (H:Hp)(h:Heap):Prop:=∀ a o,H a=some o->ObjOk P w H h a o
end
section
variable {P:Program}{w:World}{H H':Hp}{h h':Heap}{a:Addr}{o:HO}
theorem ObjOk.lt (x:ObjOk P w H h a o):a < h.objs.size:=by
 cases o with
 | lst xs=>obtain ⟨_,_,_,_,e⟩:=x;exact zB0 e
 | tup xs=>obtain ⟨_,_,_,p⟩:=x;exact p.lt
 | dK kvs=>obtain ⟨_,_,_,_,o,_,_,e,_⟩:=x;exact zB0 e
 | dT kvs=>obtain ⟨_,_,_,_,o,_,_,e,_⟩:=x;exact zB0 e
 | set S n=>obtain ⟨o,_,_,_,e,_⟩:=x;exact zB0 e
 | ins C dx fs=>obtain ⟨_,_,_,e,_⟩:=x;exact zB0 e
 | own y=>obtain ⟨_,e⟩:=x;exact zB0 e
 | xd fs=>obtain ⟨_,⟨_,_,_,e,_⟩,_⟩:=x;exact zB0 e
 | rng lo hi=>obtain ⟨_,_,_,e⟩:=x;exact zB0 e
 | frz ob u=>obtain ⟨e,_⟩:=x;exact zB0 e
 | tbl ps=>exact zB0 (show h.get? a=some _ from x)
 | met f y=>exact zB0 (show h.get? a=some _ from x)
 | ext φ=>obtain ⟨_,⟨_,e⟩,_⟩:=x;exact zB0 e
theorem Paired.mapP {α β:Type}{F G:α->β->Prop}:∀ {Au:List α} {AB:List β},Paired F Au AB->(∀ a b,F a b->G a b)->Paired G Au AB
 | _,_,.nil,_=>.nil
 | _,_,.cons r t,f=>.cons (f _ _ r) (Paired.mapP t f)
theorem ObjOk.stay (x:ObjOk P w H h a o)(k:∀ b u,(b=a\/H b=some (.own a))->h.get? b=some u->h'.get? b=some u)
  (ho:∀ b,H b=some (.own a)->H' b=some (.own a)) (ht:∀ b xs,H b=some (.tup xs)->H' b=some (.tup xs)):ObjOk P w H' h' a o:=by
 induction o with
 | lst xs=>obtain ⟨z,its,n,r,e⟩:=x;exact ⟨z,its,n,r,k _ _ (.inl rfl) e⟩
 | tup xs=>obtain ⟨z,its,r,ob,e,c⟩:=x;exact ⟨z,its,r,ob,k _ _ (.inl rfl) e,c⟩
 | dK kvs=>obtain ⟨z,y,vs,r,ob,es,ep,e,c⟩:=x;exact ⟨z,y,vs,r,ob,es,ep,k _ _ (.inl rfl) e,c⟩
 | dT kvs =>
  obtain ⟨z,y,xs,r,ob,es,ep,e,c⟩:=x;exact ⟨z,y,xs,Paired.mapP r fun p q z=>⟨z.1,ht _ _ z.2.1,z.2.2⟩,ob,es,ep,k _ _ (.inl rfl) e,c⟩
 | set S n=>obtain ⟨ob,es,ep,t,e,c⟩:=x;exact ⟨ob,es,ep,t,k _ _ (.inl rfl) e,c⟩
 | ins C dx fs =>
  obtain ⟨d,z,ne,e,mA,⟨od,es,ep,e2,c⟩,r⟩:=x;exact ⟨ho _ d,z,ne,k _ _ (.inl rfl) e,mA,⟨od,es,ep,k _ _ (.inr d) e2,c⟩,r⟩
 | own y=>obtain ⟨ob,e⟩:=x;exact ⟨ob,k _ _ (.inl rfl) e⟩
 | xd fs=>obtain ⟨mA,⟨od,es,ep,e,c⟩,r⟩:=x;exact ⟨mA,⟨od,es,ep,k _ _ (.inl rfl) e,c⟩,r⟩
 | rng lo hi=>obtain ⟨t,u,v,e⟩:=x;exact ⟨t,u,v,k _ _ (.inl rfl) e⟩
 | frz ob u ih=>obtain ⟨e,q⟩:=x;exact ⟨k _ _ (.inl rfl) e,ih q⟩
 | tbl ps =>
  have e:h.get? a=some { cls:=.none,data:=.fields ps }:=x;show h'.get? a=some { cls:=.none,data:=.fields ps };exact k a _ (.inl rfl) e
 | met f y =>
  have e:h.get? a=some (PySem.W.methodObj (.ref f) (.ref y)):=x;show h'.get? a=some (PySem.W.methodObj (.ref f) (.ref y));exact k a _ (.inl rfl) e
 | ext φ=>obtain ⟨p,⟨o,e⟩,st⟩:=x;exact ⟨st _ _ p fun o q=>k _ _ (.inl rfl) q,⟨o,k _ _ (.inl rfl) e⟩,st⟩
theorem HOk.lt (x:HOk P w H h)(e:H a=some o):a < h.objs.size:=(x a o e).lt
theorem HOk.fresh (x:HOk P w H h)(e:h.objs.size<=a):H a=none:=by
 cases q:H a with
 | none=>rfl
 | some u=>exact absurd (zB4 (x.lt q) e) (Nat.lt_irrefl _)
theorem HOk.kept (x:HOk P w H h)(k:∀ b u,h.get? b=some u->h'.get? b=some u):HOk P w H h':=fun a o e =>
 (x a o e).stay (fun b u _ q=>k b u q) (fun _ q=>q) fun _ _ q=>q
theorem HOk.laid (x:HOk P w H h)(k:∀ b u,h.get? b=some u->h'.get? b=some u)(hp:h.objs.size<=a)(new:ObjOk P w (upd H a o) h' a o):HOk P w (upd H a o) h':=fun b u e=>by
 have hn:=x.fresh hp;by_cases hb:b=a
 ·subst hb;rw [aa] at e;cases e;exact new
 ·rw [az hb] at e
  exact (x b u e).stay (fun c v _ q=>k c v q) (fun c q=>by rw [az (au q hn)];exact q) fun c xs q=>by rw [az (au q hn)];exact q
end
def Rd (H:Hp)(a:Addr)(u:HO):Prop:=H a=some u\/∃ o,H a=some (.frz o u)
theorem Rd.ok {P:Program}{w:World}{H:Hp}{h:Heap}{a:Addr}{u:HO}(r:Rd H a u)(x:HOk P w H h):ObjOk P w H h a u:=by
 rcases r with r | ⟨o,r⟩
 ·exact x a u r
 ·obtain ⟨_,q⟩:=x a _ r;exact q
def Mut:Option HO->Prop
 | some (.lst _)=>True
 | some (.dK _)=>True
 | some (.dT _)=>True
 | some (.set _ _)=>True
 | some (.ins _ _ _)=>True
 | some (.ext _)=>True
 | _=>False
section
variable {P:Program}{w:World}{H:Hp}{h h':Heap}{x e:Addr}{o':HO}
theorem HOk.write (ok:HOk P w H h)(mu:Mut (H x))(he:e=x\/H e=some (.own x))(k:∀ b u,b≠e->h.get? b=some u->h'.get? b=some u)(xD:∃ u,h'.get? e=some u)
  (new:ObjOk P w (upd H x o') h' x o'):HOk P w (upd H x o') h':=fun b u q=>by
 have AD:∀ c y,H c=some (.own y)->c≠x:=fun c y r z=>by subst z;rw [r] at mu;exact mu
 have Fs:∀ c xs,H c=some (.tup xs)->c≠x:=fun c xs r z=>by subst z;rw [r] at mu;exact mu
 by_cases hb:b=x
 ·subst hb;rw [aa] at q;cases q;exact new
 ·rw [az hb] at q;by_cases sC:b=e
  ·have q':H b=some (.own x):=by
    rcases he with z | z
    ·exact absurd (sC.trans z) hb
    ·rw [sC];exact z
   rw [q] at q';cases q';obtain ⟨v,hv⟩:=xD;exact ⟨v,by rw [sC];exact hv⟩
  ·refine (ok b u q).stay (fun c v hc r=>k c v ?_ r) (fun c r=>by rw [az (AD c b r)];exact r) fun c xs r=>by rw [az (Fs c xs r)];exact r
   rcases hc with rfl | hc
   ·exact sC
   ·rintro rfl;rcases he with z | z
    ·exact AD c b hc z
    ·rw [hc] at z;cases z;exact hb rfl
end
structure Un (fs ex:List Addr)(H H':Hp)(h h':Heap):Prop where
 keep:∀ b o,h.get? b=some o->H b=none->b ∉ fs->b ∉ ex->h'.get? b=some o
 slot:∀ b o,h.get? b=some o->H b=none->b∈fs->b ∉ ex->∃ sl,h'.get? b=some { o with slots:=sl }
 free:∀ b o,h.get? b=some o->H b=none->b ∉ ex->H' b=none
 there:∀ b o,h.get? b=some o->b ∉ ex->∃ o',h'.get? b=some o'
 tups:∀ b xs,H b=some (.tup xs)->H' b=some (.tup xs)
 frzs:∀ b o u,H b=some (.frz o u)->H' b=some (.frz o u)
 tbls:∀ b ps,H b=some (.tbl ps)->∃ more,H' b=some (.tbl (ps++more))
section
variable {fs Pd ex Fu:List Addr}{H H1 H2:Hp}{h h1 h2 h':Heap}{a x e:Addr}{o:HO}
theorem Un.any (u:Un fs ex H H1 h h1){b:Addr}{ob:Obj}(q:h.get? b=some ob)(n:H b=none)(hx:b ∉ ex):∃ sl,h1.get? b=some { ob with slots:=sl }:=by
 by_cases hb:b∈fs
 ·exact u.slot b ob q n hb hx
 ·exact ⟨ob.slots,u.keep b ob q n hb hx⟩
theorem Un.kept (k:∀ b u,h.get? b=some u->h'.get? b=some u):Un fs ex H H h h' :=
 ⟨fun b ob q _ _ _=>k b ob q,fun b ob q _ _ _=>⟨ob.slots,k b ob q⟩,fun _ _ _ n _=>n,fun b ob q _=>⟨ob,k b ob q⟩,fun _ _ q=>q,fun _ _ _ q=>q,fun _ ps q=>⟨#[],by rw [q];simp⟩⟩
theorem Un.refl:Un fs ex H H h h:=Un.kept fun _ _ q=>q
theorem Un.laid (k:∀ b u,h.get? b=some u->h'.get? b=some u)(hp:h.objs.size<=a)(hn:H a=none):Un fs ex H (upd H a o) h h' where
 keep:=fun b u q _ _ _=>k b u q
 slot:=fun b u q _ _ _=>⟨u.slots,k b u q⟩
 free:=fun b u q n _=>by rw [az (zB6 (zB4 (zB0 q) hp))];exact n
 there:=fun b u q _=>⟨u,k b u q⟩
 tups:=fun b xs q=>by rw [az (au q hn)];exact q
 frzs:=fun b u xs q=>by rw [az (au q hn)];exact q
 tbls:=fun b ps q=>⟨#[],by rw [az (au q hn),q];simp⟩
theorem Un.write (mu:Mut (H x))(he:e=x\/H e=some (.own x))(k:∀ b u,b≠e->h.get? b=some u->h'.get? b=some u)(xD:∃ u,h'.get? e=some u):Un fs ex H (upd H x o) h h':=by
 have hx:∀ b,H b=none->b≠x:=fun b n z=>by subst z;rw [n] at mu;exact mu
 have hb:∀ b,H b=none->b≠e:=fun b n z=>by
  subst z;rcases he with r | r
  ·exact hx b n r
  ·rw [n] at r;cases r
 have hm:∀ b u,H b=some u->¬ Mut (some u)->b≠x:=fun b u q nm z=>by subst z;rw [q] at mu;exact nm mu
 refine ⟨fun b u q n _ _=>k b u (hb b n) q,fun b u q n _ _=>⟨u.slots,k b u (hb b n) q⟩,fun b u q n _=>by rw [az (hx b n)];exact n,fun b u q _=>?_,
  fun b xs q=>by rw [az (hm b _ q fun z=>z)];exact q,fun b u xs q=>by rw [az (hm b _ q fun z=>z)];exact q,fun b ps q=>⟨#[],by rw [az (hm b _ q fun z=>z),q];simp⟩⟩
 by_cases sC:b=e
 ·subst sC;exact xD
 ·exact ⟨u,k b u sC q⟩
end
def trk (h:Heap)(H:Hp):List Addr:=(List.range h.objs.size).filter fun a=>(H a).isSome
def qZ (h:Heap)(H:Hp):Heap:=PySem.W.hideAll h (trk h H)
theorem yw (h:Heap)(H:Hp):(qZ h H).objs.size=h.objs.size:=PySem.W.hideAll_size _ _
theorem Aa {h:Heap}{H:Hp}{b:Addr}{o:Obj}(e:h.get? b=some o)(n:H b=none):(qZ h H).get? b=some o :=
 PySem.W.hideAll_get _ e fun hm=>by
  have q:(H b).isSome=true:=(zAq.mp hm).2;rw [n] at q;simp at q
theorem Dp {h:Heap}{H:Hp}{b:Addr}{o:Obj}(e:(qZ h H).get? b=some o):h.get? b=some o/\H b=none:=by
 have e':h.get? b=some o:=PySem.W.of_hideAll (trk h H) e;refine ⟨e',?_⟩
 cases q:H b with
 | none=>rfl
 | some x =>
  have hm:b∈trk h H:=List.mem_filter.mpr ⟨List.mem_range.mpr (Heap.lt_size e'),by simp [q]⟩;have z:(qZ h H).get? b=none:=PySem.W.hideAll_none (trk h H) hm;rw [z] at e;cases e
structure Mod (K:Frag)(mg:Str->Option Value)(base:Heap):Prop where
 kin:K.In base
 glob:base.Ns mainGlobals mg
 blt:∃ mb,base.Ns builtinsNs mb/\∀ x:Str,x≠"__name__" -> mb x=bootBuiltins x
 nolimit:base.NoLimit
structure Cx where
 prog:Program
 w:World
 K:Frag
 mg:Str->Option Value
 base:Heap
 A:Around
 N:List Str
 s₀:Shared
 H₀:Hp
 env:Env
 outer:List Env
 stack:List Env
 ex:List Addr
 fn:Str->Bool
 calm:Bool
 pn:List (Addr×Obj)
 xe:Value->Shared->Prop
def frs (l:List Env):List Addr:=l.filterMap (·.frame)
abbrev Cx.fs (X:Cx):List Addr:=frs X.outer
def Vis (sc:Scope)(x:Str):Prop:=sc.names.lookup x=some .local\/sc.names.lookup x=some .cell\/sc.names.lookup x=some .free
def Loc (sc:Scope)(x:Str):Prop:=sc.names.lookup x=some .local\/sc.names.lookup x=some .cell
def Look (env:Env)(h:Heap)(m:Str->Option Value)(x:Str)(u:Value):Prop :=
 (env.kindOf x=some .local/\m x=some u)\/((env.kindOf x=some .cell\/env.kindOf x=some .free)/\∃ c,env.cells.lookup x=some c/\h.IsCell c (some u))
structure Cx.Ok (X:Cx):Prop where
 mod:Mod X.K X.mg X.base
 kind:X.env.scope.kind=.function
 glob:X.env.globals=mainGlobals
 blt:X.env.builtins=builtinsNs
 above:X.s₀.heap.objs.size<=X.env.locals
 inj:∀ x y c,X.env.cells.lookup x=some c->X.env.cells.lookup y=some c->x=y
 has:∀ x,(X.env.kindOf x=some .cell\/X.env.kindOf x=some .free)->∃ c,X.env.cells.lookup x=some c
 cab:∀ x c,X.fn x=true->X.env.cells.lookup x=some c->X.s₀.heap.objs.size<=c
 hd:X.calm=true->X.A.handled=none
 frames:X.A.frames=some X.stack
 stk:X.stack=X.outer\/(X.stack=X.env::X.outer/\X.env.frame=some X.env.locals)
 exf:∀ b∈X.ex,b≠X.env.locals/\∀ x c,X.env.cells.lookup x=some c->c≠b
 bs:∀ b o,X.base.get? b=some o->X.s₀.heap.get? b=some o/\X.H₀ b=none
 bsz:X.base.objs.size<=X.s₀.heap.objs.size
 noex:∀ b o,X.base.get? b=some o->b ∉ X.ex
 exfs:∀ b∈X.ex,b ∉ X.fs
 funs:X.s₀.heap.FunFrames X.base X.outer
 frf:∀ b∈X.fs,X.H₀ b=none
structure Inv (X:Cx)(pins:List (Addr×Obj))(σ:List (Option V))(H:Hp)(s:Shared):Prop where
 ok:X.Ok
 os:s.os=X.s₀.os
 bare:AllBare s.gens
 base:Un X.fs X.ex X.H₀ H X.s₀.heap s.heap
 loc:∃ m,s.heap.Ns X.env.locals m/\∀ (i:Nat) (x:Str) (v:V),X.N[i]?=some x->σ[i]?=some (some v)->Vis X.env.scope x->∃ u,RelV v u/\Look X.env s.heap m x u
 cell:∀ x c,X.env.cells.lookup x=some c->∃ v,s.heap.IsCell c v
 free:H X.env.locals=none
 freeC:∀ x c,X.env.cells.lookup x=some c->H c=none
 pin:∀ p∈X.pn++pins,s.heap.get? p.1=some p.2/\H p.1=none/\p.1≠X.env.locals/\p.1 ∉ X.fs/\∀ v,p.2.data≠.cell v
 hok:HOk X.prog X.w H s.heap
 len:σ.length=X.N.length
section
variable {X:Cx}{pins:List (Addr×Obj)}{σ:List (Option V)}{H H':Hp}{s:Shared}{h':Heap}
theorem Cx.Ok.nofr (ok:X.Ok){b:Addr}{o:Obj}(e:X.base.get? b=some o):b ∉ X.fs:=fun hb=>by
 have:=(ok.funs.mem hb).1;rw [e] at this;cases this
theorem Inv.bs (I:Inv X pins σ H s):∀ b o,X.base.get? b=some o->s.heap.get? b=some o/\H b=none:=fun b o e =>
 ⟨I.base.keep b o (I.ok.bs b o e).1 (I.ok.bs b o e).2 (I.ok.nofr e) (I.ok.noex b o e),I.base.free b o (I.ok.bs b o e).1 (I.ok.bs b o e).2 (I.ok.noex b o e)⟩
theorem Inv.bk (I:Inv X pins σ H s):∀ b o,X.base.get? b=some o->s.heap.get? b=some o:=fun b o e=>(I.bs b o e).1
theorem Inv.mod (I:Inv X pins σ H s):Mod X.K X.mg X.base:=I.ok.mod
theorem Inv.kIn (I:Inv X pins σ H s):X.K.In s.heap:=I.ok.mod.kin.keeps I.bk
theorem Inv.lt (I:Inv X pins σ H s):X.env.locals < s.heap.objs.size:=let ⟨_,hn,_⟩:=I.loc;hn.lt
theorem Inv.sz (I:Inv X pins σ H s):X.s₀.heap.objs.size<=s.heap.objs.size:=Nat.le_trans I.ok.above (Nat.le_of_lt I.lt)
theorem Inv.nofs (I:Inv X pins σ H s){a:Addr}(h:s.heap.objs.size<=a):a ∉ X.fs:=fun hb=>by
 obtain ⟨_,o,ho,_⟩:=I.ok.funs.mem hb;exact absurd (zB4 (zB0 ho) (Nat.le_trans I.sz h)) (Nat.lt_irrefl _)
theorem Inv.cne (I:Inv X pins σ H s):∀ x c,X.env.cells.lookup x=some c->c≠X.env.locals:=fun x c e z=>by
 obtain ⟨v,o,ho,hd⟩:=I.cell x c e;obtain ⟨m,⟨o',es,ep,kM,DZ,_⟩,_⟩:=I.loc;rw [z,kM] at ho;cases ho;rw [DZ] at hd;cases hd
theorem Inv.funs (I:Inv X pins σ H s):s.heap.FunFrames X.base X.outer:=by
 have all:∀ (l:List Env),(∀ b∈frs l,b∈X.fs)->X.s₀.heap.FunFrames X.base l->s.heap.FunFrames X.base l:=by
  intro l
  induction l with
  | nil=>intro _ _;trivial
  | cons env r ih =>
   intro hs hl;obtain ⟨hk,⟨L,o,hf,hn,ho,hd⟩,hr⟩:=hl;have hL:L∈X.fs:=hs L (by unfold frs;rw [List.filterMap_cons,hf];exact List.mem_cons_self);obtain ⟨sl,e⟩:=I.base.slot L o ho (I.ok.frf L hL) hL fun z=>I.ok.exfs L z hL;exact ⟨hk,⟨L,_,hf,hn,e,hd⟩,ih (fun b hb=>hs b (by unfold frs;rw [List.filterMap_cons,hf];exact List.mem_cons_of_mem _ hb)) hr⟩
 exact all X.outer (fun _ hb=>hb) I.ok.funs
theorem Inv.stack (I:Inv X pins σ H s):s.heap.FunFrames X.base X.stack:=by
 rcases I.ok.stk with e | ⟨e,hf⟩
 ·rw [e];exact I.funs
 ·rw [e];obtain ⟨m,hn,_⟩:=I.loc;refine .cons (by rw [I.ok.kind];decide) hf hn ?_ I.funs;exact Heap.get?_none_of_le (Nat.le_trans I.ok.bsz I.ok.above)
theorem Inv.stkSub (I:Inv X pins σ H s):∀ b∈frs X.stack,b∈X.env.locals::X.fs:=fun b hb=>by
 rcases I.ok.stk with e | ⟨e,hf⟩
 ·rw [e] at hb;exact List.mem_cons_of_mem _ hb
 ·rw [e] at hb;unfold frs at hb;rw [List.filterMap_cons,hf] at hb;exact hb
theorem Inv.stkFree (I:Inv X pins σ H s):∀ b∈frs X.stack,H b=none:=fun b hb=>by
 rcases zAo.mp (I.stkSub b hb) with e | hb
 ·rw [e];exact I.free
 ·obtain ⟨_,o,ho,_⟩:=I.ok.funs.mem hb;exact I.base.free b o ho (I.ok.frf b hb) fun z=>I.ok.exfs b z hb
theorem Inv.step {g':Array GenState}{t':Nat}{d':Drawn}{ch:List Addr}(I:Inv X pins σ H s)
  (mM:∀ b∈ch,(b∈X.ex\/X.s₀.heap.objs.size<=b)/\b≠X.env.locals/\(∀ x c,X.env.cells.lookup x=some c->c≠b)/\∀ p∈X.pn++pins,p.1≠b)
  (keep:∀ b o,b≠X.env.locals->b ∉ X.fs->b ∉ ch->s.heap.get? b=some o->H b=none->h'.get? b=some o)
  (slot:∀ b o,b≠X.env.locals->b∈X.fs->b ∉ ch->s.heap.get? b=some o->H b=none->∃ sl,h'.get? b=some { o with slots:=sl }) (free:∀ b o,b ∉ ch->s.heap.get? b=some o->H b=none->H' b=none)
  (there:∀ b o,b ∉ ch->s.heap.get? b=some o->∃ o',h'.get? b=some o')
  (tups:∀ b xs,H b=some (.tup xs)->H' b=some (.tup xs)) (frzs:∀ b o u,H b=some (.frz o u)->H' b=some (.frz o u)) (tbls:∀ b ps,H b=some (.tbl ps)->∃ more,H' b=some (.tbl (ps++more)))
  (ns:∀ m,s.heap.Ns X.env.locals m->h'.Ns X.env.locals m) (hok:HOk X.prog X.w H' h') (hg:AllBare g') :
  Inv X pins σ H' { s with heap:=h',gens:=g',drawn:=d',toks:=t' }:=by
 have Mx:∀ b o,X.s₀.heap.get? b=some o->b≠X.env.locals:=fun b o e=>zB6 (zB4 (zB0 e) I.ok.above)
 have D0:∀ b o,X.s₀.heap.get? b=some o->b ∉ X.ex->b ∉ ch:=fun b o e hx hb=>by
  rcases (mM b hb).1 with z | z
  ·exact hx z
  ·exact absurd (zB4 (zB0 e) z) (Nat.lt_irrefl _)
 have cellK:∀ x c,X.env.cells.lookup x=some c->∀ v,s.heap.IsCell c v->h'.IsCell c v:=fun x c e v ⟨o,ho,hd⟩=>by
  have AE:c ∉ ch:=fun z=>(mM c z).2.2.1 x c e rfl;by_cases hc:c∈X.fs
  ·obtain ⟨sl,q⟩:=slot c o (I.cne x c e) hc AE ho (I.freeC x c e);exact ⟨_,q,hd⟩
  ·exact ⟨o,keep c o (I.cne x c e) hc AE ho (I.freeC x c e),hd⟩
 refine ⟨I.ok,I.os,hg,⟨fun b o e n hb hx=>?_,fun b o e n hb hx=>?_,fun b o e n hx=>?_,fun b o e hx=>?_,fun b xs e=>tups b xs (I.base.tups b xs e),fun b o xs e=>frzs b o xs (I.base.frzs b o xs e),fun b ps e=>?_⟩,?_,fun x c e=>?_,?_,fun x c e=>?_,fun p hp=>?_,hok,I.len⟩
 ·exact keep b o (Mx b o e) hb (D0 b o e hx) (I.base.keep b o e n hb hx) (I.base.free b o e n hx)
 ·obtain ⟨sl,e1⟩:=I.base.slot b o e n hb hx;obtain ⟨Pe,e2⟩:=slot b _ (Mx b o e) hb (D0 b o e hx) e1 (I.base.free b o e n hx);exact ⟨Pe,e2⟩
 ·obtain ⟨o',e1⟩:=I.base.there b o e hx;exact free b o' (D0 b o e hx) e1 (I.base.free b o e n hx)
 ·obtain ⟨o',e1⟩:=I.base.there b o e hx;exact there b o' (D0 b o e hx) e1
 ·obtain ⟨m1,e1⟩:=I.base.tbls b ps e;obtain ⟨m2,e2⟩:=tbls b _ e1;exact ⟨m1++m2,by rw [e2,Array.append_assoc]⟩
 ·obtain ⟨m,hn,hl⟩:=I.loc;refine ⟨m,ns m hn,fun i x v e1 e2 e3=>?_⟩;obtain ⟨u,r,l⟩:=hl i x v e1 e2 e3;refine ⟨u,r,?_⟩;rcases l with l | ⟨k,c,e,z⟩
  ·exact .inl l
  ·exact .inr ⟨k,c,e,cellK x c e _ z⟩
 ·obtain ⟨v,z⟩:=I.cell x c e;exact ⟨v,cellK x c e v z⟩
 ·obtain ⟨m,⟨o,_,_,ho,_⟩,_⟩:=I.loc;exact free _ o (fun z=>(mM _ z).2.1 rfl) ho I.free
 ·obtain ⟨v,o,ho,hd⟩:=I.cell x c e;exact free c o (fun z=>(mM c z).2.2.1 x c e rfl) ho (I.freeC x c e)
 ·obtain ⟨e,n,ne,nf,d⟩:=I.pin p hp;have AE:p.1 ∉ ch:=fun z=>(mM p.1 z).2.2.2 p hp rfl;exact ⟨keep p.1 p.2 ne nf AE e n,free p.1 p.2 AE e n,ne,nf,d⟩
theorem Inv.un {t':Nat}(I:Inv X pins σ H s)(u:Un X.fs [] H H' s.heap h')(hok:HOk X.prog X.w H' h'):Inv X pins σ H' { s with heap:=h',toks:=t' }:=by
 obtain ⟨m,⟨o,es,ep,ho,r⟩,_⟩:=id I.loc;obtain ⟨sl,hL⟩:=u.any ho I.free (by simp)
 exact I.step (g':=s.gens) (d':=s.drawn) (ch:=[]) (fun _ z=>nomatch z) (fun b o _ hb _ e n=>u.keep b o e n hb (by simp)) (fun b o _ hb _ e n=>u.slot b o e n hb (by simp)) (fun b o _ e n=>u.free b o e n (by simp)) (fun b o _ e=>u.there b o e (by simp)) u.tups u.frzs u.tbls (fun m' hm=>by
  obtain ⟨o',dQ,AF,kM,r'⟩:=hm;rw [ho] at kM;cases kM
  exact ⟨_,dQ,AF,hL,r'⟩) hok I.bare
theorem Inv.call {g':Array GenState}{t':Nat}{d':Drawn}{ch:List Addr}(I:Inv X pins σ H s)(u:Un (frs X.stack) ch H H' s.heap h')(hok:HOk X.prog X.w H' h')(hg:AllBare g')
  (mM:∀ b∈ch,(b∈X.ex\/X.s₀.heap.objs.size<=b)/\b≠X.env.locals/\(∀ x c,X.env.cells.lookup x=some c->c≠b)/\∀ p∈X.pn++pins,p.1≠b) :
  Inv X pins σ H' { s with heap:=h',gens:=g',drawn:=d',toks:=t' }:=by
 obtain ⟨m,⟨o,es,ep,ho,r⟩,_⟩:=id I.loc;obtain ⟨sl,hL⟩:=u.any ho I.free fun z=>(mM _ z).2.1 rfl
 exact I.step (ch:=ch) mM (fun b o hL hb hc e n=>u.keep b o e n (fun z=>(zAo.mp (I.stkSub b z)).elim hL hb) hc) (fun b o _ _ hc e n=>u.any e n hc) (fun b o hc e n=>u.free b o e n hc) (fun b o hc e=>u.there b o e hc) u.tups u.frzs u.tbls (fun m' hm=>by
  obtain ⟨o',dQ,AF,kM,r'⟩:=hm;rw [ho] at kM;cases kM
  exact ⟨_,dQ,AF,hL,r'⟩) hok hg
theorem Inv.turned {t':Nat}{it:Addr}(I:Inv X pins σ H s)(k:∀ b o,b≠it->s.heap.get? b=some o->h'.get? b=some o)(hn:H it=none)(hL:it≠X.env.locals)
  (h1:it∈X.ex\/X.s₀.heap.objs.size<=it) (h2:∀ x c,X.env.cells.lookup x=some c->c≠it) (h3:∀ p∈X.pn++pins,p.1≠it):Inv X pins σ H { s with heap:=h',toks:=t' }:=by
 have My:∀ b u,H b=some u->b≠it:=fun b u e z=>by rw [z,hn] at e;cases e
 refine I.step (g':=s.gens) (d':=s.drawn) (ch:=[it]) (fun b hb=>?_) (fun b o _ _ hc e _=>k b o (fun z=>hc (by simp [z])) e) (fun b o _ _ hc e _=>⟨o.slots,k b o (fun z=>hc (by simp [z])) e⟩) (fun _ _ _ _ n=>n)
  (fun b o hc e=>⟨o,k b o (fun z=>hc (by simp [z])) e⟩) (fun _ _ e=>e) (fun _ _ _ e=>e) (fun b ps e=>⟨#[],by rw [e];simp⟩) (fun m hm=>?_) (fun b u e=>?_) I.bare
 ·have e:b=it:=by simpa using hb
  subst e;exact ⟨h1,hL,h2,h3⟩
 ·obtain ⟨o,es,ep,ho,r⟩:=hm;exact ⟨o,es,ep,k _ o (Ne.symm hL) ho,r⟩
 ·refine (I.hok b u e).stay (fun c v hc q=>k c v ?_ q) (fun _ q=>q) fun _ _ q=>q;rcases hc with z | z
  ·rw [z];exact My b u e
  ·exact My c _ z
theorem Inv.tok (I:Inv X pins σ H s)(t:Nat):Inv X pins σ H { s with toks:=t }:=I.un (h':=s.heap) (t':=t) Un.refl I.hok
theorem Inv.kept {t':Nat}(I:Inv X pins σ H s)(k:∀ b u,s.heap.get? b=some u->h'.get? b=some u):Inv X pins σ H { s with heap:=h',toks:=t' }:=I.un (Un.kept k) (I.hok.kept k)
theorem Inv.laid {a:Addr}{o:HO}{t':Nat}(I:Inv X pins σ H s)(k:∀ b u,s.heap.get? b=some u->h'.get? b=some u)(hp:s.heap.objs.size<=a)(new:ObjOk X.prog X.w (upd H a o) h' a o) :
  Inv X pins σ (upd H a o) { s with heap:=h',toks:=t' }:=I.un (Un.laid k hp (I.hok.fresh hp)) (I.hok.laid k hp new)
theorem Inv.write {x e:Addr}{o:HO}{t':Nat}(I:Inv X pins σ H s)(mu:Mut (H x))(he:e=x\/H e=some (.own x))(k:∀ b u,b≠e->s.heap.get? b=some u->h'.get? b=some u)(xD:∃ u,h'.get? e=some u)
  (new:ObjOk X.prog X.w (upd H x o) h' x o):Inv X pins σ (upd H x o) { s with heap:=h',toks:=t' }:=I.un (Un.write mu he k xD) (I.hok.write mu he k xD new)
theorem Inv.pins_of {qq:List (Addr×Obj)}(I:Inv X pins σ H s)(h:∀ p∈qq,s.heap.get? p.1=some p.2/\H p.1=none/\p.1≠X.env.locals/\p.1 ∉ X.fs/\∀ v,p.2.data≠.cell v):Inv X qq σ H s :=
 ⟨I.ok,I.os,I.bare,I.base,I.loc,I.cell,I.free,I.freeC,fun p hp=>(zA6.mp hp).elim (fun z=>I.pin p (List.mem_append_left _ z)) (h p),I.hok,I.len⟩
theorem tM {N:List Str}(hN:N.Nodup){i j:Nat}{x:Str}(a:N[i]?=some x)(b:N[j]?=some x):i=j:=by
 obtain ⟨h1,e1⟩:=zAa.mp a;obtain ⟨h2,e2⟩:=zAa.mp b;exact (List.getElem_inj hN).mp (e1.trans e2.symm)
theorem kY {M:Model}{A:Around}{E:Value->Shared->Prop}{i:Nat}{x:Str}{v:V}{u:Value}{Q:Unit->Shared->Prop}(I:Inv X pins σ H s)(hN:X.N.Nodup)(hi:X.N[i]?=some x)(hx:Loc X.env.scope x)(r:RelV v u)
  (h:∀ s',Inv X pins (σ.set i (some v)) H s'->(∃ a,Heap.SameBut a s.heap s'.heap/\(a=X.env.locals\/X.env.cells.lookup x=some a))->Q () s') (hf:X.fn x=true\/X.env.scope.names.lookup x=some .local:=by first | exact .inl rfl | exact .inr rfl | assumption):wpAny M A (storeName X.env x u) Q E s:=by
 obtain ⟨m,hn,hl⟩:=id I.loc;have FA:(X.env.scope.kind == .class || (X.env.scope.kind == .module && X.env.locals != X.env.globals))=false:=by rw [I.ok.kind];rfl
 have AG:i < σ.length:=by rw [I.len];exact (zAa.mp hi).1
 have cne:=I.cne
 have tracked:∀ {a:Addr} {h':Heap},(∃ o,s.heap.get? a=some o/\H a=none)->Heap.SameBut a s.heap h'->HOk X.prog X.w H h':=fun {a h'} ha hs b ob e=>by
  obtain ⟨_,_,hfree⟩:=ha;refine (I.hok b ob e).stay (fun c w' hc q=>(hs.2 c ?_).trans q) (fun _ q=>q) fun _ _ q=>q;rintro rfl;rcases hc with rfl | hc
  ·rw [hfree] at e;cases e
  ·rw [hfree] at hc;cases hc
 rcases hx with hk | hk
 ·refine wpAny_storeName_local hk hn (fun h' Pf hs=>?_) FA;obtain ⟨oL,_,_,Pg,_⟩:=id hn;refine h _ ⟨I.ok,I.os,I.bare,⟨fun b o e n hb hx=>?_,fun b o e n hb hx=>?_,I.base.free,fun b o e hx=>?_,I.base.tups,I.base.frzs,I.base.tbls⟩,⟨_,Pf,fun j y v' e1 e2 e3=>?_⟩,fun y c e=>?_,I.free,I.freeC,fun p hp=>?_,tracked ⟨oL,Pg,I.free⟩ hs,by simpa using I.len⟩ ⟨_,hs,.inl rfl⟩
  ·exact (hs.2 b (zB6 (zB4 (zB0 e) I.ok.above))).trans (I.base.keep b o e n hb hx)
  ·obtain ⟨sl,e1⟩:=I.base.slot b o e n hb hx;exact ⟨sl,(hs.2 b (zB6 (zB4 (zB0 e) I.ok.above))).trans e1⟩
  ·obtain ⟨o',e1⟩:=I.base.there b o e hx;exact ⟨o',(hs.2 b (zB6 (zB4 (zB0 e) I.ok.above))).trans e1⟩
  ·by_cases hj:j=i
   ·subst hj;rw [hi] at e1;cases e1;rw [List.getElem?_set_self AG] at e2;cases e2;exact ⟨u,r,.inl ⟨hk,by simp⟩⟩
   ·rw [List.getElem?_set_ne (Ne.symm hj)] at e2;obtain ⟨u',r',q⟩:=hl j y v' e1 e2 e3;refine ⟨u',r',?_⟩;rcases q with ⟨k,e⟩ | ⟨k,c,e,z⟩
    ·refine .inl ⟨k,?_⟩;have:y≠x:=fun e=>hj (tM hN e1 (e ▸ hi));simp [this,e]
    ·exact .inr ⟨k,c,e,z.sameBut hs (cne y c e)⟩
  ·obtain ⟨w',z⟩:=I.cell y c e;exact ⟨w',z.sameBut hs (cne y c e)⟩
  ·obtain ⟨e,n,ne,nf,d⟩:=I.pin p hp;exact ⟨(hs.2 p.1 ne).trans e,n,ne,nf,d⟩
 ·have FC:X.fn x=true:=by
   rcases hf with z | z
   ·exact z
   ·rw [z] at hk;cases hk
  obtain ⟨c,hc⟩:=I.ok.has x (.inl hk);obtain ⟨w',z⟩:=I.cell x c hc;refine wpAny_storeName_cell I.ok.kind hk hc z (fun h' ah hs=>?_);obtain ⟨oc,Mz,FD⟩:=id z;refine h { s with heap:=h' } ⟨I.ok,I.os,I.bare,⟨fun b o e n hb hx=>?_,fun b o e n hb hx=>?_,I.base.free,fun b o e hx=>?_,I.base.tups,I.base.frzs,I.base.tbls⟩,⟨m,hn.sameBut hs (Ne.symm (cne x c hc)),fun j y v' e1 e2 e3=>?_⟩,fun y c' e=>?_,I.free,I.freeC,fun p hp=>?_,tracked ⟨oc,Mz,I.freeC x c hc⟩ hs,by simpa using I.len⟩ ⟨c,hs,.inr hc⟩
  ·exact (hs.2 b (zB6 (zB4 (zB0 e) (I.ok.cab x c FC hc)))).trans (I.base.keep b o e n hb hx)
  ·obtain ⟨sl,e1⟩:=I.base.slot b o e n hb hx;exact ⟨sl,(hs.2 b (zB6 (zB4 (zB0 e) (I.ok.cab x c FC hc)))).trans e1⟩
  ·obtain ⟨o',e1⟩:=I.base.there b o e hx;exact ⟨o',(hs.2 b (zB6 (zB4 (zB0 e) (I.ok.cab x c FC hc)))).trans e1⟩
  ·by_cases hj:j=i
   ·subst hj;rw [hi] at e1;cases e1;rw [List.getElem?_set_self AG] at e2;cases e2;exact ⟨u,r,.inr ⟨.inl hk,c,hc,ah⟩⟩
   ·rw [List.getElem?_set_ne (Ne.symm hj)] at e2;obtain ⟨u',r',q⟩:=hl j y v' e1 e2 e3;refine ⟨u',r',?_⟩;rcases q with q | ⟨k,c',e,z'⟩
    ·exact .inl q
    ·refine .inr ⟨k,c',e,z'.sameBut hs ?_⟩;rintro rfl;exact hj (tM hN e1 (I.ok.inj _ _ _ e hc ▸ hi))
  ·by_cases qr:c'=c
   ·subst qr;exact ⟨_,ah⟩
   ·obtain ⟨w2,z2⟩:=I.cell y c' e;exact ⟨w2,z2.sameBut hs qr⟩
  ·obtain ⟨e,n,ne,nf,d⟩:=I.pin p hp;refine ⟨(hs.2 p.1 ?_).trans e,n,ne,nf,d⟩;intro q;rw [q,Mz] at e;have q':oc=p.2:=zAl e;exact d w' (by rw [<- q'];exact FD)
theorem eF {M:Model}{A:Around}{E:Value->Shared->Prop}{i:Nat}{x:Str}{v:V}{u:Value}{Q:Unit->Shared->Prop}(I:Inv X pins σ H s)(hN:X.N.Nodup)(hi:X.N[i]?=some x)(hx:Loc X.env.scope x)(r:RelV v u)
  (h:∀ s',Inv X pins (σ.set i (some v)) H s'->Q () s') (hf:X.fn x=true\/X.env.scope.names.lookup x=some .local:=by first | exact .inl rfl | exact .inr rfl | assumption):wpAny M A (storeName X.env x u) Q E s :=
 kY I hN hi hx r (fun s' I' _=>h s' I') hf
theorem Inv.call' {s':Shared}{ch:List Addr}(I:Inv X pins σ H s)(ho:s'.os=s.os)(u:Un (frs X.stack) ch H H' s.heap s'.heap)(hok:HOk X.prog X.w H' s'.heap)(hg:AllBare s'.gens)
  (mM:∀ b∈ch,(b∈X.ex\/X.s₀.heap.objs.size<=b)/\b≠X.env.locals/\(∀ x c,X.env.cells.lookup x=some c->c≠b)/\∀ p∈X.pn++pins,p.1≠b):Inv X pins σ H' s':=by
 obtain ⟨h',g',d',t',o'⟩:=s';have e:o'=s.os:=ho;subst e;exact I.call (g':=g') (t':=t') (d':=d') u hok hg mM
end
abbrev XK:=Value->Option Addr->Hp->Prop
abbrev St:=List (Option V)
abbrev VK:=V->Hp->Prop
abbrev TE:=St->Hp->VK->Prop
abbrev TT:=St->Hp->(Bool->Hp->Prop)->Prop
abbrev TA:=St->Hp->(List V->Hp->Prop)->Prop
structure Ends where
 nx:St->Hp->Prop
 rt:VK
 bk:St->Hp->Prop:=fun _ _=>False
 ct:St->Hp->Prop:=fun _ _=>False
abbrev TS:=Ends->St->Hp->Prop
def EP (X:Cx)(pins:List (Addr×Obj))(σ:St)(Q:VK)(u:Value)(s':Shared):Prop:=∃ v H',Inv X pins σ H' s'/\RelV v u/\Q v H'
def TP (X:Cx)(pins:List (Addr×Obj))(σ:St)(Q:Bool->Hp->Prop)(b:Bool)(s':Shared):Prop:=∃ H',Inv X pins σ H' s'/\Q b H'
def AP (X:Cx)(pins:List (Addr×Obj))(σ:St)(Q:List V->Hp->Prop)(us:List Value)(s':Shared):Prop:=∃ vs H',Inv X pins σ H' s'/\Vals vs us/\Q vs H'
def SP (X:Cx)(pins:List (Addr×Obj))(D:Ends)(f:Flow)(s':Shared):Prop :=
 match f with
 | .next=>∃ ai H',Inv X pins ai H' s'/\D.nx ai H'
 | .brk=>∃ ai H',Inv X pins ai H' s'/\D.bk ai H'
 | .cont=>∃ ai H',Inv X pins ai H' s'/\D.ct ai H'
 | .ret u=>∃ v ai H',Inv X pins ai H' s'/\RelV v u/\D.rt v H'
def PE (X:Cx)(e:Expr)(t:TE):Prop :=
 ∀ (pins:List (Addr×Obj)) (s:Shared) (σ:St) (H:Hp) (Q:VK),Inv X pins σ H s->t σ H Q->wpAny (model X.prog X.w) X.A (eval e X.env) (EP X pins σ Q) X.xe s
def PT (X:Cx)(e:Expr)(t:TT):Prop :=
 ∀ (pins:List (Addr×Obj)) (s:Shared) (σ:St) (H:Hp) (Q:Bool->Hp->Prop),Inv X pins σ H s->t σ H Q->wpAny (model X.prog X.w) X.A (isTrue e X.env (eval e X.env)) (TP X pins σ Q) X.xe s
def PW (X:Cx)(e:Expr)(t:TT):Prop :=
 ∀ (whole:Sem Value) (pins:List (Addr×Obj)) (s:Shared) (σ:St) (H:Hp) (Q:Bool->Hp->Prop),Inv X pins σ H s->t σ H Q->wpAny (model X.prog X.w) X.A (isTrue e X.env whole) (TP X pins σ Q) X.xe s
theorem PW.pt {X:Cx}{e:Expr}{t:TT}(h:PW X e t):PT X e t:=h _
def PA (X:Cx)(es:List Expr)(t:TA):Prop :=
 ∀ (pos:Pos) (pins:List (Addr×Obj)) (s:Shared) (σ:St) (H:Hp) (Q:List V->Hp->Prop),Inv X pins σ H s->t σ H Q->wpAny (model X.prog X.w) X.A (spliced (backTo pos (starEach es X.env))) (AP X pins σ Q) X.xe s
def PS (X:Cx)(st:Stmt)(t:TS):Prop :=
 ∀ (pins:List (Addr×Obj)) (s:Shared) (σ:St) (H:Hp) (D:Ends),Inv X pins σ H s->t D σ H->wpAny (model X.prog X.w) X.A (exec st X.env) (SP X pins D) X.xe s
def PSs (X:Cx)(st:List Stmt)(t:TS):Prop :=
 ∀ (pins:List (Addr×Obj)) (s:Shared) (σ:St) (H:Hp) (D:Ends),Inv X pins σ H s->t D σ H->wpAny (model X.prog X.w) X.A (execs st X.env) (SP X pins D) X.xe s
theorem thn {α:Type}{t:Sem α}{Q Q':α->Shared->Prop}{M:Model}{A:Around}{E:Value->Shared->Prop}{s:Shared}(h:wpAny M A t Q E s)(hQ:∀ a s,Q a s->Q' a s):wpAny M A t Q' E s:=wpAny_mono h hQ fun _ _ x=>x
section
variable {X:Cx}
theorem bin {a b:Expr}{ta tb:TE}(ha:PE X a ta)(hb:PE X b tb){pins:List (Addr×Obj)}{s:Shared}{σ:St}{H:Hp}{R:V->V->Hp->Prop}(I:Inv X pins σ H s)(h:ta σ H fun x H1=>tb σ H1 fun y H2=>R x y H2)
  {α:Type} {Q:α->Shared->Prop} {f:Value->Value->Sem α}
  (hf:∀ v u s2 x y H2,Inv X pins σ H2 s2->RelV x v->RelV y u->R x y H2->wpAny (model X.prog X.w) X.A (f v u) Q X.xe s2) :
  wpAny (model X.prog X.w) X.A (eval a X.env) (fun v s₁=>wpAny (model X.prog X.w) X.A (eval b X.env) (fun u s₂=>wpAny (model X.prog X.w) X.A (f v u) Q X.xe s₂) X.xe s₁) X.xe s:=by
 refine thn (ha pins s σ H _ I h) fun v s1 ⟨x,H1,I1,r1,q1⟩=>?_;refine thn (hb pins s1 σ H1 _ I1 q1) fun u s2 ⟨y,H2,I2,r2,q2⟩=>?_;exact hf v u s2 x y H2 I2 r1 r2 q2
inductive TVarI (i:Nat)(σ:St)(H:Hp)(Q:VK):Prop
 | mk:∀ v,(σ[i]?=some (some v))->(Q v H)->TVarI i σ H Q
def Dq (i:Nat):TE:=fun σ H Q=>TVarI i σ H Q
def tC (v:V):TE:=fun _ H Q=>Q v H
theorem G9 {i:Nat}{x:Str}{pos:Pos}(hN:X.N[i]?=some x)(hv:Vis X.env.scope x)(hd:(x == ("__debug__" : Str))=false:=by decide)(kN:(x == ("__classdict__" : Str))=false:=by decide):PE X (.Name x pos) (Dq i):=by
 intro pins s σ H Q I h;obtain ⟨v,e,h⟩:=h;obtain ⟨m,hn,hl⟩:=I.loc;obtain ⟨u,r,l⟩:=hl i x v hN e hv
 have fin:EP X pins σ Q u s:=⟨v,H,I,r,h⟩
 rcases l with ⟨hk,hm⟩ | ⟨hk,c,hc,hcell⟩
 ·exact wpAny_Name (wpAny_loadName_local I.ok.kind hk hn hm fin) hd
 ·rcases hk with hk | hk
  ·exact wpAny_Name (wpAny_loadName_cell I.ok.kind hk hc hcell fin) hd
  ·exact wpAny_Name (wpAny_loadName_free I.ok.kind hk hc hcell fin kN) hd
theorem aA {i j pos}:PE X (.Constant (.int i) j pos) (tC (.int i)):=fun _ _ _ H _ I h=>wpAny_Constant_int ⟨.int i,H,I.tok _,⟨_,rfl⟩,h⟩
theorem mZ {b j pos}:PE X (.Constant (.bool b) j pos) (tC (.bl b)):=fun _ _ _ H _ I h=>Constant_bool ⟨.bl b,H,I,rfl,h⟩
theorem rm {j pos}:PE X (.Constant .none j pos) (tC .non):=fun _ _ _ H _ I h=>Constant_none ⟨.non,H,I,rfl,h⟩
def Gl (X:Cx)(x:Str):Prop:=X.env.kindOf x=some .globalImplicit
theorem wj {E:Value->Shared->Prop}{pins:List (Addr×Obj)}{s:Shared}{σ:St}{H:Hp}{x:Str}{u:Value}{pos:Pos}{Q:Value->Shared->Prop}(I:Inv X pins σ H s)(hg:Gl X x)(hm:X.mg x=some u)(h:Q u s)
  (hd:(x == ("__debug__" : Str))=false:=by decide):wpAny (model X.prog X.w) X.A (eval (.Name x pos) X.env) Q E s :=
 Calls.Name_function_global I.ok.kind hg (Calls.loadGlobal_global (by rw [I.ok.glob];exact I.mod.glob.keeps I.bk) hm h) hd
theorem gU {E:Value->Shared->Prop}{pins:List (Addr×Obj)}{s:Shared}{σ:St}{H:Hp}{x:Str}{u:Value}{pos:Pos}{Q:Value->Shared->Prop}(I:Inv X pins σ H s)(hg:Gl X x)(hm:X.mg x=none)(hv:bootBuiltins x=some u)(h:Q u s)
  (hn:x≠"__name__" := by decide) (hd:(x == ("__debug__" : Str))=false:=by decide):wpAny (model X.prog X.w) X.A (eval (.Name x pos) X.env) Q E s:=by
 obtain ⟨mb,h1,h2⟩:=I.mod.blt;exact Calls.Name_function_global I.ok.kind hg (Calls.loadGlobal_builtin (by rw [I.ok.glob];exact I.mod.glob.keeps I.bk) hm (by rw [I.ok.blt];exact h1.keeps I.bk) ((h2 x hn).trans hv) h) hd
theorem bV {x:Str}{v:V}{u:Value}{pos:Pos}(hg:Gl X x)(hm:X.mg x=some u)(r:RelV v u)(hd:(x == ("__debug__" : Str))=false:=by decide):PE X (.Name x pos) (tC v) :=
 fun _ _ _ H _ I h=>wj I hg hm ⟨v,H,I,r,h⟩ hd
theorem rz {x:Str}{v:V}{u:Value}{pos:Pos}(hg:Gl X x)(hm:X.mg x=none)(hv:bootBuiltins x=some u)(r:RelV v u)(hn:x≠"__name__" := by decide)(hd:(x == ("__debug__" : Str))=false:=by decide):PE X (.Name x pos) (tC v) :=
 fun _ _ _ H _ I h=>gU I hg hm hv ⟨v,H,I,r,h⟩ hn hd
variable {a b:Expr}{ta tb:TE}{pos:Pos}
def PC (X:Cx)(op:CmpOp)(a b:Expr)(t:TE):Prop :=
 ∀ (pins:List (Addr×Obj)) (s:Shared) (σ:St) (H:Hp) (Q:VK),Inv X pins σ H s->t σ H Q ->
  wpAny (model X.prog X.w) X.A (eval a X.env) (fun v s₁=>wpAny (model X.prog X.w) X.A (eval b X.env) (fun u s₂=>wpAny (model X.prog X.w) X.A (compareOp op v u) (EP X pins σ Q) X.xe s₂) X.xe s₁) X.xe s
def tB (t:TE):TT:=fun σ H Q=>t σ H fun x H1=>∃ c,x=.bl c/\Q c H1
theorem Ab {op:CmpOp}{t:TE}(h:PC X op a b t)(h1:behindInMarks op b=false:=by first | exact nobehind _ (by decide) (by decide) | rfl):PT X (.Compare a [op] [b] pos) (tB t):=by
 intro pins s σ H Q I hw;refine wpAny_isTrue_Compare1 (thn (h pins s σ H _ I hw) fun v s1 h1=>thn h1 fun u s2 h2=>thn h2 fun c s3 ⟨x,H1,I1,r1,q1⟩=>?_) h1;obtain ⟨d,rfl,q⟩:=q1;cases r1;exact wpAny_truthy_bool ⟨H1,I1,q⟩
theorem dF {e:Expr}{t:TE}(h:PE X e t)(he:∀ whole,isTrue e X.env whole=(do let v <- whole;standAt e.pos;holding [v] (truthy v)):=by intro _;rfl):PT X e (tB t):=by
 intro pins s σ H Q I hw;refine isTrue_plain (thn (h pins s σ H _ I hw) fun v s1 ⟨x,H1,I1,r1,q1⟩=>?_) (he _);obtain ⟨d,rfl,q⟩:=q1;cases r1;exact wpAny_truthy_bool ⟨H1,I1,q⟩
variable {tA D1:TT}{rest:List Expr}
def Jr (t u:TT):TT:=fun σ H Q=>t σ H fun c H1=>if c=true then u σ H1 Q else Q false H1
def tOr (t u:TT):TT:=fun σ H Q=>t σ H fun c H1=>if c=true then Q true H1 else u σ H1 Q
def Js (t:TT):TT:=fun σ H Q=>t σ H fun c H1=>Q (!c) H1
theorem mF (ha:PT X a tA):PW X (.BoolOp .And [a] pos) tA:=by
 intro wh pins s σ H Q I h;refine isTrue_and (thn (ha pins s σ H Q I h) fun c s1 e=>?_)
 cases c with
 | true=>exact isTrue_and_nil e
 | false=>exact e
theorem uW (ha:PT X a tA):PW X (.BoolOp .Or [a] pos) tA:=by
 intro wh pins s σ H Q I h;refine isTrue_or (thn (ha pins s σ H Q I h) fun c s1 e=>?_)
 cases c with
 | false=>exact isTrue_or_nil e
 | true=>exact e
theorem rA (ha:PT X a tA)(hb:PW X (.BoolOp .And (b::rest) pos) D1):PW X (.BoolOp .And (a::b::rest) pos) (Jr tA D1):=by
 intro wh pins s σ H Q I h;refine isTrue_and (thn (ha pins s σ H _ I h) fun c s1 ⟨H1,I1,q1⟩=>?_)
 cases c with
 | true=>exact hb wh pins s1 σ H1 Q I1 q1
 | false=>exact ⟨H1,I1,q1⟩
theorem tO (ha:PT X a tA)(hb:PW X (.BoolOp .Or (b::rest) pos) D1):PW X (.BoolOp .Or (a::b::rest) pos) (tOr tA D1):=by
 intro wh pins s σ H Q I h;refine isTrue_or (thn (ha pins s σ H _ I h) fun c s1 ⟨H1,I1,q1⟩=>?_)
 cases c with
 | true=>exact ⟨H1,I1,q1⟩
 | false=>exact hb wh pins s1 σ H1 Q I1 q1
theorem cW (ha:PT X a tA):PT X (.UnaryOp .Not a pos) (Js tA):=by
 intro pins s σ H Q I h;exact isTrue_not (ha pins s σ H (fun c H1=>Q (!c) H1) I h)
def Fq (ta tb:TE):TE:=fun σ H Q=>ta σ H fun x H1=>∃ c,x=.bl c/\if c=true then tb σ H1 Q else Q (.bl false) H1
def Ho (ta:TE):TE:=fun σ H Q=>ta σ H fun x H1=>∃ c,x=.bl c/\Q (.bl (!c)) H1
theorem eV {op}{t:TE}(h:PE X a t):PE X (.BoolOp op [a] pos) t:=fun pins s σ H Q I hw=>BoolOp_one (h pins s σ H Q I hw)
theorem cM (ha:PE X a ta)(hb:PE X (.BoolOp .And (b::rest) pos) tb):PE X (.BoolOp .And (a::b::rest) pos) (Fq ta tb):=by
 intro pins s σ H Q I h;refine BoolOp_and (thn (ha pins s σ H _ I h) fun v s1 ⟨x,H1,I1,r1,q1⟩=>?_);obtain ⟨c,rfl,q1⟩:=q1;cases r1;refine wpAny_truthy_bool ?_
 cases c with
 | true=>exact hb pins s1 σ H1 Q I1 q1
 | false=>exact ⟨.bl false,H1,I1,rfl,q1⟩
theorem Ga (ha:PE X a ta):PE X (.UnaryOp .Not a pos) (Ho ta):=by
 intro pins s σ H Q I h;refine UnaryOp_ (thn (ha pins s σ H _ I h) fun v s1 ⟨x,H1,I1,r1,q1⟩=>?_);obtain ⟨c,rfl,q1⟩:=q1;cases r1;exact not_of (wpAny_truthy_bool ⟨.bl (!c),H1,I1,rfl,q1⟩)
def tIf (t:TT)(ta tb:TE):TE:=fun σ H Q=>t σ H fun c H1=>if c=true then ta σ H1 Q else tb σ H1 Q
theorem ni {c:Expr}(hc:PT X c tA)(ha:PE X a ta)(hb:PE X b tb):PE X (.IfExp c a b pos) (tIf tA ta tb):=by
 intro pins s σ H Q I h;refine wpAny_IfExp (thn (hc pins s σ H _ I h) fun d s1 ⟨H1,I1,q1⟩=>?_)
 cases d with
 | true=>exact ha pins s1 σ H1 Q I1 q1
 | false=>exact hb pins s1 σ H1 Q I1 q1
end
def SqL (K:Frag)(H:Hp)(a:Addr)(xs:List V):Prop :=
 Rd H a (.lst xs) \/
  ∃ (o:Obj) (its:Array Value) (n:Nat),K.lookup a=some o/\o.cls=.type "list" /\ o.dict=none/\o.data=.seq its n/\its.size<=sizeLine/\Vals xs its.toList
def SqT (K:Frag)(H:Hp)(a:Addr)(xs:List V):Prop :=
 Rd H a (.tup xs) \/
  ∃ (o:Obj) (its:Array Value) (n:Nat),K.lookup a=some o/\o.cls=.type "tuple" /\ o.data=.seq its n/\its.size<=sizeLine/\Vals xs its.toList
def Jt:Value->Option V
 | .none=>some .non
 | .bool b=>some (.bl b)
 | .int i _=>some (.int i)
 | .str x _=>some (.str x)
 | .bytes b _=>some (.byt b)
 | .float b _=>some (.flt b)
 | .ref a=>some (.ref a)
 | .type n=>some (.ty n)
 | _=>none
theorem RelV.abs {x:V}{u:Value}(r:RelV x u):Jt u=some x:=by
 cases x with
 | non=>cases r;rfl
 | bl _=>cases r;rfl
 | int _=>obtain ⟨t,rfl⟩:=r;rfl
 | str _=>obtain ⟨t,rfl⟩:=r;rfl
 | byt _=>obtain ⟨t,rfl⟩:=r;rfl
 | flt _=>obtain ⟨t,rfl⟩:=r;rfl
 | ref _=>cases r;rfl
 | ty _=>cases r;rfl
theorem RelV.inj {x y:V}{u:Value}(r:RelV x u)(q:RelV y u):x=y:=zAl (r.abs.symm.trans q.abs)
theorem Vals.inj:∀ {xs ys:List V} {us:List Value},Vals xs us->Vals ys us->xs=ys
 | _,_,_,.nil,.nil=>rfl
 | _,_,_,.cons r t,.cons r' t'=>by rw [r.inj r',Vals.inj t t']
section
variable {X:Cx}{pins:List (Addr×Obj)}{σ:St}{H:Hp}{s:Shared}{a:Addr}{xs ys:List V}
theorem SqL.of {K:Frag}(h:H a=some (.lst xs)):SqL K H a xs:=.inl (.inl h)
theorem SqT.of {K:Frag}(h:H a=some (.tup xs)):SqT K H a xs:=.inl (.inl h)
theorem Inv.list (I:Inv X pins σ H s)(h:SqL X.K H a xs):∃ its:List Value,Vals xs its/\PlainL s.heap a its.toArray/\xs.length<=sizeLine:=by
 rcases h with h | ⟨o,its,n,hk,hc,hd,hs,hz,r⟩
 ·obtain ⟨z,its,n,r,e⟩:=h.ok I.hok;exact ⟨its,r,⟨_,n,e,rfl,rfl,rfl⟩,z⟩
 ·refine ⟨its.toList,r,⟨o,n,I.kIn a o hk,hc,hd,by simpa using hs⟩,?_⟩;have e:=r.length;simp only [Array.length_toList] at e;lia
theorem Inv.tuple (I:Inv X pins σ H s)(h:SqT X.K H a xs):∃ its:List Value,Vals xs its/\IsTup s.heap a its.toArray/\xs.length<=sizeLine:=by
 rcases h with h | ⟨o,its,n,hk,hc,hs,hz,r⟩
 ·obtain ⟨z,its,r,p⟩:=h.ok I.hok;exact ⟨its,r,p,z⟩
 ·refine ⟨its.toList,r,⟨o,I.kIn a o hk,hc,n,by simpa using hs⟩,?_⟩;have e:=r.length;simp only [Array.length_toList] at e;lia
theorem Inv.list_inj (I:Inv X pins σ H s)(h:SqL X.K H a xs)(h':SqL X.K H a ys):xs=ys:=by
 obtain ⟨its,r,⟨o,n,e,_,_,d⟩,_⟩:=I.list h;obtain ⟨its',r',⟨o',n',e',_,_,d'⟩,_⟩:=I.list h';rw [e] at e';cases e';rw [d] at d';injection d' with d1 _;have:its=its':=by simpa using congrArg Array.toList d1
 subst this;exact r.inj r'
theorem Inv.tuple_inj (I:Inv X pins σ H s)(h:SqT X.K H a xs)(h':SqT X.K H a ys):xs=ys:=by
 obtain ⟨its,r,⟨o,e,_,n,d⟩,_⟩:=I.tuple h;obtain ⟨its',r',⟨o',e',_,n',d'⟩,_⟩:=I.tuple h';rw [e] at e';cases e';rw [d] at d';injection d' with d1 _;have:its=its':=by simpa using congrArg Array.toList d1
 subst this;exact r.inj r'
end
abbrev Cx.wish (X:Cx)(E:Value->Shared->Prop):Cx:={ X with xe:=E }
abbrev Cx.nox (X:Cx):Cx:=X.wish fun _ _=>False
theorem Cx.Ok.wish {X:Cx}(ok:X.Ok)(E:Value->Shared->Prop):(X.wish E).Ok :=
 ⟨ok.mod,ok.kind,ok.glob,ok.blt,ok.above,ok.inj,ok.has,ok.cab,ok.hd,ok.frames,ok.stk,ok.exf,ok.bs,ok.bsz,ok.noex,ok.exfs,ok.funs,ok.frf⟩
theorem Cx.Ok.unwish {X:Cx}{E:Value->Shared->Prop}(ok:(X.wish E).Ok):X.Ok :=
 ⟨ok.mod,ok.kind,ok.glob,ok.blt,ok.above,ok.inj,ok.has,ok.cab,ok.hd,ok.frames,ok.stk,ok.exf,ok.bs,ok.bsz,ok.noex,ok.exfs,ok.funs,ok.frf⟩
section
variable {X:Cx}{pins:List (Addr×Obj)}{σ:St}{H:Hp}{s:Shared}{E:Value->Shared->Prop}
theorem Inv.wish (I:Inv X pins σ H s)(E:Value->Shared->Prop):Inv (X.wish E) pins σ H s:=⟨I.ok.wish E,I.os,I.bare,I.base,I.loc,I.cell,I.free,I.freeC,I.pin,I.hok,I.len⟩
theorem Inv.unwish (I:Inv (X.wish E) pins σ H s):Inv X pins σ H s:=⟨I.ok.unwish,I.os,I.bare,I.base,I.loc,I.cell,I.free,I.freeC,I.pin,I.hok,I.len⟩
theorem SP.unwish {D:Ends}{f:Flow}{s':Shared}(h:SP (X.wish E) pins D f s'):SP X pins D f s':=by
 cases f with
 | next=>obtain ⟨ai,H',I,q⟩:=h;exact ⟨ai,H',I.unwish,q⟩
 | brk=>obtain ⟨ai,H',I,q⟩:=h;exact ⟨ai,H',I.unwish,q⟩
 | cont=>obtain ⟨ai,H',I,q⟩:=h;exact ⟨ai,H',I.unwish,q⟩
 | ret u=>obtain ⟨v,ai,H',I,r,q⟩:=h;exact ⟨v,ai,H',I.unwish,r,q⟩
theorem PSs.nox {st:List Stmt}{t:TS}(h:PSs X.nox st t):PSs X st t:=fun pins s σ H D I hw =>
 wpAny_mono (h pins s σ H D (I.wish _) hw) (fun _ _ q=>q.unwish) fun _ _ z=>False.elim z
end
section
variable {X:Cx}{st:Stmt}{rest:List Stmt}{t u:TS}{e:Expr}{te:TE}{pos:Pos}
def Ft:TS:=fun D σ H=>D.nx σ H
def Ds (t u:TS):TS:=fun D σ H=>t { D with nx:=u D } σ H
theorem bf:PSs X [] Ft:=fun _ _ σ H _ I h=>wpAny_execs_nil ⟨σ,H,I,h⟩
theorem aB (h1:PS X st t)(h2:PSs X rest u):PSs X (st::rest) (Ds t u):=by
 intro pins s σ H D I h;refine wpAny_execs_cons (thn (h1 pins s σ H { D with nx:=u D } I h) fun f s1 q=>?_)
 cases f with
 | next =>
  obtain ⟨ai,H',I',q⟩:=q;exact h2 pins s1 ai H' D I' q
 | ret v=>exact q
 | brk=>exact q
 | cont=>exact q
theorem aD (h1:PS X st t):PSs X [st] t:=by
 intro pins s σ H D I h;refine wpAny_execs_cons (thn (h1 pins s σ H D I h) fun f s1 q=>?_)
 cases f with
 | next=>exact wpAny_execs_nil q
 | ret v=>exact q
 | brk=>exact q
 | cont=>exact q
theorem Inv.quiet {pins:List (Addr×Obj)}{σ:St}{H:Hp}{s:Shared}(I:Inv X pins σ H s):interactive X.env=false:=by simp [interactive,I.ok.kind]
def Hq (te:TE):TS:=fun D σ H=>te σ H fun _ H1=>D.nx σ H1
theorem cO (he:PE X e te)(hs:swapsWith e none pos.line X.env=pure false:=by rfl):PS X (.Expr e pos) (Hq te):=by
 intro pins s σ H D I h;exact wpAny_Expr_any (thn (he pins s σ H _ I h) fun v s1 ⟨x,H1,I1,r1,q1⟩=>⟨σ,H1,I1,q1⟩) I.quiet hs
def Gb (te:TE):TS:=fun D σ H=>te σ H D.rt
theorem aR (he:PE X e te):PS X (.Return (some e) pos) (Gb te):=by
 intro pins s σ H D I h;exact wpAny_Return_some (thn (he pins s σ H _ I h) fun v s1 ⟨x,H1,I1,r1,q1⟩=>⟨x,σ,H1,I1,r1,q1⟩)
def Ju (c:TT)(t u:TS):TS:=fun D σ H=>c σ H fun b H1=>if b=true then t D σ H1 else u D σ H1
theorem cF {c:Expr}{a b:List Stmt}{tc:TT}(hc:PT X c tc)(ha:PSs X a t)(hb:PSs X b u):PS X (.If c a b pos) (Ju tc t u):=by
 intro pins s σ H D I h;refine wpAny_If (thn (hc pins s σ H _ I h) fun d s1 ⟨H1,I1,q1⟩=>?_)
 cases d with
 | true=>exact ha pins s1 σ H1 D I1 q1
 | false=>exact hb pins s1 σ H1 D I1 q1
def Ac:TS:=fun _ _ _=>False
theorem fO:PS X st Ac:=fun _ _ _ _ _ _ h=>h.elim
theorem q9 {FE:List Stmt}:PSs X FE Ac:=fun _ _ _ _ _ _ h=>h.elim
end
abbrev TG:=V->St->Hp->(St->Hp->Prop)->Prop
abbrev TGs:=List V->St->Hp->(St->Hp->Prop)->Prop
def PG (X:Cx)(target:Expr)(t:TG):Prop :=
 ∀ (pins:List (Addr×Obj)) (s:Shared) (σ:St) (H:Hp) (v:V) (u:Value) (Q:St->Hp->Prop),Inv X pins σ H s->RelV v u->t v σ H Q ->
  wpAny (model X.prog X.w) X.A (assign target X.env u) (fun _ s'=>∃ ai H',Inv X pins ai H' s'/\Q ai H') X.xe s
def PGs (X:Cx)(ts:List Expr)(t:TGs):Prop :=
 ∀ (pins:List (Addr×Obj)) (s:Shared) (σ:St) (H:Hp) (vs:List V) (us:List Value) (Q:St->Hp->Prop),Inv X pins σ H s->Vals vs us->t vs σ H Q ->
  wpAny (model X.prog X.w) X.A (assignInOrder ((assignEach ts X.env).map (·.2)) us) (fun _ s'=>∃ ai H',Inv X pins ai H' s'/\Q ai H') X.xe s
abbrev yx:=V->V->V->Hp->(Hp->Prop)->Prop
def Dt (X:Cx)(t:yx):Prop :=
 ∀ (pins:List (Addr×Obj)) (s:Shared) (σ:St) (H:Hp) (o i v:V) (ov iv u:Value) (Q:Hp->Prop),Inv X pins σ H s->RelV o ov->RelV i iv->RelV v u->t o i v H Q ->
  wpAny (model X.prog X.w) X.A (setItem ov iv u) (fun _ s'=>∃ H',Inv X pins σ H' s'/\Q H') X.xe s
abbrev TIp:=V->V->Hp->VK->Prop
def PIp (X:Cx)(op:Operator)(t:TIp):Prop :=
 ∀ (pins:List (Addr×Obj)) (s:Shared) (σ:St) (H:Hp) (x y:V) (v u:Value) (Q:VK),Inv X pins σ H s->RelV x v->RelV y u->t x y H Q ->
  wpAny (model X.prog X.w) X.A (inplaceOp op v u) (EP X pins σ Q) X.xe s
section
variable {X:Cx}{pos:Pos}
def bw (i:Nat):TG:=fun v σ H Q=>Q (σ.set i (some v)) H
theorem bh {i:Nat}{x:Str}(hN:X.N.Nodup)(hi:X.N[i]?=some x)(hx:Loc X.env.scope x)(hf:X.fn x=true\/X.env.scope.names.lookup x=some .local:=by first | exact .inl rfl | exact .inr rfl | assumption):PG X (.Name x pos) (bw i):=by
 intro pins s σ H v u Q I r h;exact wpAny_assign_Name (eF I hN hi hx r (fun s' I'=>⟨_,H,I',h⟩) hf)
def jo:TGs:=fun vs σ H Q=>vs=[]/\Q σ H
def bN (t:TG)(u:TGs):TGs:=fun vs σ H Q=>∃ v r,vs=v::r/\t v σ H fun ai H'=>u r ai H' Q
theorem aV:PGs X [] jo:=by
 intro pins s σ H vs us Q I r h;obtain ⟨e,h⟩:=h;subst e;cases r;exact assignInOrder_nil ⟨σ,H,I,h⟩
theorem ao {e:Expr}{es:List Expr}{t:TG}{u:TGs}(h1:PG X e t)(h2:PGs X es u)
  (hs:(assignEach (e::es) X.env).map (·.2)=assign e X.env::(assignEach es X.env).map (·.2):=by rfl):PGs X (e::es) (bN t u):=by
 intro pins s σ H vs us Q I r h;obtain ⟨v,vr,e1,h⟩:=h;subst e1
 cases r with
 | cons r rr =>
  rw [hs];refine assignInOrder_cons (thn (h1 pins s σ H _ _ _ I r h) fun _ s1 ⟨FF,H1,I1,q1⟩=>?_);exact h2 pins s1 FF H1 _ _ Q I1 rr q1
inductive GTupI (K:Frag)(n:Nat)(t:TGs)(v:V)(σ:St)(H:Hp)(Q:St->Hp->Prop):Prop
 | mk:∀ a xs,(v=.ref a)->(SqT K H a xs)->(xs.length=n)->(t xs σ H Q)->GTupI K n t v σ H Q
def jj (K:Frag)(n:Nat)(t:TGs):TG:=fun v σ H Q=>GTupI K n t v σ H Q
theorem bJ {es:List Expr}{k:Nat}{t:TGs}{n:Nat}(hc:X.calm=true)(h:PGs X es t)
  (hn:(assignEach es X.env).length=n:=by rfl) (gL:(assignEach es X.env).findIdx? (·.1)=none:=by rfl):PG X (.Tuple es k pos) (jj X.K n t):=by
 intro pins s σ H v u Q I r hw;obtain ⟨a,xs,e1,hq,hl,hw⟩:=hw;subst e1;cases r;obtain ⟨its,rv,ht,hz⟩:=I.tuple hq;refine assign_Tuple_tuple (I.ok.hd hc) ht (by simp [hn,<- hl,rv.length]) gL fun h' hx=>?_;have I1:Inv X pins σ H { s with heap:=h' }:=I.kept (t':=s.toks) fun b o e=>hx b o (Nat.ne_of_lt (Heap.lt_size e)) e;exact h pins _ σ H xs _ Q I1 (by simpa using rv) hw
def Jv (to ti:TE)(t:yx):TG:=fun v σ H Q=>to σ H fun o H1=>ti σ H1 fun i H2=>t o i v H2 fun H3=>Q σ H3
theorem fP {o i:Expr}{to ti:TE}{t:yx}(ho:PE X o to)(hi:PE X i ti)(hs:Dt X t)
  (ha:∀ v,assign (.Subscript o i pos) X.env v=(do
   let ov <- holding [v] (eval o X.env)
   let iv <- holding [v,ov] (eval i X.env)
   standAt pos
   holding [v,ov,iv] (setItem ov iv v)
   release [v,ov,iv] []):=by intro _;rfl):PG X (.Subscript o i pos) (Jv to ti t):=by
 intro pins s σ H v u Q I r h;rw [ha];refine zAv (wpAny_holding (thn (ho pins s σ H _ I h) fun ov s1 ⟨x,H1,I1,r1,q1⟩=>?_));refine zAv (wpAny_holding (thn (hi pins s1 σ H1 _ I1 q1) fun iv s2 ⟨y,H2,I2,r2,q2⟩=>?_));refine zAv (wpAny_standAt (zAv (wpAny_holding (thn (hs pins s2 σ H2 x y v ov iv u _ I2 r1 r2 r q2) fun _ s3 ⟨H3,I3,q3⟩=>?_))));exact wpAny_release ⟨σ,H3,I3,q3⟩
def yz (te:TE)(g:TG):TS:=fun D σ H=>te σ H fun x H1=>g x σ H1 D.nx
theorem cz {tg e:Expr}{te:TE}{g:TG}(he:PE X e te)(hg:PG X tg g)(hs:swapsWithSole [tg] e pos.line X.env=pure false:=by rfl)(hw:swappedStores [tg] e X.env=pure none:=by rfl)
  (h1:(assignEach [tg] X.env).map (·.2)=[assign tg X.env]:=by rfl):PS X (.Assign [tg] e pos) (yz te g):=by
 intro pins s σ H D I h;refine wpAny_Assign_stores (thn (he pins s σ H _ I h) fun v s1 ⟨x,H1,I1,r1,q1⟩=>?_) hs hw;rw [h1];exact thn (hg pins s1 σ H1 x v _ I1 r1 q1) fun _ s2 q=>q
theorem kZ {i:Nat}{x:Str}{e:Expr}{te:TE}{pos':Pos}(hN:X.N.Nodup)(hi:X.N[i]?=some x)(hx:Loc X.env.scope x)(he:PE X e te)(hs:swapsWith e (some (.Name x pos')) pos.line X.env=pure false:=by rfl)(hf:X.fn x=true\/X.env.scope.names.lookup x=some .local:=by first | exact .inl rfl | exact .inr rfl | assumption) :
  PS X (.Assign [.Name x pos'] e pos) (yz te (bw i)):=by
 intro pins s σ H D I h;refine wpAny_Assign_Name (thn (he pins s σ H _ I h) fun v s1 ⟨y,H1,I1,r1,q1⟩=>?_) hs;exact eF I1 hN hi hx r1 (fun s2 I2=>⟨_,H1,I2,q1⟩) hf
def Jw (i j:Nat)(ta:TA):TS:=fun D σ H=>ta σ H fun vs H1=>∃ v w,vs=[v,w]/\D.nx ((σ.set i (some v)).set j (some w)) H1
theorem uX {i j:Nat}{x y:Str}{a b:Expr}{ta:TA}{px py pt:Pos}{kt k2 pt2}(hc:X.calm=true)(hN:X.N.Nodup)(hi:X.N[i]?=some x)(hj:X.N[j]?=some y)(cq:i≠j)
  (hx:X.env.scope.names.lookup x=some .local) (hy:X.env.scope.names.lookup y=some .local) (ha:PA X [a,b] ta)
  (hw:swappedStores [.Tuple [.Name x px,.Name y py] kt pt] (.Tuple [a,b] k2 pt2) X.env=pure (some [x,y]))
  (hs:swapsWithSole [.Tuple [.Name x px,.Name y py] kt pt] (.Tuple [a,b] k2 pt2) pos.line X.env=pure false:=by rfl) :
  PS X (.Assign [.Tuple [.Name x px,.Name y py] kt pt] (.Tuple [a,b] k2 pt2) pos) (Jw i j ta):=by
 intro pins s σ H D I h;rw [exec_Assign_arm];refine zAv (wpAny_standAt ?_);rw [hs];refine zAv (zB1 ?_);rw [zAw (by decide)];refine zAv (Tuple_ (thn (ha _ pins s σ H _ I h) fun us s1 ⟨vs,H1,I1,r1,q1⟩=>?_));obtain ⟨v,w,e1,q1⟩:=q1;subst e1
 obtain ⟨u1,u2,rfl,rv,fq⟩:∃ u1 u2,us=[u1,u2]/\RelV v u1/\RelV w u2:=by
  cases r1 with
  | cons p q =>
   cases q with
   | cons p' q' =>
    cases q';exact ⟨_,_,rfl,p,p'⟩
 refine wpAny_newObj_type ?_ (by show 2<=sizeLine;decide);have I2:Inv X pins σ H1 { s1 with heap:=s1.heap.push { cls:=.type "tuple",data:=.seq [u1,u2].toArray } }:=I1.kept (t':=s1.toks) fun b o e=>zAy _ e;rw [hw];refine zAv (zB1 ?_);show wpAny (model X.prog X.w) X.A (do rule "assign.swapped-stores";let items <- unpackItems (.ref s1.heap.objs.size) 2 none;assignInOrder [fun v=>bindName X.env y v,fun v=>bindName X.env x v] items.reverse;pure Flow.next) _ _ _;refine zAv (wpAny_rule (zAv (unpackItems_tuple (items:=#[u1,u2]) (I.ok.hd hc) (IsTup.new s1.heap _) fun h' fh=>?_)));have I3:=I2.kept (h':=h') (t':=s1.toks) fun b o e=>fh b o (zB6 (zB0 e)) e;show wpAny _ _ (assignInOrder [fun v=>bindName X.env y v,fun v=>bindName X.env x v] [u2,u1] >>= fun _=>pure Flow.next) _ _ _;refine zAv (assignInOrder_cons (wpAny_bindName (eF I3 hN hj (.inl hy) fq (fun s2 I4=>?_) (.inr hy))));refine assignInOrder_cons (wpAny_bindName (eF I4 hN hi (.inl hx) rv (fun s3 I5=>assignInOrder_nil (zB1 ?_)) (.inr hx)));rw [List.set_comm _ _ (Ne.symm cq)] at I5;exact ⟨_,H1,I5,q1⟩
inductive TAugI (i:Nat)(te:TE)(ti:TIp)(D:Ends)(σ:St)(H:Hp):Prop
 | mk:∀ x,(σ[i]?=some (some x))->(te σ H fun y H1=>ti x y H1 fun z H2=>D.nx (σ.set i (some z)) H2)->TAugI i te ti D σ H
def Jx (i:Nat)(te:TE)(ti:TIp):TS:=fun D σ H=>TAugI i te ti D σ H
theorem nj {i:Nat}{x:Str}{e:Expr}{te:TE}{op:Operator}{ti:TIp}{pos':Pos}(hN:X.N.Nodup)(hi:X.N[i]?=some x)(hx:Loc X.env.scope x)(he:PE X e te)(ho:PIp X op ti)(hf:X.fn x=true\/X.env.scope.names.lookup x=some .local:=by first | exact .inl rfl | exact .inr rfl | assumption) :
  PS X (.AugAssign (.Name x pos') op e pos) (Jx i te ti):=by
 intro pins s σ H D I h;obtain ⟨v,e1,h⟩:=h;obtain ⟨m,hn,hl⟩:=I.loc;have Ph:Vis X.env.scope x:=by rcases hx with k | k;exact .inl k;exact .inr (.inl k)
 obtain ⟨u,r,l⟩:=hl i x v hi e1 Ph;refine wpAny_AugAssign_Name ?_
 have go:wpAny (model X.prog X.w) X.A (eval e X.env) (fun w s₂=>wpAny (model X.prog X.w) X.A (inplaceOp op u w) (fun r s₃=>wpAny (model X.prog X.w) X.A (storeName X.env x r) (fun _=>SP X pins D .next) X.xe s₃) X.xe s₂) X.xe s:=by
  refine thn (he pins s σ H _ I h) fun w s1 ⟨y,H1,I1,r1,q1⟩=>?_;refine thn (ho pins s1 σ H1 v y u w _ I1 r r1 q1) fun z s2 ⟨zv,H2,I2,r2,q2⟩=>?_;exact eF I2 hN hi hx r2 (fun s3 I3=>⟨_,H2,I3,q2⟩) hf
 rcases l with ⟨hk,hm⟩ | ⟨hk,c,hc,hcell⟩
 ·exact wpAny_loadName_local I.ok.kind hk hn hm go
 ·rcases hk with hk | hk
  ·exact wpAny_loadName_cell I.ok.kind hk hc hcell go
  ·rcases hx with k | k
   ·have:X.env.scope.names.lookup x=some .free:=hk;rw [k] at this;cases this
   ·have:X.env.scope.names.lookup x=some .free:=hk;rw [k] at this;cases this
def Hr (to ti te:TE)(nE:V->V->Hp->VK->Prop)(D4:TIp)(nI:yx):TS:=fun D σ H=>to σ H fun o H1=>ti σ H1 fun i H2=>nE o i H2 fun x H3=>te σ H3 fun y H4=>D4 x y H4 fun z H5=>nI o i z H5 fun H6=>D.nx σ H6
def Hs (X:Cx)(t:V->V->Hp->VK->Prop):Prop :=
 ∀ (pins:List (Addr×Obj)) (s:Shared) (σ:St) (H:Hp) (o i:V) (ov iv:Value) (Q:VK),Inv X pins σ H s->RelV o ov->RelV i iv->t o i H Q ->
  wpAny (model X.prog X.w) X.A (getItem ov iv) (EP X pins σ Q) X.xe s
theorem mG {o i e:Expr}{to ti te:TE}{nE:V->V->Hp->VK->Prop}{D4:TIp}{nI:yx}{op:Operator}{sF:Pos}(ho:PE X o to)(hi:PE X i ti)(hg:Hs X nE)(he:PE X e te)(hp:PIp X op D4)(hs:Dt X nI)
  (ha:∀ ov iv new,augStore i ov iv new=(do holding [new,ov,iv] (setItem ov iv new);release [new,ov,iv] [];pure .next):=by intros;rfl):PS X (.AugAssign (.Subscript o i sF) op e pos) (Hr to ti te nE D4 nI):=by
 intro pins s σ H D I h;refine wpAny_AugAssign_SubscriptAny (thn (ho pins s σ H _ I h) fun ov s1 ⟨x1,H1,I1,r1,q1⟩=>?_) ha;refine thn (hi pins s1 σ H1 _ I1 q1) fun iv s2 ⟨x2,H2,I2,r2,q2⟩=>?_;refine thn (hg pins s2 σ H2 x1 x2 ov iv _ I2 r1 r2 q2) fun old s3 ⟨x3,H3,I3,r3,q3⟩=>?_;refine thn (he pins s3 σ H3 _ I3 q3) fun v s4 ⟨x4,H4,I4,r4,q4⟩=>?_;refine thn (hp pins s4 σ H4 x3 x4 old v _ I4 r3 r4 q4) fun new s5 ⟨x5,H5,I5,r5,q5⟩=>?_
 exact thn (hs pins s5 σ H5 x1 x2 x5 ov iv new _ I5 r1 r2 r5 q5) fun _ s6 ⟨H6,I6,q6⟩=>⟨σ,H6,I6,q6⟩
def ipI (f:Int->Int->Int):TIp:=fun x y H Q=>∃ i j,x=.int i/\y=.int j/\Q (.int (f i j)) H
theorem uY:PIp X .Add (ipI fun i j=>i+j):=by
 intro pins s σ H x y v u Q I r1 r2 h;obtain ⟨i,j,e1,e2,q⟩:=h;subst e1;subst e2;obtain ⟨t,rfl⟩:=r1;obtain ⟨t',rfl⟩:=r2;exact iadd_int ⟨.int _,H,I.tok _,⟨_,rfl⟩,q⟩
theorem Ad:PIp X .Sub (ipI fun i j=>i - j):=by
 intro pins s σ H x y v u Q I r1 r2 h;obtain ⟨i,j,e1,e2,q⟩:=h;subst e1;subst e2;obtain ⟨t,rfl⟩:=r1;obtain ⟨t',rfl⟩:=r2;exact isub_int ⟨.int _,H,I.tok _,⟨_,rfl⟩,q⟩
end
section
variable {X:Cx}{pos:Pos}
end
structure It where
 go:Nat->Hp->Prop
 yld:Nat->Hp->V->Hp->Prop
 stop:Nat->Hp->Prop
def rB (X:Cx)(pins:List (Addr×Obj))(H:Hp)(b:Addr):Prop :=
 H b=none/\b≠X.env.locals/\b ∉ X.fs/\(b∈X.ex\/X.s₀.heap.objs.size<=b)/\(∀ x c,X.env.cells.lookup x=some c->c≠b)/\∀ p∈X.pn++pins,p.1≠b
theorem Inv.fpOk {X:Cx}{pins:List (Addr×Obj)}{σ:St}{H H':Hp}{s:Shared}{b:Addr}(I:Inv X pins σ H s)(hb:s.heap.objs.size<=b)(hn:H' b=none):rB X pins H' b:=by
 refine ⟨hn,Nat.ne_of_gt (zB4 I.lt hb),I.nofs hb,.inr (Nat.le_trans I.sz hb),fun x c e z=>?_,fun p hp z=>?_⟩
 ·obtain ⟨v,q⟩:=I.cell x c e;exact absurd (zB4 q.lt (by rw [z];exact hb)) (Nat.lt_irrefl _)
 ·exact absurd (zB4 (zB0 (I.pin p hp).1) (by rw [z];exact hb)) (Nat.lt_irrefl _)
structure Turn (P:Program)(w:World)(K:Frag)(tg:Expr)(J:It)(fp:List Addr)(it:Addr)(tn:Nat->Heap->Prop):Prop where
 mem:it∈fp
 obj:∀ i h,tn i h->∀ b∈fp,∃ o,h.get? b=some o/\∀ v,o.data≠.cell v
 keep:∀ i h h',tn i h->(∀ b∈fp,∀ o,h.get? b=some o->h'.get? b=some o)->tn i h'
 item:∀ (X:Cx),X.prog=P->X.w=w->X.K=K->X.calm=true->∀ (i:Nat) (pins:List (Addr×Obj)) (s:Shared) (σ:St) (H:Hp) (E:Value->Shared->Prop),Inv X pins σ H s->(∀ b∈fp,rB X pins H b)->tn i s.heap->J.go i H ->
  wpAny (model P w) X.A (pyNext (.ref it)) (fun r s1=>∃ u,r=some u /\
   wpAny (model P w) X.A (letOwnedTupleGo tg (.ref it) u) (fun _ s2=>∃ x H',Inv X pins σ H' s2/\RelV x u/\J.yld i H x H'/\tn (i+1) s2.heap/\∀ b∈fp,H' b=none) E s1) E s
 done:∀ (X:Cx),X.prog=P->X.w=w->X.K=K->X.calm=true->∀ (i:Nat) (pins:List (Addr×Obj)) (s:Shared) (σ:St) (H:Hp) (E:Value->Shared->Prop),Inv X pins σ H s->(∀ b∈fp,rB X pins H b)->tn i s.heap->J.stop i H ->
  wpAny (model P w) X.A (pyNext (.ref it)) (fun r s1=>r=none/\Inv X pins σ H s1) E s
 self:∀ (A:Around) (i:Nat) (s:Shared) (Q:Value->Shared->Prop) (E:Value->Shared->Prop),tn i s.heap->Q (.ref it) s->wpAny (model P w) A (pyIter (.ref it)) Q E s
abbrev TI:=St->Hp->(It->Hp->Prop)->Prop
def PIE (X:Cx)(pins:List (Addr×Obj))(σ:St)(tg:Expr)(R:It->Hp->Prop)(xE:Value)(s2:Shared):Prop :=
 ∃ (it:Addr) (fp:List Addr) (tn:Nat->Heap->Prop) (J:It) (H':Hp),xE=.ref it/\Inv X pins σ H' s2/\Turn X.prog X.w X.K tg J fp it tn/\tn 0 s2.heap/\(∀ b∈fp,rB X pins H' b)/\R J H'
def PI (X:Cx)(tg iter:Expr)(wi:TI):Prop :=
 ∀ (pins:List (Addr×Obj)) (s:Shared) (σ:St) (H:Hp) (R:It->Hp->Prop),Inv X pins σ H s->wi σ H R ->
  wpAny (model X.prog X.w) X.A (eval iter X.env) (fun v s1=>wpAny (model X.prog X.w) X.A (pyIter v) (PIE X pins σ tg R) X.xe s1) X.xe s
theorem wk {M:Model}{A:Around}{E:Value->Shared->Prop}{s:Shared}{tg:Expr}{it:Addr}{u:Value}{o:Obj}{n:String}{vs:Array Value}{Q:Unit->Shared->Prop}(ho:s.heap.get? it=some o)(hc:o.cls=.type n)(hd:o.data=.fields vs)
  (hn:["enumerate","zip","dict_itemiterator","dict_reverseitemiterator","odict_iterator","itertools.zip_longest","itertools.pairwise"].contains n=false) (hQ:Q () s):wpAny M A (letOwnedTupleGo tg (.ref it) u) Q E s:=by
 unfold letOwnedTupleGo
 cases tg <;> first
  | exact zB1 hQ
  | (cases u <;> first
    | exact zB1 hQ
    | (refine zAv (wpAny_load ho ?_)
       rw [hc,hd];show wpAny M A (if (["enumerate","zip","dict_itemiterator","dict_reverseitemiterator","odict_iterator","itertools.zip_longest","itertools.pairwise"].contains n && vs[0]? == some (rawInt _))=true then _ else _) Q E s;rw [zAw (by intro h;rw [hn,Bool.false_and] at h;cases h)]
       exact zB1 hQ))
def Itl (K:Frag)(a:Addr):It :=
 ⟨fun i H=>∃ xs x,SqL K H a xs/\xs[i]?=some x,fun i H x H'=>H'=H/\∀ xs,SqL K H a xs->xs[i]?=some x,fun i H=>∃ xs,SqL K H a xs/\xs.length<=i⟩
def Itt (K:Frag)(a:Addr):It :=
 ⟨fun i H=>∃ xs x,SqT K H a xs/\xs[i]?=some x,fun i H x H'=>H'=H/\∀ xs,SqT K H a xs->xs[i]?=some x,fun i H=>∃ xs,SqT K H a xs/\xs.length<=i⟩
def Itr (lo:Int)(n:Nat):It:=⟨fun i _=>i < n,fun i H x H'=>H'=H/\x=.int (lo+i),fun i _=>n<=i⟩
theorem yC {P:Program}{w:World}{K:Frag}{tg:Expr}(a it:Addr):Turn P w K tg (Itl K a) [it] it (fun i h=>h.IsListIter it a i) where
 mem:=by simp
 obj:=fun i h st b hb=>by
  have e:b=it:=by simpa using hb
  subst e;obtain ⟨o,e,c,d⟩:=st;exact ⟨o,e,fun v z=>by rw [d] at z;cases z⟩
 keep:=fun i h h' st k=>st.at fun o e=>k it (by simp) o e
 item:=by
  intro X hP hw hK hc i pins s σ H E I hf st hg;subst hP hw hK;obtain ⟨xs,x,hq,hx⟩:=hg;obtain ⟨its,rv,p,hz⟩:=I.list hq;obtain ⟨u,hu,ru⟩:=rv.get hx;obtain ⟨f0,f1,f2,f3,f4,f5⟩:=hf it (by simp);refine wpAny_pyNext_list_item st p.isList (x:=u) (by simpa using hu) fun h' st' sb=>?_;have I1:Inv X pins σ H { s with heap:=h' }:=I.turned (t':=s.toks) (fun b o hb e=>(sb.2 b hb).trans e) f0 f1 f3 f4 f5;obtain ⟨o,e,c,d⟩:=id st';exact ⟨u,rfl,wk (s:={ s with heap:=h' }) e c d (by decide) ⟨x,H,I1,ru,⟨rfl,fun ys hy=>by rw [I.list_inj hy hq];exact hx⟩,st',fun b hb=>(hf b hb).1⟩⟩
 done:=by
  intro X hP hw hK hc i pins s σ H E I hf st hg;subst hP hw hK;obtain ⟨xs,hq,hx⟩:=hg;obtain ⟨its,rv,p,hz⟩:=I.list hq;obtain ⟨f0,f1,f2,f3,f4,f5⟩:=hf it (by simp);have hl:=rv.length
  exact wpAny_pyNext_list_end (I.ok.hd hc) st p.isList (by simp;lia) fun h' eb=>⟨rfl,I.turned (t':=s.toks) (fun b o hb e=>eb b o hb e) f0 f1 f3 f4 f5⟩
 self:=fun _ _ _ _ _ st h=>wpAny_pyIter_listiter st h
theorem uZ {P:Program}{w:World}{K:Frag}{tg:Expr}(a it:Addr):Turn P w K tg (Itt K a) [it] it (fun i h=>h.IsTupleIter it a i) where
 mem:=by simp
 obj:=fun i h st b hb=>by
  have e:b=it:=by simpa using hb
  subst e;obtain ⟨o,e,c,d⟩:=st;exact ⟨o,e,fun v z=>by rw [d] at z;cases z⟩
 keep:=fun i h h' st k=>st.at fun o e=>k it (by simp) o e
 item:=by
  intro X hP hw hK hc i pins s σ H E I hf st hg;subst hP hw hK;obtain ⟨xs,x,hq,hx⟩:=hg;obtain ⟨its,rv,p,hz⟩:=I.tuple hq;obtain ⟨u,hu,ru⟩:=rv.get hx;obtain ⟨f0,f1,f2,f3,f4,f5⟩:=hf it (by simp);refine wpAny_pyNext_tuple_item st (show s.heap.IsTuple a its.toArray from p) (x:=u) (by simpa using hu) fun h' st' sb=>?_;have I1:Inv X pins σ H { s with heap:=h' }:=I.turned (t':=s.toks) (fun b o hb e=>(sb.2 b hb).trans e) f0 f1 f3 f4 f5;obtain ⟨o,e,c,d⟩:=id st';exact ⟨u,rfl,wk (s:={ s with heap:=h' }) e c d (by decide) ⟨x,H,I1,ru,⟨rfl,fun ys hy=>by rw [I.tuple_inj hy hq];exact hx⟩,st',fun b hb=>(hf b hb).1⟩⟩
 done:=by
  intro X hP hw hK hc i pins s σ H E I hf st hg;subst hP hw hK;obtain ⟨xs,hq,hx⟩:=hg;obtain ⟨its,rv,p,hz⟩:=I.tuple hq;obtain ⟨f0,f1,f2,f3,f4,f5⟩:=hf it (by simp);have hl:=rv.length
  exact wpAny_pyNext_tuple_end (I.ok.hd hc) st (show s.heap.IsTuple a its.toArray from p) (by simp;lia) fun h' eb=>⟨rfl,I.turned (t':=s.toks) (fun b o hb e=>eb b o hb e) f0 f1 f3 f4 f5⟩
 self:=fun _ _ _ _ _ st h=>wpAny_pyIter_tupleiter st h
theorem v7 {P:Program}{w:World}{K:Frag}{tg:Expr}(it:Addr)(lo:Int)(n:Nat):Turn P w K tg (Itr lo n) [it] it (fun i h=>IsRangeIter h it (lo+(i:Nat) * 1) ((n:Int) - (i:Nat)) 1) where
 mem:=by simp
 obj:=fun i h st b hb=>by
  have e:b=it:=by simpa using hb
  subst e
  exact ⟨_,st,fun v z=>by
   have z':Data.fields _=Data.cell v:=z
   cases z'⟩
 keep:=fun i h h' st k=>k it (by simp) _ st
 item:=by
  intro X hP hw hK hc i pins s σ H E I hf st hg;subst hP hw hK;obtain ⟨f0,f1,f2,f3,f4,f5⟩:=hf it (by simp);have W:=Walks.range (prog:=X.prog) (w:=X.w) (I.ok.hd hc) it lo 1 n;refine W.item i s _ _ hg st fun v h' tk hv st' kk=>?_;obtain ⟨t,rfl⟩:=hv;have I1:Inv X pins σ H { s with heap:=h',toks:=tk }:=I.turned (fun b o hb e=>kk b o (by simpa using hb) e) f0 f1 f3 f4 f5;refine ⟨_,rfl,wk (s:={ s with heap:=h',toks:=tk }) (n:="range_iterator") st' rfl rfl (by decide) ⟨.int (lo+i),H,I1,⟨t,?_⟩,⟨rfl,rfl⟩,st',fun b hb=>(hf b hb).1⟩⟩;rw [Int.mul_one]
 done:=by
  intro X hP hw hK hc i pins s σ H E I hf st hg;subst hP hw hK;obtain ⟨f0,f1,f2,f3,f4,f5⟩:=hf it (by simp)
  exact wpAny_pyNext_range_end (I.ok.hd hc) st (by have:n<=i:=hg;lia) fun h' eb=>⟨rfl,I.turned (t':=s.toks) (fun b o hb e=>eb b o hb e) f0 f1 f3 f4 f5⟩
 self:=fun _ _ _ _ _ st h=>wpAny_pyIter_rangeiter st h
section
variable {X:Cx}{tg:Expr}
def Fv (K:Frag)(tl:TE):TI:=fun σ H R=>tl σ H fun x H1=>∃ a,x=.ref a/\(∃ xs,SqL K H1 a xs)/\R (Itl K a) H1
def Ht (K:Frag)(tl:TE):TI:=fun σ H R=>tl σ H fun x H1=>∃ a,x=.ref a/\(∃ xs,SqT K H1 a xs)/\R (Itt K a) H1
theorem bW {l:Expr}{tl:TE}(hl:PE X l tl):PI X tg l (Fv X.K tl):=by
 intro pins s σ H R I h;refine thn (hl pins s σ H _ I h) fun v s1 ⟨x,H1,I1,r1,q1⟩=>?_;obtain ⟨a,e,⟨xs,hq⟩,q⟩:=q1;subst e;cases r1;obtain ⟨its,rv,p,hz⟩:=I1.list hq;refine wpAny_pyIter_list p.isList ?_;refine ⟨s1.heap.objs.size,[s1.heap.objs.size],_,_,H1,rfl,I1.kept (t':=s1.toks) fun b o e=>Heap.get?_push_of_some _ e,yC a _,⟨_,Heap.get?_push_size _ rfl,rfl,rfl⟩,fun b hb=>?_,q⟩;have e:b=s1.heap.objs.size:=by simpa using hb
 subst e;exact I1.fpOk (zA3 _) (I1.hok.fresh (zA3 _))
theorem fQ {l:Expr}{tl:TE}(hl:PE X l tl):PI X tg l (Ht X.K tl):=by
 intro pins s σ H R I h;refine thn (hl pins s σ H _ I h) fun v s1 ⟨x,H1,I1,r1,q1⟩=>?_;obtain ⟨a,e,⟨xs,hq⟩,q⟩:=q1;subst e;cases r1;obtain ⟨its,rv,p,hz⟩:=I1.tuple hq;refine wpAny_pyIter_tuple (show s1.heap.IsTuple a its.toArray from p) ?_;refine ⟨s1.heap.objs.size,[s1.heap.objs.size],_,_,H1,rfl,I1.kept (t':=s1.toks) fun b o e=>Heap.get?_push_of_some _ e,uZ a _,⟨_,Heap.get?_push_size _ rfl,rfl,rfl⟩,fun b hb=>?_,q⟩;have e:b=s1.heap.objs.size:=by simpa using hb
 subst e;exact I1.fpOk (zA3 _) (I1.hok.fresh (zA3 _))
theorem tQ {pins:List (Addr×Obj)}{σ:St}{H:Hp}{s:Shared}{R:It->Hp->Prop}{E:Value->Shared->Prop}{lo hi:Int}{t u v:Tok}{tk:Nat}(I:Inv X pins σ H s)(h1:-(2 ^ 62)<=lo)(h2:lo < 2 ^ 62)(h3:-(2 ^ 62)<=hi)(h4:hi < 2 ^ 62)
  (q:R (Itr lo (hi - lo).toNat) H):wpAny (model X.prog X.w) X.A (pyIter (.ref s.heap.objs.size)) (PIE X pins σ tg R) E { s with heap:=s.heap.push { cls:=.type "range",data:=.fields #[.int lo t,.int hi u,.int 1 v] },toks:=tk }:=by
 refine wpAny_pyIter_range (IsRange.new ..) (small_one h1 h2 h3 h4) ?_;have I1:Inv X pins σ H { s with heap:=s.heap.push { cls:=.type "range",data:=.fields #[.int lo t,.int hi u,.int 1 v] },toks:=tk }:=I.kept fun b o e=>zAy _ e
 refine ⟨(s.heap.push { cls:=.type "range",data:=.fields #[.int lo t,.int hi u,.int 1 v] }).objs.size,[(s.heap.push { cls:=.type "range",data:=.fields #[.int lo t,.int hi u,.int 1 v] }).objs.size],_,_,H,rfl,
  I1.kept (t':=tk) fun b o e=>zAy _ e,v7 _ lo (hi - lo).toNat,?_,fun b hb=>?_,q⟩
 ·have e1:lo+((0:Nat):Int) * 1=lo:=by simp
  have e2:(((hi - lo).toNat:Nat):Int) - ((0:Nat):Int)=Builtin.Range.rangeSize lo hi 1:=by rw [rangeSize_one];split <;> lia
  show IsRangeIter _ _ (lo+((0:Nat):Int) * 1) ((((hi - lo).toNat:Nat):Int) - ((0:Nat):Int)) 1;rw [e1,e2];exact zB2 _ rfl
 ·have e:b=(s.heap.push { cls:=.type "range",data:=.fields #[.int lo t,.int hi u,.int 1 v] }).objs.size:=by simpa using hb
  subst e;exact I1.fpOk (zA3 _) (I1.hok.fresh (zA3 _))
def Hu (ta:TA):TI:=fun σ H R=>ta σ H fun vs H1=>∃ j:Int,vs=[.int j]/\-(2 ^ 62)<=j/\j < 2 ^ 62/\R (Itr 0 j.toNat) H1
def Hv (ta:TA):TI:=fun σ H R=>ta σ H fun vs H1=>∃ i j:Int,vs=[.int i,.int j]/\(-(2 ^ 62)<=i/\i < 2 ^ 62/\-(2 ^ 62)<=j/\j < 2 ^ 62)/\R (Itr i (j - i).toNat) H1
theorem cD {a:Expr}{ta:TA}{p pos:Pos}(hg:Gl X "range")(hm:X.mg "range" = none)(ha:PA X [a] ta)(hs:starEach [a] X.env=[(false,eval a X.env)]:=by rfl):PI X tg (.Call (.Name "range" p) [a] [] pos) (Hu ta):=by
 intro pins s σ H R I h;refine Call_ (gU I hg hm boot_range (PyProof.Rows.callWith_type1 (thn (ha pos pins s σ H _ I h) fun us s1 ⟨vs,H1,I1,r1,q1⟩=>?_) hs rfl));obtain ⟨j,e,q1,q2,q⟩:=q1;subst e
 cases r1 with
 | cons r rr =>
  cases rr;obtain ⟨t,rfl⟩:=r;exact call_range_1 (tQ I1 (by lia) (by lia) q1 q2 (by simpa using q))
theorem qb {a b:Expr}{ta:TA}{p pos:Pos}(hg:Gl X "range")(hm:X.mg "range" = none)(ha:PA X [a,b] ta)(hs:starEach [a,b] X.env=[(false,eval a X.env),(false,eval b X.env)]:=by rfl)(qv:starEach [b] X.env=[(false,eval b X.env)]:=by rfl) :
  PI X tg (.Call (.Name "range" p) [a,b] [] pos) (Hv ta):=by
 intro pins s σ H R I h;refine Call_ (gU I hg hm boot_range (PyProof.Rows.callWith_type1 (thn (ha pos pins s σ H _ I h) fun us s1 ⟨vs,H1,I1,r1,q1⟩=>?_) (by rw [hs,qv]) (by rw [qv];rfl)));obtain ⟨i,j,e,⟨q1,q2,q3,q4⟩,q⟩:=q1;subst e
 cases r1 with
 | cons r rr =>
  cases rr with
  | cons r' rr =>
   cases rr;obtain ⟨t,rfl⟩:=r;obtain ⟨t',rfl⟩:=r';exact call_range_2 (tQ I1 q1 q2 q3 q4 q)
def Jy (wi:TI)(g:TG)(tb:TS):TS:=fun D σ H=>wi σ H fun J H1=>∃ W:Nat->Nat->St->Hp->Prop,(∃ m,W 0 m σ H1)/\∀ i m σ H,W i m σ H ->
 (J.stop i H/\D.nx σ H)\/(J.go i H/\∃ N:St->Hp->Prop,(∀ ai H',N ai H'->∃ m',m' < m/\W (i+1) m' ai H')/\∀ x H',J.yld i H x H'->g x σ H' fun aT H2=>tb { D with nx:=N,ct:=N,bk:=D.nx } aT H2)
def nu (fp:List Addr)(h:Heap):List (Addr×Obj):=fp.filterMap fun b=>(h.get? b).map fun o=>(b,o)
theorem gW {fp:List Addr}{h:Heap}{b:Addr}{o:Obj}(hb:b∈fp)(e:h.get? b=some o):(b,o)∈nu fp h:=List.mem_filterMap.mpr ⟨b,hb,by rw [e];rfl⟩
theorem yD {fp:List Addr}{h:Heap}{p:Addr×Obj}(hp:p∈nu fp h):p.1∈fp/\h.get? p.1=some p.2:=by
 obtain ⟨b,hb,e⟩:=List.mem_filterMap.mp hp
 cases q:h.get? b with
 | none=>rw [q] at e;cases e
 | some o =>
  rw [q] at e;have e':(b,o)=p:=zAl e;subst e';exact ⟨hb,q⟩
theorem Inv.pinned {pins:List (Addr×Obj)}{σ:St}{H:Hp}{s:Shared}{fp:List Addr}(I:Inv X pins σ H s)(hf:∀ b∈fp,rB X pins H b)(ho:∀ b∈fp,∃ o,s.heap.get? b=some o/\∀ v,o.data≠.cell v):Inv X (pins++nu fp s.heap) σ H s :=
 I.pins_of fun p hp=>(zA6.mp hp).elim (fun z=>I.pin p (zBe _ z)) fun z=>by
  obtain ⟨hb,e⟩:=yD z;obtain ⟨f0,f1,f2,_⟩:=hf p.1 hb;obtain ⟨o,e',d⟩:=ho p.1 hb;rw [e] at e';cases e';exact ⟨e,f0,f1,f2,d⟩
theorem Inv.unpinned {pins pl:List (Addr×Obj)}{σ:St}{H:Hp}{s:Shared}(I:Inv X (pins++pl) σ H s):Inv X pins σ H s:=I.pins_of fun p hp=>I.pin p (zBe _ (List.mem_append_left _ hp))
theorem bY {iter:Expr}{body:List Stmt}{wi:TI}{g:TG}{tb:TS}{pos:Pos}(hp:PassesOwn (model X.prog X.w) X.A X.env X.xe)(hc:X.calm=true)(hi:PI X tg iter wi)(hg:PG X tg g)(hb:PSs X body tb)
  (hs:∀ x,foldedSetIterable iter X.env x=pure x:=by intro _;rfl):PS X (.For tg iter body [] pos) (Jy wi g tb):=by
 intro pins s σ H D I h;refine wpAny_For (thn (hi pins s σ H _ I h) fun v s1 h1=>thn h1 fun xE s2 h2=>?_) hs;obtain ⟨it,fp,tn,J,H2,e,I2,T,st2,f2,W,⟨m0,w0⟩,turn⟩:=h2;subst e
 have sM:∀ {H':Hp},(∀ b∈fp,H' b=none)->∀ b∈fp,rB X pins H' b:=fun hn b hb=>⟨hn b hb,(f2 b hb).2⟩
 refine codeAny_forLoop_any (fun n s'=>∃ i ai H',Inv X pins ai H' s'/\tn i s'.heap/\(∀ b∈fp,H' b=none)/\W i n ai H') ?_ m0 ⟨0,σ,H2,I2,st2,fun b hb=>(f2 b hb).1,w0⟩;rintro n s3 ⟨i,kP,H3,I3,iq,AH,w3⟩;rcases turn i n kP H3 w3 with ⟨stop,qn⟩ | ⟨go,N,hN,step⟩
 ·refine wpAny_passesOwn hp (thn (T.done X rfl rfl rfl hc i pins s3 kP H3 X.xe I3 (sM AH) iq stop) fun r s4 ⟨hr,I4⟩=>?_);subst hr;exact wpAny_execs_nil ⟨kP,H3,I4,qn⟩
 ·refine wpAny_passesOwn hp (thn (T.item X rfl rfl rfl hc i pins s3 kP H3 X.xe I3 (sM AH) iq go) fun r s4 ⟨u,hr,h4⟩=>?_);subst hr;refine wpAny_passesOwn hp (thn h4 fun _ s5 ⟨x,H5,I5,r5,y5,sN,FG⟩=>?_);have FH:=I5.pinned (sM FG) (T.obj _ _ sN);refine wpAny_passesOwn hp (thn (hg _ s5 kP H5 x u _ FH r5 (step x H5 y5)) fun _ s6 ⟨nK,H6,I6,q6⟩=>?_);refine wpAny_passesOwn hp (thn (hb _ s6 nK H6 _ I6 q6) fun f s7 q7=>?_)
  have again:∀ {kQ:St} {H7:Hp},Inv X (pins++nu fp s5.heap) kQ H7 s7->N kQ H7->∃ m,m < n/\∃ i ai H',Inv X pins ai H' s7/\tn i s7.heap/\(∀ b∈fp,H' b=none)/\W i m ai H':=fun {kQ H7} I7 n7=>by
   obtain ⟨m',hm,w7⟩:=hN kQ H7 n7;refine ⟨m',hm,i+1,kQ,H7,I7.unpinned,T.keep _ _ _ sN fun b hb o e=>(I7.pin (b,o) (zBe _ (zBe _ (gW hb e)))).1,fun b hb=>?_,w7⟩;obtain ⟨o,e,d⟩:=T.obj _ _ sN b hb;exact (I7.pin (b,o) (zBe _ (zBe _ (gW hb e)))).2.1
  cases f with
  | next=>obtain ⟨kQ,H7,I7,n7⟩:=q7;exact again I7 n7
  | cont=>obtain ⟨kQ,H7,I7,n7⟩:=q7;exact again I7 n7
  | brk=>obtain ⟨kQ,H7,I7,q7⟩:=q7;exact ⟨kQ,H7,I7.unpinned,q7⟩
  | ret v=>obtain ⟨x7,kQ,H7,I7,r7,q7⟩:=q7;exact ⟨x7,kQ,H7,I7.unpinned,r7,q7⟩
end
theorem fU {K:Frag}{a:Addr}{xs:List V}{g:TG}{tb:TS}{D:Ends}{σ:St}{H:Hp}(Pv:Nat->St->Hp->Prop)(h0:Pv 0 σ H)(hl:∀ i σ H,i<=xs.length->Pv i σ H->SqL K H a xs)
  (hs:∀ i x σ H,xs[i]?=some x->Pv i σ H->g x σ H fun aT H2=>tb { D with nx:=Pv (i+1),ct:=Pv (i+1),bk:=D.nx } aT H2) (hd:∀ σ H,Pv xs.length σ H->D.nx σ H) :
  ∃ W:Nat->Nat->St->Hp->Prop,(∃ m,W 0 m σ H)/\∀ i m σ H,W i m σ H ->
   ((Itl K a).stop i H/\D.nx σ H)\/((Itl K a).go i H/\∃ N:St->Hp->Prop,(∀ ai H',N ai H'->∃ m',m' < m/\W (i+1) m' ai H')/\∀ x H',(Itl K a).yld i H x H'->g x σ H' fun aT H2=>tb { D with nx:=N,ct:=N,bk:=D.nx } aT H2):=by
 refine ⟨fun i m σ H=>m=xs.length - i/\i<=xs.length/\Pv i σ H,⟨xs.length,by simp,Nat.zero_le _,h0⟩,?_⟩;rintro i m σ H ⟨rfl,hi,p⟩;have q:=hl i σ H hi p;by_cases ax:i < xs.length
 ·refine .inr ⟨⟨xs,xs[i],q,by simp [ax]⟩,Pv (i+1),fun ai H' p'=>⟨xs.length - (i+1),by lia,rfl,ax,p'⟩,fun x H' y=>?_⟩;obtain ⟨e,y⟩:=y;subst e;exact hs i x σ _ (y xs q) p
 ·have e:i=xs.length:=by lia
  subst e;exact .inl ⟨⟨xs,q,zA3 _⟩,hd σ H p⟩
theorem Du {K:Frag}{a:Addr}{xs:List V}{g:TG}{tb:TS}{D:Ends}{σ:St}{H:Hp}(Pv:Nat->St->Hp->Prop)(h0:Pv 0 σ H)(hl:∀ i σ H,i<=xs.length->Pv i σ H->SqT K H a xs)
  (hs:∀ i x σ H,xs[i]?=some x->Pv i σ H->g x σ H fun aT H2=>tb { D with nx:=Pv (i+1),ct:=Pv (i+1),bk:=D.nx } aT H2) (hd:∀ σ H,Pv xs.length σ H->D.nx σ H) :
  ∃ W:Nat->Nat->St->Hp->Prop,(∃ m,W 0 m σ H)/\∀ i m σ H,W i m σ H ->
   ((Itt K a).stop i H/\D.nx σ H)\/((Itt K a).go i H/\∃ N:St->Hp->Prop,(∀ ai H',N ai H'->∃ m',m' < m/\W (i+1) m' ai H')/\∀ x H',(Itt K a).yld i H x H'->g x σ H' fun aT H2=>tb { D with nx:=N,ct:=N,bk:=D.nx } aT H2):=by
 refine ⟨fun i m σ H=>m=xs.length - i/\i<=xs.length/\Pv i σ H,⟨xs.length,by simp,Nat.zero_le _,h0⟩,?_⟩;rintro i m σ H ⟨rfl,hi,p⟩;have q:=hl i σ H hi p;by_cases ax:i < xs.length
 ·refine .inr ⟨⟨xs,xs[i],q,by simp [ax]⟩,Pv (i+1),fun ai H' p'=>⟨xs.length - (i+1),by lia,rfl,ax,p'⟩,fun x H' y=>?_⟩;obtain ⟨e,y⟩:=y;subst e;exact hs i x σ _ (y xs q) p
 ·have e:i=xs.length:=by lia
  subst e;exact .inl ⟨⟨xs,q,zA3 _⟩,hd σ H p⟩
theorem di {lo:Int}{n:Nat}{g:TG}{tb:TS}{D:Ends}{σ:St}{H:Hp}(Pv:Nat->St->Hp->Prop)(h0:Pv 0 σ H)
  (hs:∀ i σ H,i < n->Pv i σ H->g (.int (lo+i)) σ H fun aT H2=>tb { D with nx:=Pv (i+1),ct:=Pv (i+1),bk:=D.nx } aT H2) (hd:∀ σ H,Pv n σ H->D.nx σ H) :
  ∃ W:Nat->Nat->St->Hp->Prop,(∃ m,W 0 m σ H)/\∀ i m σ H,W i m σ H ->
   ((Itr lo n).stop i H/\D.nx σ H)\/((Itr lo n).go i H/\∃ N:St->Hp->Prop,(∀ ai H',N ai H'->∃ m',m' < m/\W (i+1) m' ai H')/\∀ x H',(Itr lo n).yld i H x H'->g x σ H' fun aT H2=>tb { D with nx:=N,ct:=N,bk:=D.nx } aT H2):=by
 refine ⟨fun i m σ H=>m=n - i/\i<=n/\Pv i σ H,⟨n,by simp,Nat.zero_le _,h0⟩,?_⟩;rintro i m σ H ⟨rfl,hi,p⟩;by_cases ax:i < n
 ·refine .inr ⟨ax,Pv (i+1),fun ai H' p'=>⟨n - (i+1),by lia,rfl,ax,p'⟩,fun x H' y=>?_⟩;obtain ⟨e,y⟩:=y;subst e y;exact hs i σ _ ax p
 ·have e:i=n:=by lia
  subst e;exact .inl ⟨zA3 _,hd σ H p⟩
abbrev R2:=V->V->Hp->VK->Prop
def OpR (X:Cx)(f:Value->Value->Sem Value)(r:R2):Prop :=
 ∀ (pins:List (Addr×Obj)) (s:Shared) (σ:St) (H:Hp) (x y:V) (v u:Value) (Q:VK),Inv X pins σ H s->RelV x v->RelV y u->r x y H Q ->
  wpAny (model X.prog X.w) X.A (f v u) (EP X pins σ Q) X.xe s
def UnR (X:Cx)(f:Value->Sem Value)(r:V->Hp->VK->Prop):Prop :=
 ∀ (pins:List (Addr×Obj)) (s:Shared) (σ:St) (H:Hp) (x:V) (v:Value) (Q:VK),Inv X pins σ H s->RelV x v->r x H Q ->
  wpAny (model X.prog X.w) X.A (f v) (EP X pins σ Q) X.xe s
def dJ (X:Cx)(f:Value)(r:List V->Hp->VK->Prop):Prop :=
 ∀ (pins:List (Addr×Obj)) (s:Shared) (σ:St) (H:Hp) (xs:List V) (us:List Value) (Q:VK),Inv X pins σ H s->Vals xs us->r xs H Q ->
  wpAny (model X.prog X.w) X.A (call f us) (EP X pins σ Q) X.xe s
def tOp (r:R2)(ta tb:TE):TE:=fun σ H Q=>ta σ H fun x H1=>tb σ H1 fun y H2=>r x y H2 Q
def tUn (r:V->Hp->VK->Prop)(ta:TE):TE:=fun σ H Q=>ta σ H fun x H1=>r x H1 Q
inductive RII (C:Int->Int->Prop)(g:Int->Int->V)(x:V)(y:V)(H:Hp)(Q:VK):Prop
 | mk:∀ i j,(x=.int i)->(y=.int j)->(C i j)->(Q (g i j) H)->RII C g x y H Q
def rI (C:Int->Int->Prop)(g:Int->Int->V):R2:=fun x y H Q=>RII C g x y H Q
inductive RI0I (g:Int->Int->V)(x:V)(y:V)(H:Hp)(Q:VK):Prop
 | mk:∀ i j,(x=.int i)->(y=.int j)->(Q (g i j) H)->RI0I g x y H Q
def rI0 (g:Int->Int->V):R2:=fun x y H Q=>RI0I g x y H Q
inductive RUI (g:Int->V)(x:V)(H:Hp)(Q:VK):Prop
 | mk:∀ i,(x=.int i)->(Q (g i) H)->RUI g x H Q
def rU (g:Int->V):V->Hp->VK->Prop:=fun x H Q=>RUI g x H Q
section
variable {X:Cx}{a b c:Expr}{ta tb tc:TE}{pos:Pos}
theorem Gd (ha:PE X a ta)(hb:PE X b tb){pins:List (Addr×Obj)}{s:Shared}{σ:St}{H:Hp}{R:V->V->Hp->Prop}(I:Inv X pins σ H s)
  (h:ta σ H fun x H1=>tb σ H1 fun y H2=>R x y H2) {Q:Value->Shared->Prop} {f:Value->Value->Sem Value}
  (hf:∀ v u s2 x y H2,Inv X pins σ H2 s2->RelV x v->RelV y u->R x y H2->wpAny (model X.prog X.w) X.A (f v u) Q X.xe s2) :
  wpAny (model X.prog X.w) X.A (eval a X.env) (fun v s₁=>wpAny (model X.prog X.w) X.A (eval b X.env) (fun u s₂=>wpAny (model X.prog X.w) X.A (f v u) Q X.xe s₂) X.xe s₁) X.xe s:=by
 refine thn (ha pins s σ H _ I h) fun v s1 ⟨x,H1,I1,r1,q1⟩=>?_;refine thn (hb pins s1 σ H1 _ I1 q1) fun u s2 ⟨y,H2,I2,r2,q2⟩=>?_;exact hf v u s2 x y H2 I2 r1 r2 q2
theorem aU {op:Operator}{r:R2}(ho:OpR X (binaryOp op) r)(ha:PE X a ta)(hb:PE X b tb):PE X (.BinOp a op b pos) (tOp r ta tb):=by
 intro pins s σ H Q I h;exact wpAny_BinOp (Gd ha hb I h fun v u s2 x y H2 I2 rx ry q=>ho pins s2 σ H2 x y v u Q I2 rx ry q)
theorem Ae {op:UnaryOp}{r:V->Hp->VK->Prop}(ho:UnR X (unaryOp op) r)(ha:PE X a ta):PE X (.UnaryOp op a pos) (tUn r ta):=by
 intro pins s σ H Q I h;exact UnaryOp_ (thn (ha pins s σ H _ I h) fun v s1 ⟨x,H1,I1,r1,q1⟩=>ho pins s1 σ H1 x v Q I1 r1 q1)
theorem opI {f:Value->Value->Sem Value}{C:Int->Int->Prop}{g:Int->Int->Int}
  (rule:∀ (i j:Int) (t u:Tok) (s:Shared) (Q:Value->Shared->Prop) (E:Value->Shared->Prop),C i j->Q (.int (g i j) s.toks) { s with toks:=s.toks+1 }->wpAny (model X.prog X.w) X.A (f (.int i t) (.int j u)) Q E s) :
  OpR X f (rI C fun i j=>.int (g i j)):=by
 intro pins s σ H x y v u Q I rx ry h;obtain ⟨i,j,rfl,rfl,hc,q⟩:=h;obtain ⟨t,rfl⟩:=rx;obtain ⟨t',rfl⟩:=ry;exact rule i j t t' s _ _ hc ⟨.int (g i j),H,I.tok _,⟨_,rfl⟩,q⟩
theorem Hw {f:Value->Value->Sem Value}{g:Int->Int->Int}
  (rule:∀ (i j:Int) (t u:Tok) (s:Shared) (Q:Value->Shared->Prop) (E:Value->Shared->Prop),Q (.int (g i j) s.toks) { s with toks:=s.toks+1 }->wpAny (model X.prog X.w) X.A (f (.int i t) (.int j u)) Q E s) :
  OpR X f (rI0 fun i j=>.int (g i j)):=by
 intro pins s σ H x y v u Q I rx ry h;obtain ⟨i,j,rfl,rfl,q⟩:=h;obtain ⟨t,rfl⟩:=rx;obtain ⟨t',rfl⟩:=ry;exact rule i j t t' s _ _ ⟨.int (g i j),H,I.tok _,⟨_,rfl⟩,q⟩
theorem Dv {f:Value->Value->Sem Value}{g:Int->Int->Bool}
  (rule:∀ (i j:Int) (t u:Tok) (s:Shared) (Q:Value->Shared->Prop) (E:Value->Shared->Prop),Q (.bool (g i j)) s->wpAny (model X.prog X.w) X.A (f (.int i t) (.int j u)) Q E s) :
  OpR X f (rI0 fun i j=>.bl (g i j)):=by
 intro pins s σ H x y v u Q I rx ry h;obtain ⟨i,j,rfl,rfl,q⟩:=h;obtain ⟨t,rfl⟩:=rx;obtain ⟨t',rfl⟩:=ry;exact rule i j t t' s _ _ ⟨.bl (g i j),H,I,rfl,q⟩
def Jz (i j:Int):Prop:=0 < j/\j < 1073741824
def JB (i j:Int):Prop:=0<=j/\j<=1000000/\i.natAbs < 2 ^ 64
def CMul (i j:Int):Prop:=(-(2 ^ 64) < i/\i < 2 ^ 64)\/(-(2 ^ 64) < j/\j < 2 ^ 64)
theorem CMul.ok {i j:Int}(h:CMul i j):IntMulOk i j:=by
 rcases h with ⟨h1,h2⟩ | ⟨h1,h2⟩
 ·exact .of_left (intBits_le_64 h1 h2)
 ·exact .of_right (intBits_le_64 h1 h2)
theorem bZ:OpR X (binaryOp .Add) (rI0 fun i j=>.int (i+j)):=Hw fun _ _ _ _ _ _ _ q=>add_int q
theorem cP:OpR X (binaryOp .Sub) (rI0 fun i j=>.int (i - j)):=Hw fun _ _ _ _ _ _ _ q=>sub_int q
theorem eZ:OpR X (binaryOp .Mult) (rI CMul fun i j=>.int (i * j)):=opI fun _ _ _ _ _ _ _ hc q=>mul_int q hc.ok
theorem j6:OpR X (binaryOp .FloorDiv) (rI Jz fun i j=>.int (i / j)):=opI fun i j _ _ _ _ _ hc q=>by
 have h1:(0:Int) < j:=hc.1;have h2:j < 1073741824:=hc.2;exact floordiv_int (by lia) (by rw [Int.fdiv_eq_ediv_of_nonneg i (by lia)];exact q) (.inl (PyProof.noPylong_small (by lia)))
theorem iJ:OpR X (binaryOp .Mod) (rI (fun _ j=>0 < j) fun i j=>.int (i % j)):=opI fun i j _ _ _ _ _ hc q=>by
 have h1:(0:Int) < j:=hc;exact mod_int' (by lia) (by rw [Int.fmod_eq_emod_of_nonneg i (by lia)];exact q)
theorem Ge:OpR X (binaryOp .Pow) (rI JB fun i j=>.int (i ^ j.toNat)):=opI fun _ _ _ _ _ _ _ hc q=>pow_int_small hc.1 hc.2.1 hc.2.2 q
theorem unI {f:Value->Sem Value}{g:Int->Int}
  (rule:∀ (i:Int) (t:Tok) (s:Shared) (Q:Value->Shared->Prop) (E:Value->Shared->Prop),Q (.int (g i) s.toks) { s with toks:=s.toks+1 }->wpAny (model X.prog X.w) X.A (f (.int i t)) Q E s) :
  UnR X f (rU fun i=>.int (g i)):=by
 intro pins s σ H x v Q I rx h;obtain ⟨i,rfl,q⟩:=h;obtain ⟨t,rfl⟩:=rx;exact rule i t s _ _ ⟨.int (g i),H,I.tok _,⟨_,rfl⟩,q⟩
theorem v8:UnR X (unaryOp .USub) (rU fun i=>.int (-i)):=unI fun _ _ _ _ _ q=>neg_int q
end
def Hx:V->V->Bool
 | .non,.non=>true | .non,.int _=>true | .int _,.non=>true | .non,.bl _=>true | .bl _,.non=>true | .non,.str _=>true | .str _,.non=>true
 | .int _,.int _=>true | .bl _,.bl _=>true | .str _,.str _=>true | .byt _,.byt _=>true
 | .int _,.str _=>true | .str _,.int _=>true | .bl _,.str _=>true | .str _,.bl _=>true
 | _,_=>false
def rEq:R2:=fun x y H Q=>Hx x y=true/\Q (.bl (decide (x=y))) H
def rNe:R2:=fun x y H Q=>Hx x y=true/\Q (.bl (!decide (x=y))) H
theorem wu {i j:Int}:decide (V.int i=V.int j)=(i == j):=by
 rw [Bool.eq_iff_iff];simp
theorem Af {i j:Bool}:decide (V.bl i=V.bl j)=(i == j):=by
 rw [Bool.eq_iff_iff];simp
theorem wy {i j:Str}:decide (V.str i=V.str j)=(i == j):=by
 rw [Bool.eq_iff_iff];simp
theorem wz {i j:Array UInt8}:decide (V.byt i=V.byt j)=(i.toList == j.toList):=by
 rw [Bool.eq_iff_iff];cases i;cases j;simp
section
variable {X:Cx}{a b c:Expr}{ta tb tc:TE}{pos:Pos}
theorem bI {pins:List (Addr×Obj)}{σ:St}{H:Hp}{s:Shared}{Q:VK}{k k':Bool}(I:Inv X pins σ H s)(q:Q (.bl k) H)(e:k=k'):EP X pins σ Q (.bool k') s:=by
 subst e;exact ⟨.bl k,H,I,rfl,q⟩
theorem jk:OpR X (compareOp .Eq) rEq:=by
 intro pins s σ H x y v u Q I rx ry h;obtain ⟨hs,q⟩:=h
 cases x with
 | non =>
  cases rx
  cases y with
  | non=>cases ry;exact PySem.EqNone.eq_none_none (bI I q (by simp))
  | bl j=>cases ry;exact PySem.EqNone.eq_none_bool (bI I q (by simp))
  | int j=>obtain ⟨t',rfl⟩:=ry;exact PySem.EqNone.eq_none_int (bI I q (by simp))
  | str j=>obtain ⟨t',rfl⟩:=ry;exact PySem.EqNone.eq_none_str (bI I q (by simp))
  | _=>exact absurd (show false=true from hs) zAg
 | bl i =>
  cases rx
  cases y with
  | non=>cases ry;exact PySem.EqNone.eq_bool_none (bI I q (by simp))
  | bl j=>cases ry;exact eq_bool (bI I q Af)
  | str j=>obtain ⟨t',rfl⟩:=ry;exact PySem.EqMixed.eq_bool_str (bI I q (by simp))
  | _=>exact absurd (show false=true from hs) zAg
 | int i =>
  obtain ⟨t,rfl⟩:=rx
  cases y with
  | non=>cases ry;exact PySem.EqNone.eq_int_none (bI I q (by simp))
  | int j=>obtain ⟨t',rfl⟩:=ry;exact eq_int (bI I q wu)
  | str j=>obtain ⟨t',rfl⟩:=ry;exact PySem.EqMixed.eq_int_str (bI I q (by simp))
  | _=>exact absurd (show false=true from hs) zAg
 | str i =>
  obtain ⟨t,rfl⟩:=rx
  cases y with
  | non=>cases ry;exact PySem.EqNone.eq_str_none (bI I q (by simp))
  | bl j=>cases ry;exact PySem.EqMixed.eq_str_bool (bI I q (by simp))
  | int j=>obtain ⟨t',rfl⟩:=ry;exact PySem.EqMixed.eq_str_int (bI I q (by simp))
  | str j=>obtain ⟨t',rfl⟩:=ry;exact eq_str (bI I q wy)
  | _=>exact absurd (show false=true from hs) zAg
 | byt i =>
  obtain ⟨t,rfl⟩:=rx
  cases y with
  | byt j=>obtain ⟨t',rfl⟩:=ry;exact PySem.W.eq_bytes (bI I q wz)
  | _=>exact absurd (show false=true from hs) zAg
 | _=>cases y <;> exact absurd (show false=true from hs) zAg
theorem Fw:OpR X (compareOp .NotEq) rNe:=by
 intro pins s σ H x y v u Q I rx ry h;obtain ⟨hs,q⟩:=h
 cases x with
 | non =>
  cases rx
  cases y with
  | non=>cases ry;exact PySem.EqNone.ne_none_none (bI I q (by simp))
  | bl j=>cases ry;exact PySem.EqNone.ne_none_bool (bI I q (by simp))
  | int j=>obtain ⟨t',rfl⟩:=ry;exact PySem.EqNone.ne_none_int (bI I q (by simp))
  | str j=>obtain ⟨t',rfl⟩:=ry;exact PySem.EqNone.ne_none_str (bI I q (by simp))
  | _=>exact absurd (show false=true from hs) zAg
 | bl i =>
  cases rx
  cases y with
  | non=>cases ry;exact PySem.EqNone.ne_bool_none (bI I q (by simp))
  | bl j=>cases ry;exact ne_bool (bI I q (congrArg not Af))
  | str j=>obtain ⟨t',rfl⟩:=ry;exact PySem.EqMixed.ne_bool_str (bI I q (by simp))
  | _=>exact absurd (show false=true from hs) zAg
 | int i =>
  obtain ⟨t,rfl⟩:=rx
  cases y with
  | non=>cases ry;exact PySem.EqNone.ne_int_none (bI I q (by simp))
  | int j=>obtain ⟨t',rfl⟩:=ry;exact ne_int (bI I q (congrArg not wu))
  | str j=>obtain ⟨t',rfl⟩:=ry;exact PySem.EqMixed.ne_int_str (bI I q (by simp))
  | _=>exact absurd (show false=true from hs) zAg
 | str i =>
  obtain ⟨t,rfl⟩:=rx
  cases y with
  | non=>cases ry;exact PySem.EqNone.ne_str_none (bI I q (by simp))
  | bl j=>cases ry;exact PySem.EqMixed.ne_str_bool (bI I q (by simp))
  | int j=>obtain ⟨t',rfl⟩:=ry;exact PySem.EqMixed.ne_str_int (bI I q (by simp))
  | str j=>obtain ⟨t',rfl⟩:=ry;exact ne_str (bI I q (congrArg not wy))
  | _=>exact absurd (show false=true from hs) zAg
 | byt i =>
  obtain ⟨t,rfl⟩:=rx
  cases y with
  | byt j=>obtain ⟨t',rfl⟩:=ry;exact PySem.W.ne_bytes (bI I q (congrArg not wz))
  | _=>exact absurd (show false=true from hs) zAg
 | _=>cases y <;> exact absurd (show false=true from hs) zAg
theorem jl:OpR X (compareOp .Lt) (rI0 fun i j=>.bl (decide (i < j))):=Dv fun _ _ _ _ _ _ _ q=>lt_int q
theorem cJ:OpR X (compareOp .LtE) (rI0 fun i j=>.bl (decide (i<=j))):=Dv fun _ _ _ _ _ _ _ q=>le_int q
theorem jD:OpR X (compareOp .Gt) (rI0 fun i j=>.bl (decide (j < i))):=Dv fun _ _ _ _ _ _ _ q=>gt_int q
theorem Ag:OpR X (compareOp .GtE) (rI0 fun i j=>.bl (decide (j<=i))):=Dv fun _ _ _ _ _ _ _ q=>ge_int q
theorem Ah:OpR X (compareOp .Is) (fun x y H Q=>y=.non/\Q (.bl (decide (x=.non))) H):=by
 intro pins s σ H x y v u Q I rx ry h;obtain ⟨rfl,q⟩:=h;cases ry;refine is_none_gen (bI I q ?_)
 cases x <;> first
  | (cases rx;rfl)
  | (obtain ⟨t,rfl⟩:=rx;rfl)
theorem bA (b:Expr){op:CmpOp}(h:op≠.In:=by decide)(h2:op≠.NotIn:=by decide):behindInMarks op b=false:=by
 have e1:(op == CmpOp.In)=false:=by cases op <;> first | rfl | exact absurd rfl h
 have e2:(op == CmpOp.NotIn)=false:=by cases op <;> first | rfl | exact absurd rfl h2
 cases b <;> simp [behindInMarks,e1,e2]
theorem jE {op:CmpOp}{r:R2}(ho:OpR X (compareOp op) r)(ha:PE X a ta)(hb:PE X b tb)(hm:behindInMarks op b=false):PE X (.Compare a [op] [b] pos) (tOp r ta tb):=by
 intro pins s σ H Q I h;exact wpAny_Compare1 (Gd ha hb I h fun v u s2 x y H2 I2 rx ry q=>ho pins s2 σ H2 x y v u Q I2 rx ry q) hm
def Fx (t:TE):TT:=fun σ H Q=>t σ H fun x H'=>∃ k,x=.bl k/\Q k H'
theorem bj {op:CmpOp}{r:R2}(ho:OpR X (compareOp op) r)(ha:PE X a ta)(hb:PE X b tb)(hm:behindInMarks op b=false):PT X (.Compare a [op] [b] pos) (Fx (tOp r ta tb)):=by
 intro pins s σ H Q I h
 refine wpAny_isTrue_Compare1 (thn (ha pins s σ H _ I h) fun v s1 ⟨x,H1,I1,r1,q1⟩=>thn (hb pins s1 σ H1 _ I1 q1) fun u s2 ⟨y,H2,I2,r2,q2⟩ =>
  thn (ho pins s2 σ H2 x y v u _ I2 r1 r2 q2) fun c s3 ⟨z,H3,I3,r3,k,e,q3⟩=>?_) hm
 subst e;cases r3;exact wpAny_truthy_bool ⟨H3,I3,q3⟩
def v9 (r r':R2)(ta tb tc:TE):TE:=fun σ H Q=>ta σ H fun x H1=>tb σ H1 fun y H2=>r x y H2 fun z H3=>∃ k,z=.bl k /\
 (if k=true then tc σ H3 fun w' H4=>r' y w' H4 Q else Q (.bl false) H3)
theorem dh {op sQ:CmpOp}{r r':R2}(ho:OpR X (compareOp op) r)(kM:OpR X (compareOp sQ) r')(ha:PE X a ta)(hb:PE X b tb)(hc:PE X c tc)
  (hm:lastMarks [op,sQ] [b,c]=false:=by with_unfolding_all rfl):PE X (.Compare a [op,sQ] [b,c] pos) (v9 r r' ta tb tc):=by
 intro pins s σ H Q I h
 refine Compare_chain (thn (ha pins s σ H _ I h) fun v s1 ⟨x,H1,I1,r1,q1⟩=>chain_link (thn (hb pins s1 σ H1 _ I1 q1) fun u s2 ⟨y,H2,I2,r2,q2⟩ =>
  thn (ho pins s2 σ H2 x y v u _ I2 r1 r2 q2) fun d s3 ⟨z,H3,I3,r3,k,e,q3⟩=>?_)) hm
 subst e;cases r3;refine wpAny_truthy_bool ?_
 cases k with
 | false=>exact ite_ff ⟨.bl false,H3,I3,rfl,q3⟩
 | true=>exact ite_tt (chain_last (thn (hc pins s3 σ H3 _ I3 q3) fun w' s4 ⟨z',H4,I4,r4,q4⟩=>kM pins s4 σ H4 y z' u w' Q I4 r2 r4 q4))
theorem nA {op sQ:CmpOp}{r r':R2}(ho:OpR X (compareOp op) r)(kM:OpR X (compareOp sQ) r')(ha:PE X a ta)(hb:PE X b tb)(hc:PE X c tc)
  (hm:lastMarks [op,sQ] [b,c]=false:=by with_unfolding_all rfl):PT X (.Compare a [op,sQ] [b,c] pos) (Fx (v9 r r' ta tb tc)):=by
 intro pins s σ H Q I h
 refine isTrue_chain (thn (ha pins s σ H _ I h) fun v s1 ⟨x,H1,I1,r1,q1⟩=>test_link (thn (hb pins s1 σ H1 _ I1 q1) fun u s2 ⟨y,H2,I2,r2,q2⟩ =>
  thn (ho pins s2 σ H2 x y v u _ I2 r1 r2 q2) fun d s3 ⟨z,H3,I3,r3,k,e,q3⟩=>?_)) hm
 subst e;cases r3;refine wpAny_truthy_bool ?_
 cases k with
 | false =>
  obtain ⟨k',e',q'⟩:=q3;cases e';exact ite_ff ⟨H3,I3,q'⟩
 | true =>
  refine ite_tt (test_last (thn (hc pins s3 σ H3 _ I3 q3) fun w' s4 ⟨z',H4,I4,r4,q4⟩=>thn (kM pins s4 σ H4 y z' u w' _ I4 r2 r4 q4) fun d' s5 ⟨z2,H5,I5,r5,k2,e2,q5⟩=>?_));subst e2;cases r5;exact wpAny_truthy_bool ⟨H5,I5,q5⟩
theorem nC:(sizeLine:Nat) < 2 ^ 63:=by rw [sizeLine_eq];decide
theorem vals1 {x:V}{us:List Value}(r:Vals [x] us):∃ u,us=[u]/\RelV x u:=by
 cases r with
 | cons r1 r2=>cases r2;exact ⟨_,rfl,r1⟩
theorem vals2 {x y:V}{us:List Value}(r:Vals [x,y] us):∃ u w',us=[u,w']/\RelV x u/\RelV y w':=by
 cases r with
 | cons r1 r2 =>
  cases r2 with
  | cons r3 r4=>cases r4;exact ⟨_,_,rfl,r1,r3⟩
theorem j7 (hc:X.calm=true):dJ X (.builtin "max") (fun xs H Q=>∃ i j,xs=[.int i,.int j]/\Q (.int (if j > i then j else i)) H):=by
 intro pins s σ H xs us Q I r h;obtain ⟨i,j,rfl,q⟩:=h;obtain ⟨u,w',rfl,⟨t,rfl⟩,⟨t',rfl⟩⟩:=vals2 r
 refine max_two_ints (I.ok.hd hc) fun h' tk k=>⟨_,H,I.kept k,?_,q⟩
 by_cases hj:j > i
 ·rw [zAx hj,zAx hj];exact ⟨_,rfl⟩
 ·rw [zAw hj,zAw hj];exact ⟨_,rfl⟩
theorem fK (hc:X.calm=true):dJ X (.builtin "min") (fun xs H Q=>∃ i j,xs=[.int i,.int j]/\Q (.int (if j < i then j else i)) H):=by
 intro pins s σ H xs us Q I r h;obtain ⟨i,j,rfl,q⟩:=h;obtain ⟨u,w',rfl,⟨t,rfl⟩,⟨t',rfl⟩⟩:=vals2 r
 refine min_two_ints (I.ok.hd hc) fun h' tk k=>⟨_,H,I.kept k,?_,q⟩
 by_cases hj:j < i
 ·rw [zAx hj,zAx hj];exact ⟨_,rfl⟩
 ·rw [zAw hj,zAw hj];exact ⟨_,rfl⟩
theorem yE:dJ X (.type "int") (fun xs H Q=>(∃ i,xs=[.int i]/\Q (.int i) H)\/∃ k,xs=[.bl k]/\Q (.int (if k then 1 else 0)) H):=by
 intro pins s σ H xs us Q I r h;rcases h with ⟨i,rfl,q⟩ | ⟨k,rfl,q⟩
 ·obtain ⟨u,rfl,t,rfl⟩:=vals1 r;exact call_int_int ⟨.int i,H,I,⟨_,rfl⟩,q⟩
 ·obtain ⟨u,rfl,r1⟩:=vals1 r;cases r1;exact call_int_bool ⟨.int (if k then 1 else 0),H,I.tok _,⟨_,rfl⟩,q⟩
end
structure ObjM (h:Heap)(x dx C:Addr)(mA:Str->Option Value):Prop where
 obj:h.get? x=some (PySem.W.instObj C dx)
 ns:h.Ns1 dx mA
 ne:dx≠x
theorem yF {h:Heap}{dx:Addr}{mA:Str->Option Value}(n:h.Ns1 dx mA):∃ od,h.get? dx=some od/\∀ name,PySem.W.lookIn name od=some (mA name):=by
 obtain ⟨o,es,ep,ho,hd,hk,_,hm⟩:=n;refine ⟨o,ho,fun name=>?_⟩;have e:=hm name;unfold nsFind findBy at e;rw [<- Array.find?_toList] at e;unfold PySem.W.lookIn;rw [hd];dsimp only;split
 ·rename_i y q
  rw [q] at e;exact congrArg some e
 ·rename_i q
  rw [q] at e
  have a:es.toList.any (·.refKey)=false:=by
   rw [List.any_eq_false];intro y hy;obtain ⟨z,t,FI⟩:=hk y (Array.mem_toList_iff.mp hy);simp [DictEntry.refKey,FI]
  have a':¬ es.toList.any (·.refKey)=true:=by rw [a];exact zAg
  rw [zAw a'];exact congrArg some e
theorem ObjM.look {h:Heap}{x dx C:Addr}{mA:Str->Option Value}(I:ObjM h x dx C mA):∃ od,PySem.W.InstAt h x (PySem.W.instObj C dx) C (some od)/\∀ name,PySem.W.lookIn name od=some (mA name) :=
 let ⟨od,ho,hl⟩:=yF I.ns
 ⟨od,⟨I.obj,rfl,rfl,ho⟩,hl⟩
section
variable {prog:Program}{w:World}{A:Around}{E:Value->Shared->Prop}{s:Shared}{K:Frag}{x dx C f:Addr}{mA:Str->Option Value}{name:Str}{v:Value}
end
theorem RelO.some_of {v:V}{o:Option Value}(r:RelO (some v) o):∃ u,o=some u/\RelV v u:=by
 cases o with
 | none=>exact (show False from r).elim
 | some u=>exact ⟨u,rfl,r⟩
section
variable {P:Program}{w:World}{H H':Hp}{h h':Heap}{a C dx:Addr}{fs Pd:List (Str×V)}
theorem Dw (hok:HOk P w H h)(e:H a=some (.ins C dx fs)):∃ mA,ObjM h a dx C mA/\(∀ f,RelO (fs.lookup f) (mA f))/\PySem.Within mA (fs.map (·.1))/\fs.length<=1000/\H dx=some (.own a):=by
 obtain ⟨d,z,ne,ob,mA,n,r,q⟩:=(show ObjOk P w H h a (.ins C dx fs) from hok a _ e)
 exact ⟨mA,⟨ob,n,ne⟩,r,q,z,d⟩
end
structure Cls (K:Frag)(C:Addr):Prop where
 pg:PySem.W.plainGet K C Str.empty=true
 hd:PySem.W.hasDictIn K C=true
 po:PySem.W.plainOver K C=true
 sa:PySem.W.findIn K (.ref C) "__setattr__" = some (some (.builtin "object.__setattr__"))
theorem Cls.get {K:Frag}{C:Addr}(c:Cls K C)(f:Str):PySem.W.plainGet K C f=true:=c.pg
section
variable {X:Cx}{pins:List (Addr×Obj)}{σ:St}{H:Hp}{s:Shared}{a C dx:Addr}{fs:List (Str×V)}{f:Str}{v:V}{A:Around}{E:Value->Shared->Prop}
end
section
variable {X:Cx}{o e value:Expr}{f:Str}{pos pos' sF:Pos}{ta tv:TE}
end
section
variable {X:Cx}{pins:List (Addr×Obj)}{σ:St}{H:Hp}{s:Shared}{A:Around}{E:Value->Shared->Prop}{Q:Value->Shared->Prop}{c:Value}{b:Bool}
inductive TyOf (K:Frag)(H:Hp):V->Value->Prop where
 | non:TyOf K H .non (.type "NoneType")
 | bl (x:Bool):TyOf K H (.bl x) (.type "bool")
 | int (i:Int):TyOf K H (.int i) (.type "int")
 | str (x:Str):TyOf K H (.str x) (.type "str")
 | flt (x:UInt64):TyOf K H (.flt x) (.type "float")
 | lst {a:Addr} {xs:List V} (e:H a=some (.lst xs)):TyOf K H (.ref a) (.type "list")
 | frz {a:Addr} {o:Obj} {xs:List V} (e:H a=some (.frz o (.lst xs))):TyOf K H (.ref a) (.type "list")
 | tup {a:Addr} {xs:List V} (e:H a=some (.tup xs)):TyOf K H (.ref a) (.type "tuple")
 | dK {a:Addr} {kvs:List (Key×V)} (e:H a=some (.dK kvs)):TyOf K H (.ref a) (.type "dict")
 | dT {a:Addr} {kvs:List (List Key×V)} (e:H a=some (.dT kvs)):TyOf K H (.ref a) (.type "dict")
 | ins {a C dx:Addr} {fs:List (Str×V)} (e:H a=some (.ins C dx fs)) (cl:Cls K C) (ha:PySem.W.findIn K (.ref C) "__class__" = some (some (.builtin "object.__class__")))
   (hn:PySem.W.specialIn K (.builtin "object.__class__") "__get__" = some (some (.builtin "getset_descriptor.__get__"))) (mN:PySem.W.takesIn K (.builtin "object.__class__")=some true)
   (hm:PySem.W.mroIn K C (.type "object")=some true):TyOf K H (.ref a) (.ref C)
theorem yG {x:V}{u t:Value}(I:Inv X pins σ H s)(rx:RelV x u)(ty:TyOf X.K H x t)(e:PySem.W.kitOne X.K t c=some b)(h:∀ tk,Q (.bool b) { s with toks:=tk }) :
  wpAny (model X.prog X.w) A (call (.builtin "isinstance") [u,c]) Q E s:=by
 cases ty with
 | non=>cases (show u=Value.none from rx);exact PySem.W.kia_one PySem.W.kitx_none I.kIn True.intro e (fun z=>nomatch z) h
 | bl y=>cases (show u=Value.bool y from rx);exact PySem.W.kia_one PySem.W.kitx_bool I.kIn True.intro e (fun z=>nomatch z) h
 | int i=>obtain ⟨t,q⟩:=(show ∃ t,u=Value.int i t from rx);cases q;exact PySem.W.kia_one PySem.W.kitx_int I.kIn True.intro e (fun z=>nomatch z) h
 | str y=>obtain ⟨t,q⟩:=(show ∃ t,u=Value.str y t from rx);cases q;exact PySem.W.kia_one PySem.W.kitx_str I.kIn True.intro e (fun z=>nomatch z) h
 | flt y=>obtain ⟨t,q⟩:=(show ∃ t,u=Value.float y t from rx);cases q;exact PySem.W.kia_one PySem.W.kitx_float I.kIn True.intro e (fun z=>nomatch z) h
 | @lst a xs ea =>
  cases (show u=Value.ref a from rx)
  obtain ⟨_,_,n,_,h1⟩:=(show ObjOk X.prog X.w H s.heap a (.lst xs) from I.hok a _ ea)
  exact PySem.W.kia_one PySem.W.kitx_list I.kIn ⟨_,h1,rfl⟩ e (fun z=>nomatch z) h
 | @frz a ob xs ea =>
  cases (show u=Value.ref a from rx)
  obtain ⟨_,_,_,n,_,h1⟩:=(show ObjOk X.prog X.w H s.heap a (.frz ob (.lst xs)) from I.hok a _ ea)
  exact PySem.W.kia_one PySem.W.kitx_list I.kIn ⟨_,h1,rfl⟩ e (fun z=>nomatch z) h
 | @tup a xs ea =>
  cases (show u=Value.ref a from rx)
  obtain ⟨_,_,_,p⟩:=(show ObjOk X.prog X.w H s.heap a (.tup xs) from I.hok a _ ea)
  obtain ⟨o,h1,h2,_⟩:=p;exact PySem.W.kia_one PySem.W.kitx_tuple I.kIn ⟨o,h1,h2⟩ e (fun z=>nomatch z) h
 | @dK a kvs ea =>
  cases (show u=Value.ref a from rx)
  obtain ⟨_,_,vs,_,p⟩:=(show ObjOk X.prog X.w H s.heap a (.dK kvs) from I.hok a _ ea)
  obtain ⟨o,es,ep,h1,h2,_⟩:=p;exact PySem.W.kia_one PySem.W.kitx_dict I.kIn ⟨o,h1,h2.1⟩ e (fun z=>nomatch z) h
 | @dT a kvs ea =>
  cases (show u=Value.ref a from rx)
  obtain ⟨_,_,xs,_,o,es,ep,h1,h2,_⟩:=(show ObjOk X.prog X.w H s.heap a (.dT kvs) from I.hok a _ ea)
  exact PySem.W.kia_one PySem.W.kitx_dict I.kIn ⟨o,h1,h2.1⟩ e (fun z=>nomatch z) h
 | @ins a C dx fs ea cl ha hn mN hm =>
  cases (show u=Value.ref a from rx);obtain ⟨mA,O,_⟩:=Dw I.hok ea;obtain ⟨od,J,_⟩:=O.look;exact PySem.W.kia_one (PySem.W.kitx_own (cl.get _) cl.hd ha hn mN hm) I.kIn J e (fun z=>nomatch z) h
end
structure Room (k:Nat)(A:Around):Prop where
 hd:A.handled=none
 dp:A.depth+3 * k+5 < recursionLimit
 un:A.units+16 * k+200 < cLine
 gd:A.guards=some []
theorem Room.mono {j k:Nat}{A:Around}(r:Room k A)(h:j<=k):Room j A:=⟨r.hd,by have:=r.dp;lia,by have:=r.un;lia,r.gd⟩
theorem Room.deeper {k:Nat}{A:Around}(r:Room (k+1) A)(env:Env):Room k (A.deeper env) :=
 ⟨r.hd,by have:=r.dp;show A.depth+1+3 * k+5 < _;lia,by have:=r.un;show A.units+3+16 * k+200 < _;lia,r.gd⟩
theorem Room.depth {k:Nat}{A:Around}(r:Room k A):A.depth < recursionLimit:=by have:=r.dp;lia
theorem Room.units {k:Nat}{A:Around}(r:Room k A):A.units+64 < cLine:=by have:=r.un;lia
def Gf:TA:=fun _ H Q=>Q [] H
def tR (ta:TE)(tr:TA):TA:=fun σ H Q=>ta σ H fun x H1=>tr σ H1 fun xs H2=>Q (x::xs) H2
section
variable {X:Cx}{e:Expr}{es:List Expr}{te:TE}{t:TA}{pos:Pos}
theorem aj:PA X [] Gf:=fun _ _ _ _ H Q I h=>Calls.spliced_nil ⟨[],H,I,.nil,h⟩
theorem aQ (ha:PE X e te)(hr:PA X es t)(hs:starEach (e::es) X.env=(false,eval e X.env)::starEach es X.env:=by rfl):PA X (e::es) (tR te t):=by
 intro pos pins s σ H Q I h;rw [hs];show wpAny _ _ (spliced ((false,eval e X.env)::backTo pos (starEach es X.env))) _ _ s;refine Calls.spliced_cons (thn (ha pins s σ H _ I h) fun u s1 ⟨x,H1,I1,r1,q1⟩=>?_)
 exact thn (hr pos pins s1 σ H1 _ I1 q1) fun us s2 ⟨xs,H2,I2,r2,q2⟩=>⟨x::xs,H2,I2,.cons r1 r2,q2⟩
def Gg (t:TA):TE:=fun σ H Q=>t σ H fun xs H1=>xs.length<=sizeLine/\∀ p,H1 p=none->Q (.ref p) (upd H1 p (.tup xs))
def Dy (t:TA):TE:=fun σ H Q=>t σ H fun xs H1=>xs.length<=sizeLine/\∀ p,H1 p=none->Q (.ref p) (upd H1 p (.lst xs))
theorem bD {x1}(h:PA X es t):PE X (.Tuple es x1 pos) (Gg t):=by
 intro pins s σ H Q I hq;refine wpAny_Tuple_spliced (thn (h pos pins s σ H _ I hq) fun us s1 ⟨xs,H1,I1,r,z,q⟩=>⟨by rw [<- r.length];exact z,?_⟩);have hf:H1 s1.heap.objs.size=none:=I1.hok.fresh (zA3 _);refine ⟨.ref s1.heap.objs.size,upd H1 s1.heap.objs.size (.tup xs),I1.laid (t':=s1.toks) (fun b u e=>zAy _ e) (zA3 _) ?_,rfl,q _ hf⟩;exact ⟨z,us,r,⟨_,zB2 _ rfl,rfl,_,rfl⟩⟩
theorem cX (h:PA X es t):PE X (.List es pos) (Dy t):=by
 intro pins s σ H Q I hq;refine wpAny_List_spliced (thn (h pos pins s σ H _ I hq) fun us s1 ⟨xs,H1,I1,r,z,q⟩=>⟨by rw [<- r.length];exact z,?_⟩);have hf:H1 s1.heap.objs.size=none:=I1.hok.fresh (zA3 _);refine ⟨.ref s1.heap.objs.size,upd H1 s1.heap.objs.size (.lst xs),I1.laid (t':=s1.toks) (fun b u e=>zAy _ e) (zA3 _) ?_,rfl,q _ hf⟩;exact ⟨z,us,0,r,zB2 _ rfl⟩
end
abbrev Sp:=List V->Hp->VK->XK->Prop
abbrev CXT:=List Env->Hp->Shared->XK->Value->Shared->Prop
structure Env0 (P:Program)(w:World)(K:Frag)(mg:Str->Option Value)(base:Heap)(A:Around)(outer:List Env)(s:Shared)(H:Hp):Prop where
 frames:A.frames=some outer
 mod:Mod K mg base
 bs:∀ b o,base.get? b=some o->s.heap.get? b=some o/\H b=none
 bsz:base.objs.size<=s.heap.objs.size
 funs:s.heap.FunFrames base outer
 frf:∀ b∈frs outer,H b=none
 hok:HOk P w H s.heap
 bare:AllBare s.gens
def CE (outer:List Env)(P:Program)(w:World)(H:Hp)(s:Shared)(Q:VK)(u:Value)(s':Shared):Prop :=
 ∃ v H',s'.os=s.os/\AllBare s'.gens/\Un (frs outer) [] H H' s.heap s'.heap/\HOk P w H' s'.heap/\RelV v u/\Q v H'
def CR (CX:CXT)(outer:List Env)(P:Program)(w:World)(H:Hp)(s:Shared)(Q:VK)(E:XK)(r:Result)(s':Shared):Prop :=
 match r with
 | .ok (.ret u)=>CE outer P w H s Q u s'
 | .ok _=>False
 | .error e=>CX outer H s E e s'
structure FnOk (P:Program)(w:World)(K:Frag)(mg:Str->Option Value)(base:Heap)(CX:CXT)(k:Nat)(f:Addr)(fd:FuncData)(ps:List Str)(sp:Sp):Prop where
 len:∀ vs H Q E,sp vs H Q E->vs.length=ps.length
 run:∀ (A:Around) (outer:List Env) (s:Shared) (H:Hp) (args:Args) (us:List Value) (vs:List V) (Q:VK) (E:XK),Room k A->Env0 P w K mg base A outer s H->BindsTo s fd args (ps.zip us)->Vals vs us->sp vs H Q E ->
  codeAny (model P w) A (.call (.ref f) args) (CR CX outer P w H s Q E) s
section
variable {X:Cx}{pins:List (Addr×Obj)}{σ:St}{H:Hp}{s s':Shared}
theorem Inv.env0 (I:Inv X pins σ H s):Env0 X.prog X.w X.K X.mg X.base X.A X.stack s H :=
 ⟨I.ok.frames,I.ok.mod,I.bs,Nat.le_trans I.ok.bsz I.sz,I.stack,I.stkFree,I.hok,I.bare⟩
theorem Inv.after {Q:VK}{u:Value}(I:Inv X pins σ H s)(h:CE X.stack X.prog X.w H s Q u s'):EP X pins σ Q u s':=by
 obtain ⟨v,H',os,bare,un,hok,r,q⟩:=h;obtain ⟨hh,g,d,t,Pj⟩:=s';obtain rfl:Pj=s.os:=os;exact ⟨v,H',I.call (h':=hh) (g':=g) (d':=d) (t':=t) (ch:=[]) un hok bare (fun b z=>absurd z (by simp)),r,q⟩
end
def Fy (sp:Sp)(qA:List V)(E:XK)(t:TA):TE:=fun σ H Q=>t σ H fun vs H1=>sp (vs++qA) H1 Q E
def Binds (K:Frag)(fd:FuncData)(ps:List Str)(ds:List Value):Prop :=
 ∀ (s:Shared) (us:List Value),K.In s.heap->(us++ds).length=ps.length->BindsTo s fd ⟨us,[]⟩ (ps.zip (us++ds))
theorem Binds.all {K:Frag}{fd:FuncData}{ps:List Str}(h:∀ us:List Value,us.length=ps.length->bindArgs fd ⟨us,[]⟩=pure (ps.zip us)):Binds K fd ps []:=fun s us _ hl=>by
 rw [zAn] at hl ⊢;exact .of_eq (h us hl)
def vd (CX:CXT)(X:Cx)(E:XK):Prop:=∀ (pins:List (Addr×Obj)) (σ:St) (H:Hp) (s:Shared) (e:Value) (s':Shared),Inv X pins σ H s->CX X.stack H s E e s'->X.xe e s'
section
variable {X:Cx}{CX:CXT}{k:Nat}{f C:Addr}{fd:FuncData}{ps:List Str}{sp:Sp}{qA:List V}{ds:List Value}{E:XK}{x m:Str}{p pos apos:Pos}{e o:Expr}{es:List Expr}{ta:TE}{t:TA}
theorem Gh {pins:List (Addr×Obj)}{σ:St}{H:Hp}{s:Shared}{Q:VK}{us:List Value}{vs:List V}(F:FnOk X.prog X.w X.K X.mg X.base CX k f fd ps sp)(hr:Room k X.A)(hb:Binds X.K fd ps ds)(hd:Vals qA ds)(hx:vd CX X E)
  (I:Inv X pins σ H s) (r:Vals vs us) (h:sp (vs++qA) H Q E):wpAny (model X.prog X.w) X.A (call (.ref f) us) (EP X pins σ Q) X.xe s:=by
 have r2:Vals (vs++qA) (us++ds):=r.append hd;have hl:(us++ds).length=ps.length:=by rw [<- r2.length];exact F.len _ _ _ _ h
 refine wpAny_call (codeAny_mono (F.run X.A X.stack s H ⟨us,[]⟩ (us++ds) (vs++qA) Q E hr I.env0 (hb s us I.kIn hl) r2 h) fun r s' hq=>?_)
 cases r with
 | error e=>exact hx pins σ H s e s' I hq
 | ok fl =>
  cases fl with
  | ret u=>exact I.after hq
  | next=>exact False.elim hq
  | brk=>exact False.elim hq
  | cont=>exact False.elim hq
theorem Dz (F:FnOk X.prog X.w X.K X.mg X.base CX k f fd ps sp)(hr:Room k X.A)(hg:Gl X x)(hm:X.mg x=some (.ref f))(hk:PySem.W.keepIn X.K (.ref f)=true)(hb:Binds X.K fd ps ds)(hd:Vals qA ds)(hx:vd CX X E)
  (ha:PA X (e::es) t) (sR:(x == ("__debug__" : Str))=false:=by decide) (he:starEach (e::es) X.env=(false,eval e X.env)::starEach es X.env:=by rfl) (kD:(backTo pos (starEach es X.env)).any (·.1)=false:=by rfl) :
  PE X (.Call (.Name x p) (e::es) [] pos) (Fy sp qA E t):=by
 intro pins s σ H Q I h;refine wpAny_Call_Name_kw (wj I hg hm ?_ sR);refine PySem.W.callWith_K (h₀:=X.base) I.ok.mod.kin hk (thn (ha pos pins s σ H _ I h) fun us s1 ⟨vs,H1,I1,r,q⟩=>⟨I1.kIn,?_⟩) he kD;exact Gh F hr hb hd hx I1 r q
end
section
variable {X:Cx}{CX:CXT}{k:Nat}{f C:Addr}{fd:FuncData}{ps ks:List Str}{sp:Sp}{E:XK}{x m:Str}{p pos apos Pk:Pos}{e o:Expr}{es:List Expr}{V2:List Keyword}{te ta:TE}{t tk:TA}{nm:Option Str}
variable {g:List Value->List Value->List Value}{gV:List V->List V->List V}
end
structure FnScope (N P:List Str)(sc:Scope):Prop where
 kind:sc.kind=.function
 co:sc.isCoroutine=false
 gen:sc.isGenerator=false
 nd:N.Nodup
 pre:N.take P.length=P
 par:∀ x∈P,sc.names.lookup x=some .local\/sc.names.lookup x=some .cell
 nofree:∀ y∈sc.names,y.2≠.free
theorem qd {kindOf:Str->Option NameKind}{x:Str}:∀ {binds:List (Str×Value)} {m:Str->Option Value},(∀ v,(x,v) ∉ binds)->bindL kindOf binds m x=m x
 | [],_,_=>rfl
 | (n,v)::r,m,h=>by
  unfold bindL;rw [qd fun w hw=>h w (List.mem_cons_of_mem _ hw)];split
  ·have:x≠n:=by rintro rfl;exact h v List.mem_cons_self
   simp [this]
  ·rfl
theorem qe {kindOf:Str->Option NameKind}{x:Str}:∀ {binds:List (Str×Value)} {m:Str->Option Value},(∀ v,(x,v) ∉ binds)->bindC kindOf binds m x=m x
 | [],_,_=>rfl
 | (n,v)::r,m,h=>by
  unfold bindC;rw [qe fun w hw=>h w (List.mem_cons_of_mem _ hw)];split
  ·rfl
  ·have:x≠n:=by rintro rfl;exact h v List.mem_cons_self
   simp [this]
theorem qg {kindOf:Str->Option NameKind}{x:Str}{v:Value}:∀ {P:List Str} {vs:List Value} {i:Nat} {m:Str->Option Value},P.Nodup->P[i]?=some x->vs[i]?=some v->kindOf x=some .local ->
  bindL kindOf (P.zip vs) m x=some v
 | [],_,_,_,_,h,_,_=>by simp at h
 | _::_,[],_,_,_,_,h,_=>by simp at h
 | p::P,w::vs,0,m,nd,h1,h2,hk=>by
  simp at h1 h2;subst h1;subst h2;show bindL kindOf ((p,w)::P.zip vs) m p=_;unfold bindL;rw [qd fun v hv=>(List.nodup_cons.mp nd).1 (List.of_mem_zip hv).1,if_pos hk];simp
 | p::P,w::vs,i+1,m,nd,h1,h2,hk=>by
  show bindL kindOf ((p,w)::P.zip vs) m x=_;unfold bindL;exact qg (i:=i) (List.nodup_cons.mp nd).2 (by simpa using h1) (by simpa using h2) hk
theorem qi {kindOf:Str->Option NameKind}{x:Str}{v:Value}:∀ {P:List Str} {vs:List Value} {i:Nat} {m:Str->Option Value},P.Nodup->P[i]?=some x->vs[i]?=some v->kindOf x≠some .local ->
  bindC kindOf (P.zip vs) m x=some v
 | [],_,_,_,_,h,_,_=>by simp at h
 | _::_,[],_,_,_,_,h,_=>by simp at h
 | p::P,w::vs,0,m,nd,h1,h2,hk=>by
  simp at h1 h2;subst h1;subst h2;show bindC kindOf ((p,w)::P.zip vs) m p=_;unfold bindC;rw [qe fun v hv=>(List.nodup_cons.mp nd).1 (List.of_mem_zip hv).1,if_neg hk];simp
 | p::P,w::vs,i+1,m,nd,h1,h2,hk=>by
  show bindC kindOf ((p,w)::P.zip vs) m x=_;unfold bindC;exact qi (i:=i) (List.nodup_cons.mp nd).2 (by simpa using h1) (by simpa using h2) hk
def start (N:List Str)(vs:List V):St:=vs.map some++List.replicate (N.length - vs.length) none
def yH (CX:CXT)(P:Program)(w:World)(K:Frag)(mg:Str->Option Value)(base:Heap)(N:List Str)(qual:Str)(scope:Scope)(f:Addr)(cd:Value)(A:Around)(outer:List Env)(s:Shared)(H:Hp)(E:XK):Cx where
 prog:=P
 w:=w
 K:=K
 mg:=mg
 base:=base
 A:=A.deeper (envOfC qual scope s.heap.objs.size f cd)
 N:=N
 s₀:=s
 H₀:=H
 env:=envOfC qual scope s.heap.objs.size f cd
 outer:=outer
 stack:=envOfC qual scope s.heap.objs.size f cd::outer
 ex:=[]
 calm:=true
 fn:=fun _=>true
 pn:=[]
 xe:=fun e s'=>wpAny (model P w) (A.deeper (envOfC qual scope s.heap.objs.size f cd)) (leaving (envOfC qual scope s.heap.objs.size f cd) e) (fun _ nL=>CX outer H s E e nL) (fun e' nL=>CX outer H s E e' nL) s'
theorem tU {sc:Scope}{n:Nat}{x:Str}(h:sc.names.lookup x=some .cell):∃ c,(cellsFrom n sc.names []).lookup x=some c:=by
 have q:=PySem.W.cellsFrom_some sc.names n [] (.inl h);exact Option.isSome_iff_exists.mp q
theorem yI {CX:CXT}{P:Program}{w:World}{K:Frag}{mg:Str->Option Value}{base:Heap}{N ps:List Str}{qual:Str}{scope:Scope}{f:Addr}{cd:Value}{A:Around}{outer:List Env}{s s1:Shared}{H:Hp}{E:XK}{us:List Value}{vs:List V}
  (S:FnScope N ps scope) (hd:A.handled=none) (e0:Env0 P w K mg base A outer s H) (hl:vs.length=ps.length) (r:Vals vs us)
  (x:InCallC s s.heap.objs.size (bindL (envOfC qual scope s.heap.objs.size f cd).kindOf (ps.zip us) fun _=>none) (cellsFrom (s.heap.objs.size+1) scope.names []) (bindC (envOfC qual scope s.heap.objs.size f cd).kindOf (ps.zip us) fun _=>none) s1) :
  Inv (yH CX P w K mg base N qual scope f cd A outer s H E) [] (start N vs) H s1:=by
 have kD:ps.length<=N.length:=by have:=congrArg List.length S.pre;rw [zAd] at this;lia
 obtain ⟨h1,tk,rfl,hk⟩:=x.done;have AI:∀ b:Addr,b ∉ (yH CX P w K mg base N qual scope f cd A outer s H E).ex:=fun b z=>absurd (show b∈([]:List Addr) from z) (by simp)
 refine ⟨⟨e0.mod,S.kind,rfl,rfl,zA3 _,fun y z c h1 h2=>?_,fun y hy=>?_,fun y c _ h=>?_,fun _=>hd,Around.frames_deeper e0.frames,.inr ⟨rfl,rfl⟩,fun b z=>absurd z (AI b),e0.bs,e0.bsz,fun b _ _=>AI b,fun b z=>absurd z (AI b),e0.funs,e0.frf⟩,
  rfl,e0.bare,Un.kept hk,⟨_,x.toInCall.ns,fun i y v h1 h2 h3=>?_⟩,fun y c h=>⟨_,x.cell y c h⟩,e0.hok.fresh (Nat.le_refl _),fun y c h=>?_,fun p hp=>absurd (show p∈([]:List (Addr×Obj)) from hp) (by simp),e0.hok.kept hk,?_⟩
 ·exact name_of_addr x.apart (PySem.mem_of_lookup h1) (PySem.mem_of_lookup h2)
 ·have hy:scope.names.lookup y=some .cell\/scope.names.lookup y=some .free:=hy;rcases hy with hy | hy
  ·exact tU hy
  ·exact absurd rfl (S.nofree _ (PySem.mem_of_lookup hy))
 ·exact Nat.le_of_lt (x.above y c (PySem.mem_of_lookup h))
 ·have hi:i < vs.length:=by
   unfold start at h2;by_cases hi:i < vs.length
   ·exact hi
   ·rw [List.getElem?_append_right (by simpa using hi)] at h2;rw [List.getElem?_replicate] at h2;split at h2 <;> cases h2
  have ha:vs[i]?=some v:=by
   unfold start at h2;rw [List.getElem?_append_left (by simpa using hi),List.getElem?_map] at h2
   cases e:vs[i]? with
   | none=>rw [e] at h2;cases h2
   | some a=>rw [e] at h2;cases h2;rfl
  obtain ⟨u,hu,rv⟩:=r.get ha
  have hp:ps[i]?=some y:=by
   rw [<- S.pre,List.getElem?_take_of_lt (by lia)];exact h1
  have MA:ps.Nodup:=by rw [<- S.pre];exact S.nd.sublist (List.take_sublist _ _)
  refine ⟨u,rv,?_⟩;rcases S.par y (zB7 hp) with k | k
  ·exact .inl ⟨k,qg MA hp hu k⟩
  ·obtain ⟨c,e⟩:=tU (n:=s.heap.objs.size+1) k;refine .inr ⟨.inl k,c,e,?_⟩;have q:=x.cell y c e;rw [qi MA hp hu (by show scope.names.lookup y≠_;rw [k];decide)] at q;exact q
 ·exact e0.hok.fresh (Nat.le_of_lt (x.above y c (PySem.mem_of_lookup h)))
 ·unfold start;show _=N.length;rw [zA2,zA1,List.length_replicate];lia
theorem HB {CX:CXT}{P:Program}{w:World}{K:Frag}{mg:Str->Option Value}{base:Heap}{k:Nat}{f:Addr}{name qual:Str}{params:Arguments}{body:List Stmt}{scope:Scope}{dV kV doc pm ar ct oc:Value}{an od:Option Addr}
  {qB:Array (Option Value)} {N ps:List Str} {sp:Sp} (lk:K.lookup f=some ⟨oc,od,.func (PySem.W.fnOf name qual params body scope dV kV doc pm an ar ct),qB⟩) (kN:PySem.W.codeIn K ar qual=true) (S:FnScope N ps scope)
  (len:∀ vs H Q E,sp vs H Q E->vs.length=ps.length)
  (kR:∀ (A:Around) (outer:List Env) (s:Shared) (H:Hp) (vs:List V) (Q:VK) (E:XK),Room k (A.deeper (envOfC qual scope s.heap.objs.size f ar))->sp vs H Q E ->
   ∃ t,PSs (yH CX P w K mg base N qual scope f ar A outer s H E) body t/\t { nx:=fun _ H'=>Q .non H',rt:=Q } (start N vs) H) :
  FnOk P w K mg base CX (k+1) f (PySem.W.fnOf name qual params body scope dV kV doc pm an ar ct) ps sp:=by
 refine ⟨len,fun A outer s H args us vs Q E hr e0 hb r qE=>?_⟩;have hl:=len _ _ _ _ qE;have KX:K.In s.heap:=e0.mod.kin.keeps fun b o e=>(e0.bs b o e).1;have lim:s.heap.NoLimit:=e0.mod.nolimit.keeps fun b o e=>(e0.bs b o e).1
 have AJ:∀ y∈ps.zip us,scope.names.lookup y.1=some .local\/(scope.names.lookup y.1=some .cell/\((cellsFrom (s.heap.objs.size+1) scope.names []).lookup y.1).isSome=true):=fun ⟨n,v⟩ hy=>by
  rcases S.par n (List.of_mem_zip hy).1 with q | q
  ·exact .inl q
  ·exact .inr ⟨q,PySem.W.cellsFrom_some _ _ _ (.inl q)⟩
 refine codeAny_call_function hr.depth (KX _ _ lk) rfl S.co S.gen rfl (PySem.W.codeRec_of KX kN) (hb _ _ _ _ ?_);refine wpAny_newFunctionEnv_cells S.kind AJ fun env he s1 x=>?_;subst he;refine ⟨lim.keeps x.toInCall.keep,codeAny_func ?_⟩;obtain ⟨t,ht,hq⟩:=kR A outer s H vs Q E (hr.deeper _) qE;have I:Inv (yH CX P w K mg base N qual scope f ar A outer s H E) [] (start N vs) H s1:=yI S hr.hd e0 hl r x;refine wpAny_mono (ht [] s1 (start N vs) H _ I hq) (fun fl s' hs=>?_) fun e s' hs=>hs
 have fin:∀ {ai:St} {H':Hp} {v:V} {u:Value},Inv (yH CX P w K mg base N qual scope f ar A outer s H E) [] ai H' s'->RelV v u->Q v H'->CE outer P w H s Q u s' :=
  fun {ai H' v u} J rv q=>⟨v,H',J.os,J.bare,J.base,J.hok,rv,q⟩
 cases fl with
 | ret u =>
  obtain ⟨v,ai,H',J,rv,q⟩:=hs;exact fin J rv q
 | next =>
  obtain ⟨ai,H',J,q⟩:=hs;exact fin (v:=V.non) (u:=Value.none) J rfl q
 | brk =>
  obtain ⟨_,_,_,q⟩:=hs;exact False.elim q
 | cont =>
  obtain ⟨_,_,_,q⟩:=hs;exact False.elim q
section
variable {X:Cx}{x:Str}{p pos:Pos}{e:Expr}{es:List Expr}{t:TA}{id T:String}{r:List V->Hp->VK->Prop}
def tCB (r:List V->Hp->VK->Prop)(t:TA):TE:=fun σ H Q=>t σ H fun vs H1=>r vs H1 Q
theorem aN (hc:dJ X (.builtin id) r)(hg:Gl X x)(hm:X.mg x=none)(hv:bootBuiltins x=some (.builtin id))(ha:PA X (e::es) t)(hn:x≠"__name__" := by decide)(sR:(x == ("__debug__" : Str))=false:=by decide)
  (he:starEach (e::es) X.env=(false,eval e X.env)::starEach es X.env:=by rfl) (kD:(backTo pos (starEach es X.env)).any (·.1)=false:=by rfl):PE X (.Call (.Name x p) (e::es) [] pos) (tCB r t):=by
 intro pins s σ H Q I h;refine wpAny_Call_Name_kw (gU I hg hm hv ?_ hn sR);exact PyProof.Rows.callWith_builtin1 (thn (ha pos pins s σ H _ I h) fun us s1 ⟨vs,H1,I1,r1,q1⟩=>hc pins s1 σ H1 vs us Q I1 r1 q1) he kD
theorem bM (hc:dJ X (.type T) r)(hg:Gl X x)(hm:X.mg x=none)(hv:bootBuiltins x=some (.type T))(ha:PA X (e::es) t)(hn:x≠"__name__" := by decide)(sR:(x == ("__debug__" : Str))=false:=by decide)
  (he:starEach (e::es) X.env=(false,eval e X.env)::starEach es X.env:=by rfl) (kD:(backTo pos (starEach es X.env)).any (·.1)=false:=by rfl):PE X (.Call (.Name x p) (e::es) [] pos) (tCB r t):=by
 intro pins s σ H Q I h;refine wpAny_Call_Name_kw (gU I hg hm hv ?_ hn sR);exact PyProof.Rows.callWith_type1 (thn (ha pos pins s σ H _ I h) fun us s1 ⟨vs,H1,I1,r1,q1⟩=>hc pins s1 σ H1 vs us Q I1 r1 q1) he kD
end
end L2
namespace HT
open PySem PyProof.Rows
def lexLt:List Int->List Int->Bool
 | [],[]=>false
 | [],_::_=>true
 | _::_,[]=>false
 | x::xs,y::ys=>if x=y then lexLt xs ys else decide (x < y)
theorem lexLt_cons (x y:Int)(xs ys:List Int):lexLt (x::xs) (y::ys)=if x=y then lexLt xs ys else decide (x < y):=rfl
section
open PySem.SeqAt
open PySem.AutoSeq1 (wpAny_loadPart')
open PySem.MeetsSeq PySem.MeetsSeq2 PySem.MeetsSeq3
end
section
variable {prog:Program}{w:World}{A:Around}{E:Value->Shared->Prop}{s:Shared}
theorem cat_tup {t b:Addr}{vs ws:List Value}{Q:Value->Shared->Prop}(ht:IsTup s.heap t vs.toArray)(hb:IsTup s.heap b ws.toArray)(hv:vs≠[])
  (h1:ws=[]->Q (.ref t) s) (h2:ws≠[]->Q (.ref s.heap.objs.size) { s with heap:=s.heap.push { cls:=.type "tuple",data:=.seq (vs++ws).toArray } })
  (hsz:vs.length+ws.length<=sizeLine):wpAny (model prog w) A (binaryOp .Add (.ref t) (.ref b)) Q E s:=by
 obtain ⟨⟨cls,dd,data,sl⟩,ho,hc,n,hd⟩:=id ht;obtain ⟨⟨FK,xI,data2,tj⟩,tq,AK,n2,hd2⟩:=id hb;simp only at hc hd AK hd2;subst hc hd AK hd2;have e:vs.toArray++ws.toArray=(vs++ws).toArray:=by simp
 by_cases hw:ws=[]
 ·exact concat_meets ⟨_,ho,rfl⟩ ⟨_,tq,rfl⟩ noFill_tuple_add seq_tuple_add PySem.F.slot_tuple_add PySem.F.entry_tuple_add (PySem.F.args_tuple_add_2 _ _)
   (tuple_addW1 t b vs.toArray ws.toArray n n2 dd xI sl tj (by simpa using hv) (by simp [hw])) ⟨ho,tq,h1 hw⟩
 ·refine concat_meets ⟨_,ho,rfl⟩ ⟨_,tq,rfl⟩ noFill_tuple_add seq_tuple_add PySem.F.slot_tuple_add PySem.F.entry_tuple_add (PySem.F.args_tuple_add_2 _ _)
   (tuple_addW2 t b vs.toArray ws.toArray n n2 dd xI sl tj (by simpa using hv) (by simpa using hw) (by rw [List.size_toArray,List.size_toArray];exact hsz)) ⟨ho,tq,?_⟩
  rw [e];exact h2 hw
def sIx (n d:Nat):Option Int->Nat
 | none=>d
 | some v=>if v < 0 then (v+(n:Int)).toNat else min v.toNat n
theorem sIx_none (n d:Nat):sIx n d none=d:=rfl
theorem sIx_nat (n d k:Nat):sIx n d (some (k:Int))=min k n:=by
 show (if (k:Int) < 0 then ((k:Int)+(n:Int)).toNat else min (k:Int).toNat n)=min k n;rw [zAw (by lia),zAi]
theorem Gi (n d:Nat)(hd:d<=n)(o:Option Int):sIx n d o<=n:=by
 cases o with
 | none=>exact hd
 | some v =>
  show (if v < 0 then (v+(n:Int)).toNat else min v.toNat n)<=n;by_cases hv:v < 0
  ·rw [zAx hv];lia
  ·rw [zAw hv];exact Nat.min_le_right _ _
theorem wA (v:Int)(n d:Nat):(if v < 0 then max (v+(n:Int)) 0 else min v (n:Int))=((sIx n d (some v):Nat):Int):=by
 show (if v < 0 then max (v+(n:Int)) 0 else min v (n:Int))=(((if v < 0 then (v+(n:Int)).toNat else min v.toNat n):Nat):Int);by_cases hv:v < 0
 ·simp only [if_pos hv];lia
 ·simp only [if_neg hv];lia
theorem vf (lo hi:Option Int)(n:Nat):Builtin.Slice.sliceAdjust lo hi 1 (n:Int)=(((sIx n 0 lo:Nat):Int),((sIx n n hi:Nat):Int)):=by
 have h1:¬ ((1:Int) < 0):=by lia
 unfold Builtin.Slice.sliceAdjust;simp only [h1,if_false];refine Prod.ext ?_ ?_
 ·cases lo with
  | none=>rfl
  | some v=>exact wA v n 0
 ·cases hi with
  | none=>rfl
  | some v=>exact wA v n n
theorem vg (i j:Nat):Builtin.Slice.slicePlaces (i:Int) (j:Int) 1=j - i:=by
 unfold Builtin.Slice.slicePlaces;have h1:(1:Int) > 0:=by lia
 simp only [h1,if_true,Int.ediv_one];split <;> lia
theorem nF {v:Value}{o:Option Int}{Q:Option Int->Shared->Prop}(p:IsPart v o)(h:Q o s):wpAny (model prog w) A (Builtin.Slice.slicePartIndex v) Q E s:=by
 cases p with
 | none=>exact slicePart_none h
 | int i t=>exact slicePart_int h
theorem gD {sl:Addr}{vl vu:Value}{lo hi:Option Int}{n:Nat}{Q:Int×Int×Nat->Shared->Prop}(hs:s.heap.IsSliceOf sl vl vu .none)(pl:IsPart vl lo)(pu:IsPart vu hi)
  (h:Q (((sIx n 0 lo:Nat):Int),1,sIx n n hi - sIx n 0 lo) s):wpAny (model prog w) A (Builtin.Slice.sliceApplied (.ref sl) (pure (n:Int))) Q E s:=by
 obtain ⟨os,tw,ix,AL⟩:=id hs;unfold Builtin.Slice.sliceApplied Builtin.Slice.sliceFields;refine zAv (zAv (wpAny_field tw AL (x:=vl) rfl (zAv (wpAny_field tw AL (x:=vu) rfl (zAv (wpAny_field tw AL (x:=.none) rfl (zB1 ?_)))))));refine zAv (slicePart_none ?_);show wpAny _ _ (if ((1:Int) == 0)=true then _ else _) _ _ s;rw [zAw (by decide)];refine zAv (nF pl (zAv (nF pu (zAv (zB1 ?_)))));show wpAny _ _ (match Builtin.Slice.sliceAdjust lo hi 1 (n:Int) with | (lo,hi)=>pure (lo,(1:Int),Builtin.Slice.slicePlaces lo hi 1)) _ _ s;rw [vf lo hi n];show wpAny _ _ (pure (((sIx n 0 lo:Nat):Int),(1:Int),Builtin.Slice.slicePlaces ((sIx n 0 lo:Nat):Int) ((sIx n n hi:Nat):Int) 1)) _ _ s;rw [vg];exact zB1 h
theorem Ai (xs:Array Value)(i k:Nat):((List.range k).filterMap fun (m:Nat)=>xs[((i:Int)+(m:Int) * 1).toNat]?).toArray=((xs.toList.drop i).take k).toArray:=by
 have e:(fun (m:Nat)=>xs[((i:Int)+(m:Int) * 1).toNat]?)=fun m=>xs[i+m]?:=by
  funext m;have:((i:Int)+(m:Int) * 1).toNat=i+m:=by lia
  rw [this]
 rw [e];have:=pick_run xs i k;rw [List.filterMap_map] at this;have e2:((fun x=>xs[x]?) ∘ fun x=>i+x)=fun m=>xs[i+m]?:=rfl;rw [e2] at this;rw [this]
theorem getItem_tuple_cut {t sl:Addr}{items:Array Value}{vl vu:Value}{lo hi:Option Int}{Q:Value->Shared->Prop}(ht:IsTup s.heap t items)(hs:s.heap.IsSliceOf sl vl vu .none)(pl:IsPart vl lo)(pu:IsPart vu hi)
  (hw:¬ (sIx items.size 0 lo=0/\sIx items.size items.size hi=items.size))
  (h:Q (.ref s.heap.objs.size) { s with heap:=s.heap.push { cls:=.type "tuple",data:=.seq ((items.toList.drop (sIx items.size 0 lo)).take (sIx items.size items.size hi - sIx items.size 0 lo)).toArray } })
  (hsz:items.size<=sizeLine):wpAny (model prog w) A (getItem (.ref t) (.ref sl)) Q E s:=by
 have iA:sizeOk (.seq ((items.toList.drop (sIx items.size 0 lo)).take (sIx items.size items.size hi - sIx items.size 0 lo)).toArray):=by
  show ((items.toList.drop (sIx items.size 0 lo)).take (sIx items.size items.size hi - sIx items.size 0 lo)).toArray.size<=sizeLine;rw [zA8,zAd,List.length_drop,zA9];lia
 have hj:sIx items.size items.size hi<=items.size:=Gi _ _ (zA3 _) hi;obtain ⟨os,tw,ix,AL⟩:=id hs
 have FO:s.TypeIs (.ref sl) "slice" := ⟨os,tw,ix⟩
 unfold getItem
 try with_reducible refine wpAny_holding ?_
 first | refine zAv (zB1 ?_) | skip
 refine zAv (wpAny_sequenceKey ht.typeIs (by decide) ?_)
 refine zAv (wpAny_callSpecial?_slot (name:=Str.ofString "__getitem__") ht.typeIs PyProof.Rows.slot_tuple_getitem
  (wpAny_call_entry PyProof.Rows.slot_tuple_getitem ht.typeIs entry_tuple_getitem ?_ (args_tuple_getitem _ _)))
 show wpAny _ _ (Builtin.Tuple.tupleItemsOf (.ref t) >>= _) _ _ s;refine zAv (tupleItemsOf_ ht ?_);refine zAv (wpAny_typeOf FO ?_);rw [zAx (by decide)];refine zAv (gD hs pl pu ?_)
 have FR:¬ ((((sIx items.size 0 lo:Nat):Int) == 0 && (1:Int) == 1 && (sIx items.size items.size hi - sIx items.size 0 lo) == items.size)=true):=by
  intro q;rw [zAc,zAc] at q;have q1:((sIx items.size 0 lo:Nat):Int)=0:=eq_of_beq q.1.1;have q2:sIx items.size items.size hi - sIx items.size 0 lo=items.size:=eq_of_beq q.2;exact hw ⟨by lia,by lia⟩
 show wpAny _ _ (if (((sIx items.size 0 lo:Nat):Int) == 0 && (1:Int) == 1 && (sIx items.size items.size hi - sIx items.size 0 lo) == items.size)=true then _ else _) _ _ s;rw [zAw FR,Ai]
 first
  | exact zAv (m:=Builtin.Tuple.tupleExact _) (wpAny_newObj_type (zB1 ⟨_,rfl,zB1 h⟩) iA)
  | exact zAv (m:=Builtin.Tuple.tupleExact _) (wpAny_newObj_type (zAv (zB1 (zB1 ⟨_,rfl,zB1 h⟩))) iA)
  | exact zAv (zAv (m:=Builtin.Tuple.tupleExact _) (wpAny_newObj_type (zB1 (zB1 ⟨_,rfl,zB1 h⟩)) iA))
  | exact zAv (zAv (m:=Builtin.Tuple.tupleExact _) (wpAny_newObj_type (zB1 ⟨_,rfl,zB1 h⟩) iA))
end
end HT
namespace L2
open PySem PySem.Spec PyProof.Rows
abbrev TO:=St->Hp->(Option Int->Hp->Prop)->Prop
def PO (X:Cx)(e:Option Expr)(t:TO):Prop :=
 ∀ (pins:List (Addr×Obj)) (s:Shared) (σ:St) (H:Hp) (Q:Option Int->Hp->Prop),Inv X pins σ H s->t σ H Q ->
  wpAny (model X.prog X.w) X.A (evalPart e X.env) (fun u s'=>∃ o H',Inv X pins σ H' s'/\IsPart u o/\Q o H') X.xe s
def DG:TO:=fun _ H Q=>Q none H
def HD (t:TE):TO:=fun σ H Q=>t σ H fun x H1=>∃ i,x=.int i/\Q (some i) H1
theorem intsAre_of {ns:List Int}:∀ {us:List Value},Vals (ns.map V.int) us->IntsAre us ns:=by
 induction ns with
 | nil=>intro us r;rw [List.map_nil] at r;cases r;exact .nil
 | cons n ns ih =>
  intro us r;rw [zAk] at r
  cases r with
  | cons r1 r2 =>
   obtain ⟨t,e⟩:=r1;subst e;exact .cons n t (ih r2)
section
variable {X:Cx}{e:Expr}{te:TE}{lo hi:Option Expr}{tl th:TO}{pos p2:Pos}
theorem gY:PO X none DG:=by
 intro pins s σ H Q I h;rw [evalPart_none];exact zB1 ⟨none,H,I,.none,h⟩
theorem gZ (h:PE X e te):PO X (some e) (HD te):=by
 intro pins s σ H Q I hw;rw [evalPart_some];refine thn (h pins s σ H _ I hw) fun u s1 ⟨x,H1,I1,r1,q1⟩=>?_;obtain ⟨i,rfl,q⟩:=q1;obtain ⟨t,rfl⟩:=r1;exact ⟨some i,H1,I1,.int i t,q⟩
def SlR (X:Cx)(r:V->Option Int->Option Int->Hp->VK->Prop):Prop :=
 ∀ (pins:List (Addr×Obj)) (s:Shared) (σ:St) (H:Hp) (x:V) (v vl vu:Value) (lo hi:Option Int) (sl:Addr) (Q:VK),Inv X pins σ H s->RelV x v->s.heap.IsSliceOf sl vl vu .none->IsPart vl lo->IsPart vu hi->r x lo hi H Q ->
  ∃ T id,typeLookup (.type T) "__getitem__" = pure (some (.builtin id))/\s.TypeIs v T/\wpAny (model X.prog X.w) X.A (getItem v (.ref sl)) (EP X pins σ Q) X.xe s
def tSl (r:V->Option Int->Option Int->Hp->VK->Prop)(te:TE)(tl th:TO):TE:=fun σ H Q=>te σ H fun x H1=>tl σ H1 fun l H2=>th σ H2 fun u H3=>r x l u H3 Q
theorem fV {r:V->Option Int->Option Int->Hp->VK->Prop}(hr:SlR X r)(he:PE X e te)(hl:PO X lo tl)(hu:PO X hi th):PE X (.Subscript e (.Slice lo hi none p2) pos) (tSl r te tl th):=by
 intro pins s σ H Q I h;refine Subscript_ (thn (he pins s σ H _ I h) fun v s1 ⟨x,H1,I1,r1,q1⟩=>?_);refine wpAny_Slice (thn (hl pins s1 σ H1 _ I1 q1) fun vl s2 ⟨l,H2,I2,pl,q2⟩=>thn (hu pins s2 σ H2 _ I2 q2) fun vu s3 ⟨u,H3,I3,pu,q3⟩=>?_);rw [evalPart_none];refine zB1 ?_;have I4:Inv X pins σ H3 { s3 with heap:=s3.heap.push { cls:=.type "slice",data:=.fields #[vl,vu,.none] } }:=I3.kept (t':=s3.toks) fun b ob q=>zAy _ q;obtain ⟨T,id,hT,ht,hg⟩:=hr pins { s3 with heap:=s3.heap.push { cls:=.type "slice",data:=.fields #[vl,vu,.none] } } σ H3 x v vl vu l u s3.heap.objs.size Q I4 r1 (Heap.IsSliceOf.new ..) pl pu q3;show wpAny (model X.prog X.w) X.A (subscriptTail e (.Slice lo hi none p2) v (.ref s3.heap.objs.size)) (EP X pins σ Q) X.xe { s3 with heap:=s3.heap.push { cls:=.type "slice",data:=.fields #[vl,vu,.none] } };exact tail_any (ops:=[.ref s3.heap.objs.size,v]) ht hT hg (by with_unfolding_all rfl)
def jF (xs:List V)(lo hi:Option Int):List V:=(xs.drop (HT.sIx xs.length 0 lo)).take (HT.sIx xs.length xs.length hi - HT.sIx xs.length 0 lo)
theorem lO (xs:List V)(lo hi:Option Int):(jF xs lo hi).length<=xs.length:=by
 unfold jF;rw [zAd,List.length_drop];lia
inductive RSlTI (K:Frag)(x:V)(lo:Option Int)(hi:Option Int)(H:Hp)(Q:VK):Prop
 | mk:∀ a xs,(x=.ref a)->(SqT K H a xs)->(¬ (HT.sIx xs.length 0 lo=0/\HT.sIx xs.length xs.length hi=xs.length))->(∀ p,H p=none->Q (.ref p) (upd H p (.tup (jF xs lo hi))))->RSlTI K x lo hi H Q
def JC (K:Frag):V->Option Int->Option Int->Hp->VK->Prop:=fun x lo hi H Q=>RSlTI K x lo hi H Q
theorem Gj:SlR X (JC X.K):=by
 intro pins s σ H x v vl vu lo hi sl Q I rx hs pl pu h;obtain ⟨a,xs,rfl,hx,hw,q⟩:=h;cases rx;obtain ⟨its,r,ht,hz⟩:=I.tuple hx;have hlen:its.toArray.size=xs.length:=by rw [zA8];exact r.length.symm
 refine ⟨"tuple",_,PyProof.Rows.slot_tuple_getitem.lookup,ht.typeIs,?_⟩;refine HT.getItem_tuple_cut ht hs pl pu (by rw [hlen];exact hw) ?_ (by rw [hlen];exact hz);rw [hlen];refine ⟨.ref s.heap.objs.size,_,I.laid (t':=s.toks) (o:=.tup (jF xs lo hi)) (fun b ob q=>zAy _ q) (zA3 _) ?_,rfl,q _ (I.hok.fresh (zA3 _))⟩;exact ⟨Nat.le_trans (lO xs lo hi) hz,_,(r.drop (HT.sIx xs.length 0 lo)).take (HT.sIx xs.length xs.length hi - HT.sIx xs.length 0 lo),IsTup.new _ _⟩
inductive RCatTI (K:Frag)(x:V)(y:V)(H:Hp)(Q:VK):Prop
 | mk:∀ a b xs ys,(x=.ref a)->(y=.ref b)->(SqT K H a xs)->(SqT K H b ys)->(xs≠[])->(xs.length+ys.length<=sizeLine)->((ys=[]->Q (.ref a) H))->((ys≠[]->∀ p,H p=none->Q (.ref p) (upd H p (.tup (xs++ys)))))->RCatTI K x y H Q
def HF (K:Frag):R2:=fun x y H Q=>RCatTI K x y H Q
theorem Vals.nil_iff {xs:List V}{us:List Value}(r:Vals xs us):us=[]↔xs=[]:=by
 cases r with
 | nil=>simp
 | cons _ _=>simp
theorem DK:OpR X (binaryOp .Add) (HF X.K):=by
 intro pins s σ H x y v u Q I rx ry h;obtain ⟨a,b,xs,ys,rfl,rfl,ha,hb,hx,hz,q1,q2⟩:=h;cases rx;cases ry;obtain ⟨its,r1,p1,_⟩:=I.tuple ha;obtain ⟨cb,r2,p2,_⟩:=I.tuple hb;refine HT.cat_tup p1 p2 (fun z=>hx (r1.nil_iff.mp z)) (fun z=>⟨.ref a,H,I,rfl,q1 (r2.nil_iff.mp z)⟩) (fun z=>?_) (by rw [<- r1.length,<- r2.length];exact hz);refine ⟨.ref s.heap.objs.size,_,I.laid (t':=s.toks) (o:=.tup (xs++ys)) (fun b ob q=>zAy _ q) (zA3 _) ?_,rfl,q2 (fun w=>z (r2.nil_iff.mpr w)) _ (I.hok.fresh (zA3 _))⟩;exact ⟨by rw [zA2];exact hz,_,r1.append r2,IsTup.new _ _⟩
end
def ixN (n:Nat)(i:Int):Option Nat:=if 0<=i then (if i < n then some i.toNat else none) else if -(n:Int)<=i then some (i+n).toNat else none
def atI {α:Type}(xs:List α)(i:Int):Option α:=(ixN xs.length i).bind fun j=>xs[j]?
theorem wB {n:Nat}{i:Int}{j:Nat}(h:ixN n i=some j):seqIndex? i n=some j/\j < n/\-(n:Int)<=i/\i < n:=by
 unfold ixN at h;by_cases h0:0<=i
 ·rw [zAx h0] at h;by_cases h1:i < n
  ·rw [zAx h1] at h;have e:i.toNat=j:=zAl h;exact ⟨by rw [seqIndex_of h0 h1,e],by lia,by lia,h1⟩
  ·rw [zAw h1] at h;cases h
 ·rw [zAw h0] at h;by_cases h1:-(n:Int)<=i
  ·rw [zAx h1] at h;have e:(i+n).toNat=j:=zAl h;exact ⟨by rw [seqIndex_neg (by lia) h1,e],by lia,h1,by lia⟩
  ·rw [zAw h1] at h;cases h
theorem wC {α:Type}{xs:List α}{i:Int}{v:α}(h:atI xs i=some v):∃ j,seqIndex? i xs.length=some j/\xs[j]?=some v/\j < xs.length/\-(xs.length:Int)<=i/\i < xs.length:=by
 unfold atI at h
 cases e:ixN xs.length i with
 | none=>rw [e] at h;cases h
 | some j =>
  rw [e] at h;obtain ⟨h1,h2,h3,h4⟩:=wB e;exact ⟨j,h1,h,h2,h3,h4⟩
theorem cY {α:Type}{xs:List α}{j:Nat}{v:α}(h:xs[j]?=some v):atI xs (j:Int)=some v:=by
 have hj:j < xs.length:=(zAa.mp h).1
 have e:ixN xs.length (j:Int)=some j:=by
  unfold ixN;rw [if_pos (by lia),if_pos (by lia)];simp
 unfold atI;rw [e];exact h
def rC (b:Expr):Prop:=∀ o i,subscripted b false o i=operate [o,i] (getItem o i)
def IxR (X:Cx)(r:R2):Prop :=
 ∀ (value slice:Expr) (pins:List (Addr×Obj)) (s:Shared) (σ:St) (H:Hp) (x y:V) (v u:Value) (Q:VK),Inv X pins σ H s->RelV x v->RelV y u->r x y H Q ->
  subscripted slice false v u=operate [v,u] (getItem v u)->wpAny (model X.prog X.w) X.A (subscriptTail value slice v u) (EP X pins σ Q) X.xe s
def MtR (X:Cx)(id:String)(r:V->List V->Hp->VK->Prop):Prop :=
 ∀ (pins:List (Addr×Obj)) (s:Shared) (σ:St) (H:Hp) (x:V) (xs:List V) (v:Value) (us:List Value) (Q:VK),Inv X pins σ H s->RelV x v->Vals xs us->r x xs H Q ->
  wpAny (model X.prog X.w) X.A (call (.builtin id) (v::us)) (EP X pins σ Q) X.xe s
section
variable {X:Cx}{a b:Expr}{ta tb:TE}{pos:Pos}
theorem Fz {r:R2}(hr:IxR X r)(ha:PE X a ta)(hb:PE X b tb)(hs:rC b):PE X (.Subscript a b pos) (tOp r ta tb):=by
 intro pins s σ H Q I h;exact Subscript_ (Gd ha hb I h fun v u s2 x y H2 I2 rx ry q=>hr a b pins s2 σ H2 x y v u Q I2 rx ry q (hs _ _))
inductive RIxLI (K:Frag)(x:V)(y:V)(H:Hp)(Q:VK):Prop
 | mk:∀ p xs i v,(x=.ref p)->(y=.int i)->(SqL K H p xs)->(atI xs i=some v)->(Q v H)->RIxLI K x y H Q
def HJ (K:Frag):R2:=fun x y H Q=>RIxLI K x y H Q
inductive RIxTI (K:Frag)(x:V)(y:V)(H:Hp)(Q:VK):Prop
 | mk:∀ p xs i v,(x=.ref p)->(y=.int i)->(SqT K H p xs)->(atI xs i=some v)->(Q v H)->RIxTI K x y H Q
def HN (K:Frag):R2:=fun x y H Q=>RIxTI K x y H Q
theorem bL:IxR X (HJ X.K):=by
 intro value slice pins s σ H x y v u Q I rx ry h hs;obtain ⟨p,xs,i,z,rfl,rfl,hq,he,q⟩:=h;cases rx;obtain ⟨t,rfl⟩:=ry;obtain ⟨its,r,pl,hz⟩:=I.list hq;obtain ⟨j,h1,h2,h3,h4,h5⟩:=wC he;obtain ⟨w,ew,fq⟩:=r.get h2;have hl:=r.length;have hn:=nC
 have fin:EP X pins σ Q w s:=⟨z,H,I,fq,q⟩
 by_cases h0:0<=i
 ·have hj:i.toNat=j:=by
   rw [seqIndex_of h0 h5] at h1;exact zAl h1
  exact item_listR pl.isList h0 (by lia) (by rw [hj];simpa using ew) fin hs
 ·have hj:(i+(its.toArray.size:Int)).toNat=j:=by
   rw [seqIndex_neg (by lia) h4] at h1;rw [zA8,<- hl];exact zAl h1
  exact subscriptTail_builtinR (x:=w) pl.isList.typeIs slot_list_getitem.lookup
   (wpAny_getItem_list_neg (Q:=fun r s'=>r=w/\EP X pins σ Q r s') pl.isList (by lia) (by rw [List.size_toArray] <;> lia) (by lia) (by rw [hj];simpa using ew) ⟨rfl,fin⟩) hs
theorem bO:IxR X (HN X.K):=by
 intro value slice pins s σ H x y v u Q I rx ry h hs;obtain ⟨p,xs,i,z,rfl,rfl,hq,he,q⟩:=h;cases rx;obtain ⟨t,rfl⟩:=ry;obtain ⟨its,r,pl,hz⟩:=I.tuple hq;obtain ⟨j,h1,h2,h3,h4,h5⟩:=wC he;obtain ⟨w,ew,fq⟩:=r.get h2;have hl:=r.length;have hn:=nC
 have fin:EP X pins σ Q w s:=⟨z,H,I,fq,q⟩
 exact subscriptTail_builtinR (x:=w) pl.typeIs slot_tuple_getitem.lookup
  (getItem_tuple (j:=j) (Q:=fun r s'=>r=w/\EP X pins σ Q r s') pl (by lia) (by lia) (by rw [List.size_toArray,<- hl];exact h1) (by simpa using ew) ⟨rfl,fin⟩) hs
theorem vh (its:List Value)(n j:Nat)(u:Value):Obj.mapSeq (·.setIfInBounds j u) { cls:=.type "list",data:=.seq its.toArray n }={ cls:=.type "list",data:=.seq (its.set j u).toArray n }:=by
 simp [Obj.mapSeq]
theorem Inv.lst {pins:List (Addr×Obj)}{σ:St}{H:Hp}{s:Shared}{p:Addr}{xs:List V}(I:Inv X pins σ H s)(h:H p=some (.lst xs)) :
  ∃ (its:List Value) (n:Nat),Vals xs its/\s.heap.get? p=some { cls:=.type "list",data:=.seq its.toArray n }/\xs.length<=sizeLine:=by
 obtain ⟨z,its,n,r,e⟩:=I.hok p _ h;exact ⟨its,n,r,e,z⟩
theorem Inv.lstUpd {pins:List (Addr×Obj)}{σ:St}{H:Hp}{s:Shared}{p:Addr}{xs ys:List V}{its its':List Value}{n n':Nat}{f:Obj->Obj}(I:Inv X pins σ H s)(h:H p=some (.lst xs))
  (ho:s.heap.get? p=some { cls:=.type "list",data:=.seq its.toArray n }) (hf:f { cls:=.type "list",data:=.seq its.toArray n }={ cls:=.type "list",data:=.seq its'.toArray n' }) (r:Vals ys its') (hz:ys.length<=sizeLine) (t:Nat) :
  Inv X pins σ (upd H p (.lst ys)) { s with heap:=s.heap.update p f,toks:=t }:=by
 have e:(s.heap.update p f).get? p=some { cls:=.type "list",data:=.seq its'.toArray n' }:=by
  rw [Heap.get?_update_self f ho (by rw [hf] <;> rfl),hf]
 refine I.write (x:=p) (e:=p) (by rw [h];trivial) (.inl rfl) (fun b u hb q=>(Heap.get?_update_other _ _ (Ne.symm hb)).trans q) ⟨_,e⟩ ?_;exact ⟨hz,its',n',r,e⟩
inductive RSetLI (o:V)(i:V)(v:V)(H:Hp)(Q:Hp->Prop):Prop
 | mk:∀ p xs k j,(o=.ref p)->(i=.int k)->(H p=some (.lst xs))->(ixN xs.length k=some j)->(Q (upd H p (.lst (xs.set j v))))->RSetLI  o i v H Q
def HQ:V->V->V->Hp->(Hp->Prop)->Prop:=fun o i v H Q=>RSetLI  o i v H Q
theorem set_list:Dt X HQ:=by
 intro pins s σ H o i v ov iv u Q I ro ri rv h;obtain ⟨p,xs,k,j,rfl,rfl,hp,hj,q⟩:=h;cases ro;obtain ⟨t,rfl⟩:=ri;obtain ⟨its,n,r,ho,hz⟩:=I.lst hp;obtain ⟨h1,h2,h3,h4⟩:=wB hj;have hl:=r.length;have hn:=nC
 have I':Inv X pins σ (upd H p (.lst (xs.set j v))) { s with heap:=s.heap.update p (Obj.mapSeq (·.setIfInBounds j u)) } :=
  I.lstUpd hp ho (vh its n j u) (r.set rv j) (by rw [List.length_set];exact hz) s.toks
 by_cases h0:0<=k
 ·have hk:k.toNat=j:=by
   rw [seqIndex_of h0 h4] at h1;exact zAl h1
  exact PySem.W.ki_setAt ho h0 (by lia) (by rw [zA8,<- hl];exact h4) (by rw [hk];exact ⟨_,I',q⟩)
 ·have hk:(k+(its.toArray.size:Int)).toNat=j:=by
   rw [seqIndex_neg (by lia) h3] at h1;rw [zA8,<- hl];exact zAl h1
  exact PySem.W.ki_setBack ho (by lia) (by rw [zA8,<- hl];exact h3) (by lia) (by rw [hk];exact ⟨_,I',q⟩)
theorem rD (lo hi:Option Int)(n:Nat):(sliceBounds lo hi none n).1=((HT.sIx n 0 lo:Nat):Int)/\(sliceBounds lo hi none n).2.1=((HT.sIx n n hi:Nat):Int)/\(sliceBounds lo hi none n).2.2=1:=by
 refine ⟨?_,?_,rfl⟩
 ·cases lo with
  | none=>simp [sliceBounds,HT.sIx]
  | some i =>
   simp only [sliceBounds,HT.sIx,Option.getD_none,show (1:Int) > 0 by decide,if_true];by_cases h:i < 0
   ·simp only [h,if_true] <;> lia
   ·simp only [h,if_false] <;> lia
 ·cases hi with
  | none=>simp [sliceBounds,HT.sIx]
  | some i =>
   simp only [sliceBounds,HT.sIx,Option.getD_none,show (1:Int) > 0 by decide,if_true];by_cases h:i < 0
   ·simp only [h,if_true] <;> lia
   ·simp only [h,if_false] <;> lia
theorem ph (its:List Value)(lo hi:Option Int):slicePick its.toArray lo hi none=((its.drop (HT.sIx its.length 0 lo)).take (HT.sIx its.length its.length hi - HT.sIx its.length 0 lo)).toArray:=by
 obtain ⟨h1,h2,h3⟩:=rD lo hi its.toArray.size;unfold slicePick;rw [h1,h2,h3];simp only [sliceRange_one,pick_run,List.size_toArray] <;> rfl
inductive RSlLI (K:Frag)(x:V)(lo:Option Int)(hi:Option Int)(H:Hp)(Q:VK):Prop
 | mk:∀ a xs,(x=.ref a)->(SqL K H a xs)->(∀ p,H p=none->Q (.ref p) (upd H p (.lst (jF xs lo hi))))->RSlLI K x lo hi H Q
def JD (K:Frag):V->Option Int->Option Int->Hp->VK->Prop:=fun x lo hi H Q=>RSlLI K x lo hi H Q
theorem wF:SlR X (JD X.K):=by
 intro pins s σ H x v vl vu lo hi sl Q I rx hs pl pu h;obtain ⟨a,xs,rfl,hx,q⟩:=h;cases rx;obtain ⟨its,r,ht,hz⟩:=I.list hx;have hlen:=r.length;refine ⟨"list",_,slot_list_getitem.lookup,ht.isList.typeIs,?_⟩;refine wpAny_getItem_list_slice ht.isList hs pl pu .none (by simp) ?_ (by rw [List.size_toArray] <;> lia);rw [ph,<- hlen];refine ⟨.ref s.heap.objs.size,_,I.laid (t':=s.toks) (o:=.lst (jF xs lo hi)) (fun b ob q=>Heap.get?_push_of_some _ q) (zA3 _) ?_,rfl,q _ (I.hok.fresh (zA3 _))⟩;exact ⟨Nat.le_trans (lO xs lo hi) hz,_,0,(r.drop (HT.sIx xs.length 0 lo)).take (HT.sIx xs.length xs.length hi - HT.sIx xs.length 0 lo),Heap.get?_push_size _ rfl⟩
theorem cg:dJ X (.builtin "len") (fun xs H Q=>∃ p ys,xs=[.ref p]/\(SqL X.K H p ys\/SqT X.K H p ys)/\Q (.int ys.length) H):=by
 intro pins s σ H xs us Q I r h;obtain ⟨p,ys,rfl,hq,q⟩:=h;obtain ⟨u,rfl,rx⟩:=vals1 r;cases rx;have hn:=nC;rcases hq with hq | hq
 ·obtain ⟨its,r',pl,hz⟩:=I.list hq;have hlen:=r'.length;exact Calls.call_len_list pl.isList (by simp only [List.size_toArray] <;> lia) ⟨.int ys.length,H,I.tok _,⟨s.toks+1,by rw [List.size_toArray,hlen]⟩,q⟩
 ·obtain ⟨its,r',pl,hz⟩:=I.tuple hq;have hlen:=r'.length;exact len_tuple pl (by simp only [List.size_toArray] <;> lia) ⟨.int ys.length,H,I.tok _,⟨s.toks+1,by rw [List.size_toArray,hlen]⟩,q⟩
theorem ie:dJ X (.type "list") (fun xs H Q=>∃ p ys,xs=[.ref p]/\(SqL X.K H p ys\/SqT X.K H p ys)/\∀ l,H l=none->Q (.ref l) (upd H l (.lst ys))):=by
 intro pins s σ H xs us Q I r h;obtain ⟨p,ys,rfl,hq,q⟩:=h;obtain ⟨u,rfl,rx⟩:=vals1 r;cases rx
 have fin:∀ (its:List Value),Vals ys its->ys.length<=sizeLine->∀ (h':Heap) (c':Nat),(∀ b o',s.heap.get? b=some o'->h'.get? b=some o') ->
   h'.get? s.heap.objs.size=some { cls:=.type "list",dict:=none,data:=.seq its.toArray c',slots:=#[] }->EP X pins σ Q (.ref s.heap.objs.size) { s with heap:=h' }:=fun its r' hz h' c' kp e =>
  ⟨.ref s.heap.objs.size,_,I.laid (t':=s.toks) kp (zA3 _) (show ObjOk X.prog X.w _ h' _ (.lst ys) from ⟨hz,its,c',r',e⟩),rfl,q _ (I.hok.fresh (zA3 _))⟩
 rcases hq with hq | hq
 ·obtain ⟨its,r',pl,hz⟩:=I.list hq;have hlen:=r'.length;obtain ⟨o,ho,hc,n,hd⟩:=pl.isList;exact call_list_seq p (.inl rfl) ho hc hd (fun h' c' kp e=>fin its r' hz h' c' kp e) (by simp only [List.size_toArray] <;> lia)
 ·obtain ⟨its,r',pl,hz⟩:=I.tuple hq;have hlen:=r'.length;obtain ⟨o,ho,hc,n,hd⟩:=pl;exact call_list_seq p (.inr rfl) ho hc hd (fun h' c' kp e=>fin its r' hz h' c' kp e) (by simp only [List.size_toArray] <;> lia)
theorem bF:dJ X (.type "tuple") (fun xs H Q=>∃ p ys,xs=[.ref p]/\((SqL X.K H p ys/\∀ l,H l=none->Q (.ref l) (upd H l (.tup ys)))\/(SqT X.K H p ys/\Q (.ref p) H))):=by
 intro pins s σ H xs us Q I r h;obtain ⟨p,ys,rfl,h⟩:=h;obtain ⟨u,rfl,rx⟩:=vals1 r;cases rx;rcases h with ⟨hq,q⟩ | ⟨hq,q⟩
 ·obtain ⟨its,r',pl,hz⟩:=I.list hq;have hlen:=r'.length;refine call_tuple_list pl.isList (fun h' kp=>?_) (by simp only [List.size_toArray] <;> lia);have I1:Inv X pins σ H { s with heap:=h' }:=I.kept (t':=s.toks) kp
  have I2:Inv X pins σ (upd H h'.objs.size (.tup ys)) { s with heap:=h'.push { cls:=.type "tuple",data:=.seq its.toArray } } :=
   I1.laid (t':=s.toks) (fun b o e=>zAy _ e) (zA3 _) (show ObjOk X.prog X.w _ _ _ (.tup ys) from ⟨hz,its,r',IsTup.new _ _⟩)
  exact ⟨.ref h'.objs.size,_,I2,rfl,q _ (I1.hok.fresh (zA3 _))⟩
 ·obtain ⟨its,r',pl,hz⟩:=I.tuple hq;exact call_tuple_same pl ⟨.ref p,H,I,rfl,q⟩
def tyV (K:Frag)(T:String)(x:V)(H:Hp):Prop:=match x with
 | .str _=>T="str"
 | .int _=>T="int"
 | .ref p=>(T="list" /\ ∃ xs,SqL K H p xs)\/(T="tuple" /\ ∃ o,K.lookup p=some o/\o.cls=.type "tuple" /\ o.dict=none) \/
   (T="dict" /\ ((∃ kvs,H p=some (.dK kvs))\/∃ kvs,H p=some (.dT kvs)))\/(T="set" /\ ∃ S n,H p=some (.set S n))
 | _=>False
theorem Aj {pins:List (Addr×Obj)}{σ:St}{H:Hp}{s:Shared}{T:String}{x:V}{v:Value}(I:Inv X pins σ H s)(r:RelV x v)(ty:tyV X.K T x H) :
  s.TypeIs v T/\∀ a,v=.ref a->∃ ob,s.heap.get? a=some ob/\ob.dict=none:=by
 cases x with
 | str z =>
  obtain ⟨t,rfl⟩:=r;cases (show T="str" from ty);exact ⟨typeIs_str s z t,fun _ e=>nomatch e⟩
 | int i =>
  obtain ⟨t,rfl⟩:=r;cases (show T="int" from ty);exact ⟨typeIs_int s i t,fun _ e=>nomatch e⟩
 | ref p =>
  cases r;rcases ty with ⟨rfl,xs,hq⟩ | ⟨rfl,o,hk,hc,hd⟩ | ⟨rfl,hk⟩ | ⟨rfl,S,n,hk⟩
  ·obtain ⟨its,_,pl,_⟩:=I.list hq;refine ⟨pl.isList.typeIs,fun a e=>?_⟩;cases e;obtain ⟨o,n,e,c,hd,_⟩:=pl;exact ⟨o,e,hd⟩
  ·refine ⟨⟨o,I.kIn p o hk,hc⟩,fun a e=>?_⟩;cases e;exact ⟨o,I.kIn _ o hk,hd⟩
  ·have z:∃ o,s.heap.get? p=some o/\o.ExactDict:=by
    rcases hk with ⟨kvs,hk⟩ | ⟨kvs,hk⟩
    ·obtain ⟨_,_,_,_,o,_,_,e,ex,_⟩:=I.hok p _ hk;exact ⟨o,e,ex⟩
    ·obtain ⟨_,_,_,_,o,_,_,e,ex,_⟩:=I.hok p _ hk;exact ⟨o,e,ex⟩
   obtain ⟨o,e,ex⟩:=z;refine ⟨⟨o,e,ex.1⟩,fun a e2=>?_⟩;cases e2;exact ⟨o,e,ex.2.1⟩
  ·obtain ⟨o,_,_,_,e,ex,_⟩:=I.hok p _ hk;refine ⟨⟨o,e,ex.1⟩,fun a e2=>?_⟩;cases e2;exact ⟨o,e,ex.2.1⟩
 | _=>exact False.elim ty
def JF (K:Frag)(T:String)(r:V->List V->Hp->VK->Prop)(to:TE):TE:=fun σ H Q=>to σ H fun x H1=>tyV K T x H1/\r x [] H1 Q
def tBM (K:Frag)(T:String)(r:V->List V->Hp->VK->Prop)(to:TE)(t:TA):TE:=fun σ H Q=>to σ H fun x H1=>tyV K T x H1/\t σ H1 fun xs H2=>r x xs H2 Q
variable {o e:Expr}{es:List Expr}{to:TE}{t:TA}{name:Str}{apos fv:Pos}{T id:String}{r:V->List V->Hp->VK->Prop}
theorem Gk (pa:PlainAttrs T)(slot:Slot T name id)(FU:typeOf (.builtin id)=pure (.type "method_descriptor"))(hm:MtR X id r)(ho:PE X o to)
  (kS:attributeBase o name X.env (eval o X.env)=eval o X.env:=by rfl) (kU:(apos.endLine == fv.line)=true:=by rfl):PE X (.Call (.Attribute o name apos) [] [] fv) (JF X.K T r to):=by
 intro pins s σ H Q I h;refine wpAny_Call_method0_late kS kU (thn (ho pins s σ H _ I h) fun v s1 ⟨x,H1,I1,r1,ty,q1⟩=>?_);obtain ⟨h1,h2⟩:=Aj I1 r1 ty;exact ⟨T,id,pa,slot,FU,h1,h2,Calls.callWith_builtin rfl (PySem.evalArgs_none (hm pins s1 σ H1 x [] v [] Q I1 r1 .nil q1))⟩
theorem nG (pa:PlainAttrs T)(slot:Slot T name id)(FU:typeOf (.builtin id)=pure (.type "method_descriptor"))(hm:MtR X id r)(ho:PE X o to)(ha:PA X (e::es) t)
  (kS:attributeBase o name X.env (eval o X.env)=eval o X.env:=by rfl)
  (FV:((backTo fv (starEach (e::es) X.env)).all (fun x=>!x.1) && (backToKw fv (keywordEach [] X.env)).all (fun x=>x.1.isSome)
   && decide ((e::es).length+([]:List Keyword).length+(if ([]:List Keyword).isEmpty then 0 else 1) < 30))=true:=by rfl)
  (kU:(apos.endLine == fv.line)=true:=by rfl) (hs:starEach (e::es) X.env=(false,eval e X.env)::starEach es X.env:=by rfl) (tF:(backTo fv (starEach es X.env)).any (·.1)=false:=by rfl) :
  PE X (.Call (.Attribute o name apos) (e::es) [] fv) (tBM X.K T r to t):=by
 intro pins s σ H Q I h;refine wpAny_Call_method_late kS FV kU rfl (thn (ho pins s σ H _ I h) fun v s1 ⟨x,H1,I1,r1,ty,q1⟩=>?_);obtain ⟨h1,h2⟩:=Aj I1 r1 ty;refine ⟨T,id,pa,slot,FU,h1,h2,?_⟩;have hA:=ha fv pins s1 σ H1 _ I1 q1;rw [hs] at hA ⊢;refine Calls.callWith_builtin (by show (false || (backTo fv (starEach es X.env)).any (·.1))=false;rw [tF] <;> rfl) (Calls.evalArgs_plain ?_);exact thn hA fun us s2 ⟨vs,H2,I2,r2,q2⟩=>hm pins s2 σ H2 x vs v us Q I2 r1 r2 q2
end
def MtM (X:Cx)(id:String)(r:V->List V->Hp->VK->Prop):Prop :=
 ∀ (pins:List (Addr×Obj)) (s:Shared) (σ:St) (H:Hp) (x:V) (xs:List V) (v:Value) (us:List Value) (Q:VK),Inv X pins σ H s->RelV x v->Vals xs us->r x xs H Q ->
  wpAny (model X.prog X.w) X.A (call (.builtin id) (v::us)) (EP X pins σ Q) X.xe s
theorem Vals.one:∀ {x:V} {us:List Value},Vals [x] us->∃ u,us=[u]/\RelV x u
 | _,_,.cons r .nil=>⟨_,rfl,r⟩
theorem Vals.zero:∀ {us:List Value},Vals [] us->us=[]
 | _,.nil=>rfl
theorem Vals.dropLast {xs:List V}{us:List Value}(h:Vals xs us):Vals xs.dropLast us.dropLast:=by
 induction h with
 | nil=>exact .nil
 | cons r t ih =>
  cases t with
  | nil=>exact .nil
  | cons q t'=>exact .cons r ih
theorem Vals.reverse {xs:List V}{us:List Value}(h:Vals xs us):Vals xs.reverse us.reverse:=by
 induction h with
 | nil=>exact .nil
 | cons r t ih=>rw [List.reverse_cons,List.reverse_cons];exact Vals.append ih (.cons r .nil)
theorem Vals.rep {xs:List V}{us:List Value}(h:Vals xs us):∀ k:Nat,Vals (List.replicate k xs).flatten (List.replicate k us).flatten
 | 0=>.nil
 | k+1=>by
  rw [List.replicate_succ,List.replicate_succ,List.flatten_cons,List.flatten_cons];exact Vals.append h (Vals.rep h k)
theorem vm {α:Type}(l:List α):l.eraseIdx (l.length - 1)=l.dropLast:=by
 induction l with
 | nil=>rfl
 | cons a r ih =>
  cases r with
  | nil=>rfl
  | cons b r =>
   have e:(a::b::r).length - 1=((b::r).length - 1)+1:=by
    have h1:(a::b::r).length=r.length+2:=rfl;have h2:(b::r).length=r.length+1:=rfl;lia
   rw [e,List.eraseIdx_cons_succ,ih]
   all_goals rfl
theorem foldl_rep (its:List Value):∀ (k:Nat) (acc:List Value),
  List.foldl (fun x1 x2=>x1++x2) acc.toArray (List.replicate k its.toArray)=(acc++(List.replicate k its).flatten).toArray
 | 0,acc=>by simp
 | k+1,acc=>by
  have e:acc.toArray++its.toArray=(acc++its).toArray:=by simp
  have e2:(acc++its)++(List.replicate k its).flatten=acc++(List.replicate (k+1) its).flatten:=by
   rw [List.replicate_succ,List.flatten_cons,zAf]
  rw [<- e2,<- foldl_rep its k (acc++its),<- e,List.replicate_succ,List.foldl_cons]
section
variable {X:Cx}{pins:List (Addr×Obj)}{σ:St}{H:Hp}{s:Shared}{l b:Addr}{xs ys zs:List V}
theorem Inv.lset {its its':List Value}{n:Nat}{f:Array Value->Array Value}{t':Nat}(I:Inv X pins σ H s)(hH:H l=some (.lst xs))
  (e:s.heap.get? l=some { cls:=.type "list",data:=.seq its.toArray n }) (hf:f its.toArray=its'.toArray) (hv:Vals ys its') (hz:ys.length<=sizeLine) :
  Inv X pins σ (upd H l (.lst ys)) { s with heap:=s.heap.update l (Obj.mapSeq f),toks:=t' }:=by
 have q:=PySem.IsL.update e f;rw [hf] at q;refine I.write (x:=l) (e:=l) (by rw [hH];exact trivial) (.inl rfl) (fun b' u hb hu=>(Heap.get?_update_other s.heap (Obj.mapSeq f) (Ne.symm hb)).trans hu) ⟨_,q⟩ ?_;exact ⟨hz,its',_,hv,q⟩
theorem Inv.lnew {its:List Value}{t':Nat}(I:Inv X pins σ H s)(hv:Vals ys its)(hz:ys.length<=sizeLine) :
  Inv X pins σ (upd H s.heap.objs.size (.lst ys)) { s with heap:=s.heap.push { cls:=.type "list",data:=.seq its.toArray },toks:=t' } :=
 I.laid (fun _ _ q=>zAy _ q) (zA3 _) ⟨hz,its,0,hv,zB2 _ rfl⟩
theorem Inv.fresh (I:Inv X pins σ H s):H s.heap.objs.size=none:=I.hok.fresh (zA3 _)
theorem Inv.lstM (I:Inv X pins σ H s)(hH:H l=some (.lst xs)):xs.length<=sizeLine/\∃ (its:List Value) (n:Nat),Vals xs its/\xs.length=its.length/\s.heap.get? l=some { cls:=.type "list",data:=.seq its.toArray n }:=by
 obtain ⟨z,its,n,r,e⟩:=I.hok l _ hH;exact ⟨z,its,n,r,r.length,e⟩
theorem jG {n:Nat}(h:n<=sizeLine):Builtin.List.listTooLong n=false:=by
 unfold Builtin.List.listTooLong;exact zAz (by lia)
end
section
variable {X:Cx}
inductive RAppendI (x:V)(vs:List V)(H:Hp)(Q:VK):Prop
 | mk:∀ l xs y,(x=.ref l)->(vs=[y])->(H l=some (.lst xs))->(xs.length < sizeLine)->(Q .non (upd H l (.lst (xs++[y]))))->RAppendI  x vs H Q
def DN:V->List V->Hp->VK->Prop:=fun x vs H Q=>RAppendI  x vs H Q
theorem fM:MtM X "list.append" DN:=by
 intro pins s σ H x vs v us Q I rx rv h;obtain ⟨l,xs,y,rfl,rfl,hH,hz,q⟩:=h;cases rx;obtain ⟨u,rfl,ru⟩:=rv.one;obtain ⟨z,its,n,r,hl,e⟩:=I.lstM hH;refine call_meets F.slot_list_append ⟨_,e,rfl⟩ F.entry_list_append (F.args_list_append_2 _ _) (PySem.list_append l its.toArray n u (by rw [zA8];lia)) ⟨e,?_⟩;refine ⟨.non,_,I.lset (its':=its++[u]) hH e (by simp) (r.append (.cons ru .nil)) ?_,rfl,q⟩;rw [zA2,List.length_singleton];lia
inductive RExtendI (x:V)(vs:List V)(H:Hp)(Q:VK):Prop
 | mk:∀ l b xs zs,(x=.ref l)->(vs=[.ref b])->(H l=some (.lst xs))->(H b=some (.lst zs))->(xs.length+zs.length<=sizeLine)->(Q .non (upd H l (.lst (xs++zs))))->RExtendI  x vs H Q
def DP:V->List V->Hp->VK->Prop:=fun x vs H Q=>RExtendI  x vs H Q
theorem Hl:MtM X "list.extend" DP:=by
 intro pins s σ H x vs v us Q I rx rv h;obtain ⟨l,b,xs,zs,rfl,rfl,hH,hB,hz,q⟩:=h;cases rx;obtain ⟨u,rfl,ru⟩:=rv.one;cases ru;obtain ⟨z,its,n,r,hl,e⟩:=I.lstM hH;obtain ⟨z2,cb,n2,r2,fy,e2⟩:=I.lstM hB;have hsz:its.toArray.size+cb.toArray.size<=sizeLine:=by rw [zA8,zA8];lia
 have dS:¬ (!its.toArray.isEmpty && Builtin.List.listTooLong (its.toArray.size+cb.toArray.size))=true:=by
  rw [jG hsz,Bool.and_false];exact zAg
 refine call_meets F.slot_list_extend ⟨_,e,rfl⟩ F.entry_list_extend (F.args_list_extend_2 _ _)
  (AutoSeq1.list_extend_list_list_0 l its.toArray n b cb.toArray n2 dS (by rw [zA8];lia) (by lia)) ⟨e,e2,?_⟩
 refine ⟨.non,_,I.lset (its':=its++cb) hH e (by simp) (r.append r2) ?_,rfl,q⟩;rw [zA2];lia
inductive RPopI (x:V)(vs:List V)(H:Hp)(Q:VK):Prop
 | mk:∀ l xs y,(x=.ref l)->(vs=[])->(H l=some (.lst xs))->(xs[xs.length - 1]?=some y)->(Q y (upd H l (.lst xs.dropLast)))->RPopI  x vs H Q
def JG:V->List V->Hp->VK->Prop:=fun x vs H Q=>RPopI  x vs H Q
theorem JH:MtM X "list.pop" JG:=by
 intro pins s σ H x vs v us Q I rx rv h;obtain ⟨l,xs,y,rfl,rfl,hH,hy,q⟩:=h;cases rx;have FX:=rv.zero;subst FX;obtain ⟨z,its,n,r,hl,e⟩:=I.lstM hH;obtain ⟨u,hu,ru⟩:=r.get hy
 have gE:its.toArray[its.toArray.size - 1]?=some u:=by
  show its.toArray[its.length - 1]?=some u;rw [<- Array.getElem?_toList,<- hl];exact hu
 refine call_meets F.slot_list_pop ⟨_,e,rfl⟩ F.entry_list_pop (F.args_list_pop_1 _) (MeetsSeq.list_pop_last l its.toArray n u gE (by rw [zA8];lia)) ⟨e,?_⟩;refine ⟨y,_,I.lset (its':=its.dropLast) hH e ?_ r.dropLast ?_,ru,q⟩
 ·show its.toArray.eraseIdxIfInBounds (its.toArray.size - 1)=its.dropLast.toArray;rw [zA8,List.eraseIdxIfInBounds_toArray,vm]
 ·rw [List.length_dropLast];lia
inductive RReverseI (x:V)(vs:List V)(H:Hp)(Q:VK):Prop
 | mk:∀ l xs,(x=.ref l)->(vs=[])->(H l=some (.lst xs))->(Q .non (upd H l (.lst xs.reverse)))->RReverseI  x vs H Q
def Ak:V->List V->Hp->VK->Prop:=fun x vs H Q=>RReverseI  x vs H Q
theorem vo:MtM X "list.reverse" Ak:=by
 intro pins s σ H x vs v us Q I rx rv h;obtain ⟨l,xs,rfl,rfl,hH,q⟩:=h;cases rx;have FX:=rv.zero;subst FX;obtain ⟨z,its,n,r,hl,e⟩:=I.lstM hH;refine call_meets F.slot_list_reverse ⟨_,e,rfl⟩ F.entry_list_reverse (F.args_list_reverse_1 _) (AutoSeq1.list_reverse_list_0 l its.toArray n (by rw [zA8];lia)) ⟨e,?_⟩;refine ⟨.non,_,I.lset (its':=its.reverse) hH e (by simp) r.reverse ?_,rfl,q⟩;rw [List.length_reverse];lia
inductive RCatI (x:V)(y:V)(H:Hp)(Q:VK):Prop
 | mk:∀ l b xs zs,(x=.ref l)->(y=.ref b)->(H l=some (.lst xs))->(H b=some (.lst zs))->(xs.length+zs.length<=sizeLine)->(∀ p,H p=none->Q (.ref p) (upd H p (.lst (xs++zs))))->RCatI  x y H Q
def JK:R2:=fun x y H Q=>RCatI  x y H Q
theorem vp:OpR X (binaryOp .Add) JK:=by
 intro pins s σ H x y v u Q I rx ry h;obtain ⟨l,b,xs,zs,rfl,rfl,hH,hB,hz,q⟩:=h;cases rx;cases ry;obtain ⟨z,its,n,r,hl,e⟩:=I.lstM hH;obtain ⟨z2,cb,n2,r2,fy,e2⟩:=I.lstM hB;refine PySem.P.add_list e e2 ?_ (by rw [zA8,zA8];lia);have ea:its.toArray++cb.toArray=(its++cb).toArray:=by simp
 rw [ea];exact ⟨.ref _,_,I.lnew (t':=s.toks) (r.append r2) (by rw [zA2];lia),rfl,q _ I.fresh⟩
inductive RRepI (x:V)(y:V)(H:Hp)(Q:VK):Prop
 | mk:∀ l k xs,(x=.ref l)->(y=.int k)->(H l=some (.lst xs))->(-(2 ^ 63)<=k)->(k < 2 ^ 63)->(xs.length * k.toNat<=sizeLine)->(∀ p,H p=none->Q (.ref p) (upd H p (.lst (List.replicate k.toNat xs).flatten)))->RRepI  x y H Q
def JL:R2:=fun x y H Q=>RRepI  x y H Q
theorem len_rep {α:Type}(xs:List α)(k:Nat):(List.replicate k xs).flatten.length=k * xs.length:=by
 induction k with
 | zero=>simp
 | succ k ih=>rw [List.replicate_succ,List.flatten_cons,zA2,ih,Nat.succ_mul,Nat.add_comm]
theorem Gm:OpR X (binaryOp .Mult) JL:=by
 intro pins s σ H x y v u Q I rx ry h;obtain ⟨l,k,xs,rfl,rfl,hH,h1,h2,hz,q⟩:=h;cases rx;obtain ⟨t,rfl⟩:=ry;obtain ⟨z,its,n,r,hl,e⟩:=I.lstM hH;have hlen:its.toArray.size * k.toNat<=sizeLine:=by rw [zA8,<- hl];exact hz
 have tI:¬ its.toArray.size * k.toNat > (2 ^ 63 - 1) / 8:=by
  have:(sizeLine:Nat)<=(2 ^ 63 - 1) / 8:=by decide
  lia
 have tJ:¬ (!Builtin.List.listFitsIndex k)=true:=by
  rw [fitsIndex_both h1 h2];exact zAg
 have dS:¬ Builtin.List.listTooLong (its.toArray.size * k.toNat)=true:=by
  rw [jG hlen];exact zAg
 have tN:List.foldl (fun x1 x2=>x1++x2) #[] (List.replicate (if its.toArray.isEmpty=true then 0 else k.toNat) its.toArray)=(List.replicate k.toNat its).flatten.toArray:=by
  have f0:∀ m:Nat,List.foldl (fun x1 x2=>x1++x2) #[] (List.replicate m its.toArray)=(List.replicate m its).flatten.toArray:=fun m=>by
   have:=foldl_rep its m [];rw [List.nil_append] at this;exact this
  rw [f0]
  cases its with
  | nil=>simp
  | cons a r'=>rw [if_neg (by simp)]
 refine wpAny_binaryOp_repeat_ref (T:="list") (U:="int") (by decide) ⟨_,e,rfl⟩ (fun s'=>typeIs_int s' k t) noFill_list_mul F.fills_int_mul F.slot_int_rmul repeat_list F.slot_int_index.lookup
  (call_meets F.slot_int_rmul (typeIs_int s k t) F.entry_int_rmul (F.args_int_rmul_2 _ _) (int___rmul___int_list k t l its.toArray n)
   ⟨e,rfl,⟨_,e,rfl⟩,call_meets F.slot_list_mul ⟨_,e,rfl⟩ F.entry_list_mul (F.args_list_mul_2 _ _) (AutoListH.list___mul___list_int_3 l its.toArray n k t tJ tI dS) ⟨e,?_⟩⟩)
 rw [tN];exact ⟨.ref _,_,I.lnew (t':=s.toks) (r.rep k.toNat) (by rw [len_rep,Nat.mul_comm];exact hz),rfl,q _ I.fresh⟩
end
section
variable {prog:Program}{w:World}{A:Around}{E:Value->Shared->Prop}{s:Shared}
set_option maxRecDepth 100000 in
end
section
variable {X:Cx}
end
end L2
namespace Att
open PySem PySem.W PySem.Calls PyProof.Rows
theorem mq {P:Params}{h:Heap}:∀ (ns:List Int) (vs:List Value),WellAll P h vs (ns.map WData.int)->IntsAre vs ns:=by
 intro ns
 induction ns with
 | nil =>
  intro vs w;rw [List.map_nil] at w;cases w;exact .nil
 | cons n ns ih =>
  intro vs w;rw [zAk] at w
  cases w with
  | cons a b =>
   cases a;exact .cons _ _ (ih _ b)
theorem yJ {l:OpenLaw}{n:Nat}(hn:l.most=some n){P:Params}{h:Heap}{args:List WData}{vals:List Value}
  (nN:l.row.toRowW.claim.pre args=true) (FY:WellAll P h vals args) :
  ∃ a vs ns,vals=[Value.ref a]/\args=[WData.list (ns.map WData.int)]/\h.get? a=some { cls:=.type "list",data:=.seq vs.toArray }/\IntsAre vs ns/\ns.length<=n:=by
 have Pl:WShape.hasAll [] args [.list .int]=true:=(pre_splitW nN).1;have hc:l.pre.holds [] { args:=args }=true:=(pre_splitW nN).2;obtain ⟨d,r,rfl,h1,h2⟩:=hasAllW_cons Pl;obtain rfl:=hasAllW_nil h2;obtain ⟨xs,rfl,h3⟩:=hasW_list h1;obtain ⟨ns,rfl⟩:=items_int h3
 have hlen:ns.length<=n:=by
  unfold OpenLaw.pre at hc
  have h4:(WTm.not (.lt (.lit (.int (n:Int))) (.len (.arg 0)))).holds [] { args:=[.list (ns.map .int)] }=true:=by
   have h4:=(holds_andW hc).1;rw [hn] at h4;exact h4
  have h5:=condW_of h4 (w_not (w_lt w_lit (w_len_list (w_arg rfl))));rw [zA1] at h5;refine Nat.le_of_not_lt fun q=>?_;have q':(n:Int) < ((ns.length:Nat):Int):=by lia
  first
   | (rw [zAt q'] at h5;exact absurd h5 (by decide))
   | (simp at h5;lia)
 cases FY with
 | cons w1 w2 =>
  cases w2
  cases w1 with
  | list ho gN=>exact ⟨_,_,ns,rfl,rfl,ho,mq ns _ gN,hlen⟩
theorem yK (l:OpenLaw)(args:List WData):l.row.toRowW.claim.post args (.bool true) args=true :=
 postW_of (r:=l.row.toRowW) (X:=(true == true))
  (show WShape.has [] (.bool true) .bool=true by first | rfl | decide | simp [WShape.has,WShape.arms,WShape.armsAll])
  (show (WTm.eq .res (.lit (.bool true))).value [] { args:=args,res:=some (.bool true),after:=args }=some (.bool (true == true)) from w_eq_bool (w_res rfl) w_lit) rfl
theorem attach_call {l:OpenLaw}{n:Nat}{q:Program}{loose:List Str}{XP:(Str->Option Value)->Heap->Prop}{YP:World->Heap->Prop}{d:DefRec}
  (hn:l.most=some n) (AM:d.params.defaults=[])
  (call:∀ (w:World) (s₀ s₁:Shared) (mg mb:Str->Option Value) (fa:Addr) (o:Obj) (pm cd doc:Value) (a:Addr) (vs:List Value) (ns:List Int),
   Ground q loose [] XP w s₀ mg mb s₁.heap->YP w s₁.heap ->
   s₁.heap.get? fa=some o->o.data=.func (docDef d.name d.params d.body d.scope pm cd doc)->s₁.heap.CodeRec cd d.name->mg d.name=some (.ref fa) ->
   s₁.heap.get? a=some { cls:=.type "list",data:=.seq vs.toArray }->IntsAre vs ns->ns.length<=n->s₁.gens=#[] ->
   codeAny (model l.prog w) callerA (.call (.ref fa) ⟨[.ref a],[]⟩) (fun r s'=>r=.ok (.ret (.bool true))/\OldK s₁.heap s'.heap/\s'.os=s₁.os/\AllBare s'.gens) s₁) :
  WalkO q loose XP YP l.row.toRowW d [] (fun f vs=>PySem.call f vs):=by
 intro w s₀ s₁ mg mb G Y fa o pm cd doc dV kV ho hd kN hD hmg hg args vals as nN Pm D5 FY cE;obtain rfl:dV=.none:=Dflts.none hD AM;obtain rfl:kV=.none:=Dflts.noKw hD;obtain ⟨a,vs,ns,rfl,rfl,tP,hints,hlen⟩:=yJ hn nN FY;refine enter_call (codeAny_mono (call w s₀ s₁ mg mb fa o pm cd doc a vs ns G Y ho (fd_plain hd) kN hmg tP hints hlen hg) fun r s' hq=>?_);obtain ⟨rfl,h2,h3,h4⟩:=hq;exact ⟨.inl ⟨.bool true,.bool true,[],rfl,fun _=>rfl,.bool true,yK l _,fun _=>⟨List.Pairwise.nil,fun _ hm=>(nomatch hm)⟩⟩,h2,h3,h4⟩
section
variable {prog:Program}{w:World}{A:Around}{E:Value->Shared->Prop}{s:Shared}{K:Frag}
end
end Att
namespace L2
open PySem PySem.Spec PyProof.Rows
theorem qj:∀ {vs:List Value} {ns:List Int},IntsAre vs ns->Vals (ns.map V.int) vs
 | _,_,.nil=>.nil
 | _,_,.cons n t h=>.cons ⟨t,rfl⟩ (qj h)
def Only (H:Hp):Prop:=∀ b,H b=none\/∃ o xs,H b=some (.frz o (.lst xs))
theorem Al {P:Program}{w:World}{K:Frag}{mg mb:Str->Option Value}{CX:CXT}{k:Nat}{fa a:Addr}{fd:FuncData}{x:Str}{sp:Sp}{s₁:Shared}{vs:List Value}{ns:List Int}
  (KX:K.In s₁.heap) (MB:s₁.heap.Ns mainGlobals mg) (hb:s₁.heap.Ns builtinsNs mb) (Pn:∀ x:Str,x≠"__name__" -> mb x=bootBuiltins x) (F1:s₁.heap.NoLimit) (hg:s₁.gens=#[])
  (ha:s₁.heap.get? a=some { cls:=.type "list",data:=.seq vs.toArray }) (hi:IntsAre vs ns) (hl:ns.length<=sizeLine) (hr:Room k callerA)
  (F:∀ base:Heap,K.In base->base.Ns mainGlobals mg->FnOk P w K mg base CX k fa fd [x] sp) (AN:∀ (s:Shared) (u:Value),BindsTo s fd ⟨[u],[]⟩ [(x,u)])
  (qE:∀ H:Hp,Only H->SqL K H a (ns.map V.int)->sp [.ref a] H (fun v _=>v=.bl true) fun _ _ _=>False)
  (F2:∀ H e s',CX [] H s₁ (fun _ _ _=>False) e s'->False) :
  codeAny (model P w) callerA (.call (.ref fa) ⟨[.ref a],[]⟩) (fun r s'=>r=.ok (.ret (.bool true))/\OldK s₁.heap s'.heap/\s'.os=s₁.os/\AllBare s'.gens) s₁:=by
 have rv:=qj hi;have F3:=hi.length
 have core:∀ H:Hp,Only H->SqL K H a (ns.map V.int)->HOk P w H s₁.heap->(∀ b,H b≠none->b=a)->(H a≠none->K.lookup a=none) ->
   codeAny (model P w) callerA (.call (.ref fa) ⟨[.ref a],[]⟩) (fun r s'=>r=.ok (.ret (.bool true))/\OldK s₁.heap s'.heap/\s'.os=s₁.os/\AllBare s'.gens) s₁:=by
  intro H hO hS hok hA hK;have iE:∀ {b:Addr} {o:Obj},s₁.heap.get? b=some o->H b=none->(qZ s₁.heap H).get? b=some o:=fun e n=>Aa e n
  have AI:∀ {b:Addr} {o:Obj} {es:Array DictEntry} {ep:Nat},s₁.heap.get? b=some o->o.data=.dict es ep->H b=none:=fun {b o es ep} e d=>by
   cases q:H b with
   | none=>rfl
   | some u =>
    have e':b=a:=hA b (by rw [q];simp);subst e';rw [ha] at e;cases e;have d':Data.seq vs.toArray _=Data.dict es ep:=d;cases d'
  have D6:∀ {b:Addr} {m:Str->Option Value},s₁.heap.Ns b m->(qZ s₁.heap H).Ns b m:=fun {b m} ⟨o,es,ep,e,d,r⟩=>⟨o,es,ep,iE e (AI e d),d,r⟩
  have MC:K.In (qZ s₁.heap H):=fun b o e=>iE (KX b o e) (by
   cases q:H b with
   | none=>rfl
   | some u =>
    have e':b=a:=hA b (by rw [q];simp);subst e'
    rw [hK (by rw [q];simp)] at e;cases e)
  have hM:Mod K mg (qZ s₁.heap H):=⟨MC,D6 MB,⟨mb,D6 hb,Pn⟩,let ⟨mc,h1,h2⟩:=F1;⟨mc,D6 h1,h2⟩⟩
  have e0:Env0 P w K mg (qZ s₁.heap H) callerA [] s₁ H:=⟨rfl,hM,fun b o e=>Dp e,Nat.le_of_eq (yw _ _),trivial,fun b hb=>absurd (show b∈([]:List Addr) from hb) (by simp),hok,.of_eq hg⟩
  refine codeAny_mono ((F _ MC (D6 MB)).run callerA [] s₁ H ⟨[.ref a],[]⟩ [.ref a] [.ref a] _ _ hr e0 (AN s₁ (.ref a)) (.cons rfl .nil) (qE H hO hS)) fun r s' h=>?_
  cases r with
  | error e=>exact (F2 H e s' h).elim
  | ok fl =>
   cases fl with
   | next=>exact False.elim h
   | brk=>exact False.elim h
   | cont=>exact False.elim h
   | ret u =>
    obtain ⟨v,H',os,bare,un,F4,r',q⟩:=h;have q':v=.bl true:=q;subst q';obtain rfl:u=Value.bool true:=r';refine ⟨rfl,OldK.of_keep fun b o e=>?_,os,bare⟩
    cases q:H b with
    | none=>exact un.keep b o e q (by intro z;exact absurd (show b∈([]:List Addr) from z) (by simp)) (by simp)
    | some u =>
     rcases hO b with z | ⟨ob,xs,z⟩
     ·rw [q] at z;cases z
     ·have z2:=un.frzs b ob _ z;obtain ⟨e1,_⟩:=hok b _ z;obtain ⟨e2,_⟩:=F4 b _ z2;rw [e] at e1;cases e1;exact e2
 cases hk:K.lookup a with
 | some o =>
  have e:=KX a o hk;rw [ha] at e;cases e;refine core (fun _=>none) (fun _=>.inl rfl) (.inr ⟨_,vs.toArray,_,hk,rfl,rfl,rfl,by rw [List.size_toArray,F3];exact hl,by simpa using rv⟩) (fun b u z=>by have z':(none:Option HO)=some u:=z;cases z') (fun b z=>absurd rfl z) fun z=>absurd rfl z
 | none =>
  refine core (fun b=>if b=a then some (.frz { cls:=.type "list",data:=.seq vs.toArray } (.lst (ns.map V.int))) else none) (fun b=>?_) (.inl (.inr ⟨{ cls:=.type "list",data:=.seq vs.toArray },zAx rfl⟩)) (fun b u z=>?_) (fun b z=>?_) fun _=>hk
  ·by_cases hb:b=a
   ·exact .inr ⟨_,_,zAx hb⟩
   ·exact .inl (zAw hb)
  ·by_cases hb:b=a
   ·have z':=(zAx hb).symm.trans z;cases z';subst hb;exact ⟨ha,by rw [zA1];exact hl,vs,_,rv,ha⟩
   ·have z':=(zAw hb).symm.trans z;cases z'
  ·by_cases hb:b=a
   ·exact hb
   ·exact absurd (zAw hb) z
theorem walk_of {l:PySem.W.OpenLaw}{n k:Nat}{q:Program}{loose:List Str}{XP:(Str->Option Value)->Heap->Prop}{YP:World->Heap->Prop}{d:DefRec}{K:Params->Frag}{CX:World->CXT}{sp:World->Sp}{x:Str}
  (hn:l.most=some n) (jv:n<=sizeLine) (AM:d.params.defaults=[]) (hr:Room k callerA)
  (hY:∀ (w:World) (h:Heap),YP w h->(K w.params).In h)
  (F:∀ (w:World) (mg:Str->Option Value) (fa:Addr) (h:Heap),(K w.params).In h->h.Ns mainGlobals mg->mg d.name=some (.ref fa) ->
   ∃ fd:FuncData,(∀ (s:Shared) (u:Value),BindsTo s fd ⟨[u],[]⟩ [(x,u)]) /\
    ∀ base:Heap,(K w.params).In base->base.Ns mainGlobals mg->FnOk l.prog w (K w.params) mg base (CX w) k fa fd [x] (sp w))
  (qE:∀ (w:World) (H:Hp) (a:Addr) (ns:List Int),ns.length<=n->Only H->SqL (K w.params) H a (ns.map V.int)->sp w [.ref a] H (fun v _=>v=.bl true) fun _ _ _=>False)
  (F2:∀ (w:World) (H:Hp) (s:Shared) (e:Value) (s':Shared),CX w [] H s (fun _ _ _=>False) e s'->False) :
  PySem.W.WalkO q loose XP YP l.row.toRowW d [] (fun f vs=>PySem.call f vs):=by
 refine Att.attach_call hn AM fun w s₀ s₁ mg mb fa o pm cd doc a vs ns G Y ho hd kN hmg tP hints hlen hg=>?_;have KX:=hY w _ Y;obtain ⟨fd,hb,hF⟩:=F w mg fa _ KX G.T.g hmg;exact Al KX G.T.g G.T.b G.T.builtins G.T.nolimit hg tP hints (Nat.le_trans hlen jv) hr hF hb (fun H hO hS=>qE w H a ns hlen hO hS) fun H e s'=>F2 w H s₁ e s'
def gj (s:Stmt):Arguments:=match s with
 | .FunctionDef _ a _ _ _ _ _ _ _ _=>a
 | _=>{ posonlyargs:=[],args:=[],vararg:=none,kwonlyargs:=[],kw_defaults:=[],kwarg:=none,defaults:=[] }
def fH (s:Stmt):List Stmt:=match s with
 | .FunctionDef _ _ b _ _ _ _ _ _ _=>b
 | _=>[]
def aG (s:Stmt):Scope:=match s with
 | .FunctionDef _ _ _ _ _ _ sc _ _ _=>sc
 | _=>{ kind:=.function,names:=[],isGenerator:=false,isCoroutine:=false }
abbrev CX0:CXT:=fun _ _ _ _ _ _=>False
abbrev E0:XK:=fun _ _ _=>False
theorem HR {X:Cx}:vd CX0 X E0:=fun _ _ _ _ _ _ _ h=>h.elim
structure Fun (K:Frag)(x qual:Str)(st:Stmt)(f:Addr)(fd:FuncData):Prop where
 ex:∃ (oc:Value) (od:Option Addr) (kV doc pm:Value) (an:Option Addr) (ar ct:Value) (qB:Array (Option Value)),
  fd=PySem.W.fnOf x qual (gj st) (fH st) (aG st) .none kV doc pm an ar ct/\K.lookup f=some ⟨oc,od,.func fd,qB⟩/\PySem.W.codeIn K ar qual=true
 kp:PySem.W.keepIn K (.ref f)=true
section
variable {P:Program}{w:World}{K:Frag}{mg:Str->Option Value}{base:Heap}{f:Addr}{fd:FuncData}
theorem Fun.ok {x qual:Str}{st:Stmt}{f:Addr}{fd:FuncData}{N ps:List Str}{k:Nat}{sp:Sp}(F:Fun K x qual st f fd)(S:FnScope N ps (aG st))(len:∀ vs H Q E,sp vs H Q E->vs.length=ps.length)
  (kR:∀ (ar:Value) (A:Around) (outer:List Env) (s:Shared) (H:Hp) (vs:List V) (Q:VK) (E:XK),Room k (A.deeper (envOfC qual (aG st) s.heap.objs.size f ar))->sp vs H Q E ->
   ∃ t,PSs (yH CX0 P w K mg base N qual (aG st) f ar A outer s H E).nox (fH st) t/\t { nx:=fun _ H'=>Q .non H',rt:=Q } (start N vs) H):FnOk P w K mg base CX0 (k+1) f fd ps sp:=by
 obtain ⟨oc,od,kV,doc,pm,an,ar,ct,qB,rfl,lk,kN⟩:=F.ex;refine HB lk kN S len fun A outer s H vs Q E hr qE=>?_;obtain ⟨t,h,q⟩:=kR ar A outer s H vs Q E hr qE;exact ⟨t,h.nox,q⟩
theorem Fun.binds {x qual:Str}{st:Stmt}{f:Addr}{fd:FuncData}{ps:List Str}(F:Fun K x qual st f fd)
  (h:∀ (kV doc pm:Value) (an:Option Addr) (ar ct:Value) (us:List Value),us.length=ps.length->bindArgs (PySem.W.fnOf x qual (gj st) (fH st) (aG st) .none kV doc pm an ar ct) ⟨us,[]⟩=pure (ps.zip us)):Binds K fd ps []:=by
 obtain ⟨oc,od,kV,doc,pm,an,ar,ct,qB,rfl,lk,kN⟩:=F.ex;exact .all (h kV doc pm an ar ct)
theorem Am {x qual:Str}{st:Stmt}{f:Addr}{oc:Value}{od an:Option Addr}{qB:Array (Option Value)}{kV doc pm ar ct:Value}(l:K.lookup f=some ⟨oc,od,.func (PySem.W.fnOf x qual (gj st) (fH st) (aG st) .none kV doc pm an ar ct),qB⟩)
  (c:PySem.W.codeIn K ar qual=true) (k:PySem.W.keepIn K (.ref f)=true):Fun K x qual st f (PySem.W.fnOf x qual (gj st) (fH st) (aG st) .none kV doc pm an ar ct):=⟨⟨oc,od,kV,doc,pm,an,ar,ct,qB,rfl,l,c⟩,k⟩
end
theorem fW {A:Around}{k:Nat}(hr:Room k A):A.units+1 < cLine:=Nat.lt_of_le_of_lt (Nat.add_le_add_left (by decide:1<=64) _) hr.units
section
variable {X:Cx}
theorem pv (i:Nat){x:Str}{pos:Pos}(hN:X.N[i]?=some x:=by rfl)(hv:Vis X.env.scope x:=by first | exact Or.inl rfl | exact Or.inr (Or.inl rfl) | exact Or.inr (Or.inr rfl))(hd:(x == ("__debug__" : Str))=false:=by decide)
  (kN:(x == ("__classdict__" : Str))=false:=by decide):PE X (.Name x pos) (Dq i):=G9 hN hv hd kN
end
theorem bB {A B:Prop}(h:B):if false=true then A else B:=by
 rw [zAw zAg];exact h
theorem bQ {A B:Prop}(h:A):if true=true then A else B:=by
 rw [zAx rfl];exact h
theorem DQ {c A B:Prop}[Decidable c](h1:c->A)(h2:¬ c->B):if c then A else B:=by
 by_cases h:c
 ·rw [zAx h];exact h1 h
 ·rw [zAw h];exact h2 h
def Same (H H':Hp):Prop:=∀ b o,H b=some o->H' b=some o
theorem Same.refl (H:Hp):Same H H:=fun _ _ h=>h
theorem Same.trans {H H1 H2:Hp}(a:Same H H1)(b:Same H1 H2):Same H H2:=fun c o h=>b c o (a c o h)
theorem Same.free {H H':Hp}(e:Same H H'){l:Addr}(h:H' l=Option.none):H l=Option.none:=by
 cases q:H l with
 | none=>rfl
 | some o =>
  rw [e l o q] at h;cases h
theorem Same.seq {K:Frag}{H H':Hp}{a:Addr}{xs:List V}(e:Same H H')(h:SqL K H a xs):SqL K H' a xs:=by
 rcases h with (h | ⟨o,h⟩) | h
 ·exact .inl (.inl (e _ _ h))
 ·exact .inl (.inr ⟨o,e _ _ h⟩)
 ·exact .inr h
def fX (cells:List (Str×Addr)):List (Str×NameKind)->List (Str×Addr)->List (Str×Addr)
 | [],acc=>acc
 | (n,k)::r,acc=>fX cells r (if k=.free then (n,(cells.lookup n).getD 0)::acc else acc)
theorem qm {env:Env}:∀ (l:List (Str×NameKind)) (acc:List (Str×Addr)),(∀ p∈l,p.2=NameKind.free->(env.cells.lookup p.1).isSome=true) ->
  (forIn l acc fun (x:Str×NameKind) (r:List (Str×Addr))=>(if (x.2 == NameKind.free)=true then do let a <- cellOf env x.1;pure (ForInStep.yield ((x.1,a)::r)) else pure (ForInStep.yield r):Sem (ForInStep (List (Str×Addr)))))=pure (fX env.cells l acc)
 | [],acc,_=>rfl
 | (n,k)::r,acc,h=>by
  rw [List.forIn_cons];have ih:=fun a=>qm (env:=env) r a fun p hp=>h p (List.mem_cons_of_mem _ hp);by_cases hk:k=.free
  ·subst hk;have hs:=h (n,.free) List.mem_cons_self rfl;obtain ⟨c,hc⟩:=Option.isSome_iff_exists.mp hs;have e1:cellOf env n=pure c:=by unfold cellOf;rw [show env.cells.lookup n=some c from hc]
   have e2:fX env.cells ((n,.free)::r) acc=fX env.cells r ((n,c)::acc):=by
    show fX env.cells r (if NameKind.free=NameKind.free then (n,(env.cells.lookup n).getD 0)::acc else acc)=_;rw [zAx rfl,show env.cells.lookup n=some c from hc];rfl
   rw [e2];simp only [beq_self_eq_true,if_true,e1,pure_bind];exact ih _
  ·have hb:(k == NameKind.free)=false:=by simpa using hk
   have e2:fX env.cells ((n,k)::r) acc=fX env.cells r acc:=by
    show fX env.cells r (if k=NameKind.free then _ else acc)=_;rw [zAw hk]
   rw [e2];simp only [hb,Bool.false_eq_true,if_false,pure_bind];exact ih _
theorem mH {scope:Scope}{env:Env}(h:∀ p∈scope.names,p.2=NameKind.free->(env.cells.lookup p.1).isSome=true):closureFor scope env=pure (fX env.cells scope.names []):=by
 have e:=qm (env:=env) scope.names [] h;unfold closureFor;simp only [bind_pure];exact e
theorem tV {cells:List (Str×Addr)}{x:Str}{c:Addr}:∀ (l:List (Str×NameKind)) (acc:List (Str×Addr)),(∀ p∈l,p.2=NameKind.free->(cells.lookup p.1).isSome=true)->(fX cells l acc).lookup x=some c ->
  acc.lookup x=some c\/cells.lookup x=some c
 | [],_,_,h=>.inl h
 | (n,k)::r,acc,hf,h=>by
  have h':(fX cells r (if k=.free then (n,(cells.lookup n).getD 0)::acc else acc)).lookup x=some c:=h;rcases tV r _ (fun p hp=>hf p (List.mem_cons_of_mem _ hp)) h' with e | e
  ·by_cases hk:k=.free
   ·rw [zAx hk] at e;obtain ⟨d,hd⟩:=Option.isSome_iff_exists.mp (hf (n,k) List.mem_cons_self hk);rw [show cells.lookup n=some d from hd] at e;rw [List.lookup_cons] at e
    cases hx:x == n with
    | true =>
     rw [hx] at e;have:x=n:=by simpa using hx
     subst this;exact .inr (hd.trans (by simpa using e))
    | false =>
     rw [hx] at e;exact .inl e
   ·rw [zAw hk] at e;exact .inl e
  ·exact .inr e
theorem tW {cells:List (Str×Addr)}{x:Str}:∀ (l:List (Str×NameKind)) (acc:List (Str×Addr)),((∃ k,(x,k)∈l/\k=NameKind.free)\/(∃ c,acc.lookup x=some c))->∃ c,(fX cells l acc).lookup x=some c
 | [],_,h=>by
  rcases h with ⟨k,hk,_⟩ | h
  ·exact absurd hk (by simp)
  ·exact h
 | (n,k)::r,acc,h=>by
  show ∃ c,(fX cells r (if k=.free then (n,(cells.lookup n).getD 0)::acc else acc)).lookup x=some c;refine tW r _ ?_;rcases h with ⟨k',hk,e⟩ | ⟨c,hc⟩
  ·rcases zAo.mp hk with z | z
   ·cases z;refine .inr ?_;rw [zAx e];exact ⟨_,by rw [List.lookup_cons,beq_self_eq_true]⟩
   ·exact .inl ⟨k',z,e⟩
  ·refine .inr ?_;by_cases hk:k=.free
   ·rw [zAx hk,List.lookup_cons]
    cases hx:x == n with
    | true=>exact ⟨_,rfl⟩
    | false=>exact ⟨c,hc⟩
   ·rw [zAw hk];exact ⟨c,hc⟩
theorem lQ {scope:Scope}{env:Env}{x:Str}{k:NameKind}(hc:∀ p∈scope.names,p.2≠NameKind.cell)(h:(relabel scope env).names.lookup x=some k)(hk:k=.cell\/k=.free):∃ k',(x,k')∈scope.names/\k'=NameKind.free:=by
 have m:=PySem.mem_of_lookup h;obtain ⟨⟨n,k0⟩,hm,e⟩:=zA5.mp m;dsimp only at e;split at e
 ·rename_i c
  cases e
  have:(k0 == NameKind.free)=true:=by
   cases q:(k0 == NameKind.free) with
   | true=>rfl
   | false=>rw [q] at c;simp at c
  exact ⟨k0,hm,by simpa using this⟩
 ·cases e;rcases hk with z | z
  ·exact absurd z (hc _ hm)
  ·exact ⟨_,hm,z⟩
def cxC (X:Cx)(scope:Scope)(Nc:List Str)(C:Addr)(fp:List Addr)(pins:List (Addr×Obj))(s₂:Shared)(H₂:Hp):Cx where
 prog:=X.prog
 w:=X.w
 K:=X.K
 mg:=X.mg
 base:=X.base
 A:=X.A
 N:=Nc
 s₀:=s₂
 H₀:=H₂
 env:=compEnvC scope (fX X.env.cells scope.names []) C X.env
 outer:=X.stack
 stack:=X.stack
 ex:=fp
 fn:=fun _=>false
 calm:=X.calm
 pn:=X.pn++pins
 xe:=fun _ _=>False
def Caps (X:Cx)(bo:Env):List Str->List (Option Nat)->Prop
 | [],[]=>True
 | _::N,none::r=>Caps X bo N r
 | x::N,some i::r=>(X.N[i]?=some x/\(X.env.kindOf x=some .cell\/X.env.kindOf x=some .free)/\bo.cells.lookup x=X.env.cells.lookup x/\(bo.kindOf x=some .cell\/bo.kindOf x=some .free))/\Caps X bo N r
 | _,_=>False
def capσ (σ:St)(src:List (Option Nat)):St:=src.map fun o=>match o with | none=>none | some i=>(σ[i]?).join
theorem Caps.len {X:Cx}{bo:Env}:∀ {N:List Str} {src:List (Option Nat)},Caps X bo N src->src.length=N.length
 | [],[],_=>rfl
 | [],_::_,h=>h.elim
 | _::_,[],h=>h.elim
 | _::N,none::r,h=>by
  have h':Caps X bo N r:=h;have:=Caps.len (N:=N) (src:=r) h';simp [this]
 | _::N,some _::r,h=>by
  have:=Caps.len (N:=N) (src:=r) h.2;simp [this]
theorem Caps.get {X:Cx}{bo:Env}{x:Str}:∀ {N:List Str} {src:List (Option Nat)} {j i:Nat},Caps X bo N src->N[j]?=some x->src[j]?=some (some i) ->
  X.N[i]?=some x/\(X.env.kindOf x=some .cell\/X.env.kindOf x=some .free)/\bo.cells.lookup x=X.env.cells.lookup x/\(bo.kindOf x=some .cell\/bo.kindOf x=some .free)
 | [],[],_,_,_,e,_=>by simp at e
 | [],_::_,_,_,h,_,_=>h.elim
 | _::_,[],_,_,h,_,_=>h.elim
 | _::_,none::_,0,_,_,_,e=>by simp at e
 | _::N,none::r,j+1,_,h,e1,e2=>by
  have h':Caps X bo N r:=h;exact Caps.get (N:=N) (src:=r) (j:=j) h' (by simpa using e1) (by simpa using e2)
 | _::_,some _::_,0,_,h,e1,e2=>by
  simp at e1 e2;subst e1 e2;exact h.1
 | _::_,some _::_,j+1,_,h,e1,e2=>Caps.get (j:=j) h.2 (by simpa using e1) (by simpa using e2)
structure CScope (X:Cx)(scope:Scope):Prop where
 kind:scope.kind=.function
 cell:scope.names.all (fun p=>p.2 != .cell)=true
 names:scope.names.all (fun p=>p.2 != .local || scope.names.lookup p.1 == some .local)=true
 free:scope.names.all (fun p=>p.2 != .free || (X.env.cells.lookup p.1).isSome)=true
section
variable {X:Cx}{scope:Scope}
theorem CScope.hcell (S:CScope X scope):∀ p∈scope.names,p.2≠NameKind.cell:=fun p hp=>by
 have:=List.all_eq_true.mp S.cell p hp;simpa using this
theorem CScope.hnames (S:CScope X scope):∀ p∈scope.names,p.2=.local->scope.names.lookup p.1=some .local:=fun p hp e=>by
 have:=List.all_eq_true.mp S.names p hp;simpa [e] using this
theorem CScope.hfree (S:CScope X scope):∀ p∈scope.names,p.2=NameKind.free->(X.env.cells.lookup p.1).isSome=true:=fun p hp e=>by
 have:=List.all_eq_true.mp S.free p hp;simpa [e] using this
end
def PTs (X:Cx)(ifs:List Expr)(t:TT):Prop :=
 ∀ (pins:List (Addr×Obj)) (s:Shared) (σ:St) (H:Hp) (Q:Bool->Hp->Prop),Inv X pins σ H s->t σ H Q ->
  wpAny (model X.prog X.w) X.A (forIn ifs true fun c r=>if r=true then do let ok <- isTrue c X.env (eval c X.env);pure (ForInStep.yield ok) else pure (ForInStep.yield r)) (TP X pins σ Q) X.xe s
def tX:TT:=fun _ H Q=>Q true H
theorem bu {X:Cx}:PTs X [] tX:=fun _ _ _ H _ I h=>wpAny_tests_nil ⟨H,I,h⟩
theorem gm {X:Cx}{c:Expr}{t:TT}(h:PT X c t):PTs X [c] t:=fun pins s σ H Q I q=>wpAny_tests_one (h pins s σ H Q I q)
theorem rE {prog:Program}{w:World}{A:Around}{R:Result->Shared->Prop}{s:Shared}{elt target iter:Expr}{ifs:List Expr}{scope:Scope}{pos:Pos}{it acc:Value}{env:Env}(I:Nat->Shared->Prop)
  (turn:∀ n s,I n s->wpAny (model prog w) A (pyNext it) (fun r s₁=>match r with
   | none=>R (.ok .next) s₁
   | some v=>wpAny (model prog w) A (letOwnedTupleGo target it v) (fun _ qS=>wpAny (model prog w) A (assign target env v) (fun _ s₂ =>
     wpAny (model prog w) A (forIn ifs true fun c r=>if r=true then do let ok <- isTrue c env (eval c env);pure (ForInStep.yield ok) else pure (ForInStep.yield r)) (fun ok s₃ =>
      if ok=true then wpAny (model prog w) A (eval elt env) (fun x nS =>
       wpAny (model prog w) A (call (.builtin "list.append") [acc,x]) (fun _ AO=>∃ m,m < n/\I m AO) (fun _ _=>False) nS) (fun _ _=>False) s₃
      else ∃ m,m < n/\I m s₃) (fun _ _=>False) s₂) (fun _ _=>False) qS) (fun _ _=>False) s₁) (fun _ _=>False) s)
  (n:Nat) (h:I n s) :
  codeAny (model prog w) A (.compLoop (.ListComp elt [⟨target,iter,ifs,0⟩] scope pos) 0 it acc env) R s:=by
 refine codeAny_loop rfl I (fun n s hI=>?_) n h;show wpAny _ A ((compTurn (.ListComp elt [⟨target,iter,ifs,0⟩] scope pos) 0 it acc env).onRaise (fun x=>do noteFrame x env;theTreesLotGoes x)) _ _ s;refine wpAny_noted ?_;rw [compTurn_list];refine zAv (wpAny_standAt (zAv (wpAny_mono (turn n s hI) (fun r s₁ fz=>?_) fun _ _ h'=>h'.elim)))
 cases r with
 | none=>exact zB1 fz
 | some v =>
  refine zAv (wpAny_mono fz (fun _ qS AQ=>?_) fun _ _ h'=>h'.elim);refine zAv (wpAny_mono AQ (fun _ s₂ kX=>zAv (wpAny_mono kX (fun ok s₃ nV=>?_) fun _ _ h'=>h'.elim)) fun _ _ h'=>h'.elim)
  cases ok with
  | false=>exact zB1 ⟨rfl,nV⟩
  | true =>
   exact zAv (zAv (wpAny_mono nV (fun x nS F5=>zAv (wpAny_mono F5 (fun _ AO F6=>zB1 (zB1 ⟨rfl,F6⟩)) fun _ _ h'=>h'.elim)) fun _ _ h'=>h'.elim))
def jm (J:It)(g:TG)(tt:TT)(te:TE)(Fin:List V->Hp->Prop)(cK:St)(H0:Hp):Prop :=
 ∃ W:Nat->Nat->List V->St->Hp->Prop,(∃ m,W 0 m [] cK H0)/\∀ i m ys σ H,W i m ys σ H->ys.length < sizeLine /\
  ((J.stop i H/\Fin ys H)\/(J.go i H/\∀ x H',J.yld i H x H'->g x σ H' fun aT H2=>tt aT H2 fun b H3 =>
   if b=true then te aT H3 fun y H4=>∃ m',m' < m/\W (i+1) m' (ys++[y]) aT H4 else ∃ m',m' < m/\W (i+1) m' ys aT H3))
theorem j8 {X:Cx}{tg iter elt:Expr}{ifs:List Expr}{scope:Scope}{pos:Pos}{Nc:List Str}{src:List (Option Nat)}{g:TG}{tt:TT}{te:TE}(hc:X.calm=true)(S:CScope X scope)
  (cv:∀ C,Caps X (compEnvC scope (fX X.env.cells scope.names []) C X.env) Nc src)
  (hb:∀ C fp pins s₂ H₂,PG (cxC X scope Nc C fp pins s₂ H₂) tg g/\PTs (cxC X scope Nc C fp pins s₂ H₂) ifs tt/\PE (cxC X scope Nc C fp pins s₂ H₂) elt te)
  {pins:List (Addr×Obj)} {s₂:Shared} {σ:St} {H₂:Hp} {it:Addr} {fp:List Addr} {tn:Nat->Heap->Prop} {J:It} (aw:Inv X pins σ H₂ s₂) (T:Turn X.prog X.w X.K tg J fp it tn) (st:tn 0 s₂.heap) (hf:∀ b∈fp,rB X pins H₂ b)
  {Fin:List V->Hp->Prop} (hW:jm J g tt te Fin (capσ σ src) H₂) {RR:Value->Addr->Result->Shared->Prop} {E:Value->Shared->Prop}
  (Po:∀ D C s' ys H' m,Fin ys H'->H' D=none->Inv X pins σ (upd H' D (.lst ys)) s'->s'.heap.Ns C m->rB X pins (upd H' D (.lst ys)) C->RR (.ref D) C (.ok .next) s') :
  wpAny (model X.prog X.w) X.A (newList []) (fun acc s₃=>wpAny (model X.prog X.w) X.A (newFunctionEnv scope X.env.globals (fX X.env.cells scope.names []) [] X.env.qual none .none (some X.env)) (fun AR nS =>
   codeAny (model X.prog X.w) X.A (.compStart (.ListComp elt [⟨tg,iter,ifs,0⟩] scope pos) 0 (.ref it) acc { AR with scope:=relabel scope X.env }) (RR acc AR.locals) nS) E s₃) E s₂:=by
 refine wpAny_newObj_type (wpAny_newFunctionEnv S.hcell (by intro y hy;simp at hy) (fun fz eC cS=>?_) S.kind);dsimp only at eC cS ⊢;generalize F7:s₂.heap.push { cls:=.type "list",dict:=none,data:=.seq ([]:List Value).toArray }=HH at eC cS ⊢;generalize qV:s₂.heap.objs.size=D at eC cS ⊢;have hC:HH.objs.size=D+1:=by rw [<- F7,Heap.size_push,qV]
 generalize V3:HH.objs.size=C at eC cS hC ⊢;have D7:D≠C:=by lia
 have below:∀ b,b < s₂.heap.objs.size->b≠C/\b≠D:=fun b hb=>by rw [qV] at hb;exact ⟨by rw [hC];exact zB6 (Nat.lt_succ_of_lt hb),zB6 hb⟩
 have bp:∀ {b o},s₂.heap.get? b=some o->b≠C/\b≠D:=fun {b o} e=>below b (zB0 e);have old:∀ b o,s₂.heap.get? b=some o->fz.get? b=some o:=fun b o e=>cS.extBut b o (bp e).1 (zAy _ (F7 ▸ zAy _ e));have nX:fz.get? D=some { cls:=.type "list",data:=.seq ([]:List Value).toArray }:=cS.extBut _ _ D7 (zAy _ (F7 ▸ qV ▸ zB2 _ rfl))
 have Pp:∀ b∈fp,∃ o,s₂.heap.get? b=some o:=fun b hb=>let ⟨o,e,_⟩:=T.obj _ _ st b hb;⟨o,e⟩
 have D8:∀ b∈fp,b≠C/\b≠D:=fun b hb=>let ⟨o,e⟩:=Pp b hb;bp e
 have sub:∀ {x c},(fX X.env.cells scope.names []).lookup x=some c->X.env.cells.lookup x=some c:=fun {x c} e=>by
  rcases tV scope.names [] S.hfree e with z | z
  ·simp at z
  ·exact z
 have Pq:∀ {b o},s₂.heap.get? b=some o->b < D:=fun {b o} e=>by rw [<- qV];exact zB0 e
 have fresh:∀ a,D<=a->H₂ a=none:=fun a ha=>aw.hok.fresh (by rw [qV];exact ha)
 have rb:∀ {x c},X.env.cells.lookup x=some c->∃ o,s₂.heap.get? c=some o:=fun {x c} e=>let ⟨v,o,ho,_⟩:=aw.cell x c e;⟨o,ho⟩
 have F8:∀ b∈frs X.stack,∃ o,s₂.heap.get? b=some o:=fun b hb=>by
  rcases zAo.mp (aw.stkSub b hb) with e | hb
  ·rw [e];obtain ⟨m,⟨o,_,_,ho,_⟩,_⟩:=aw.loc;exact ⟨o,ho⟩
  ·obtain ⟨_,o,ho,_⟩:=aw.funs.mem hb;exact ⟨o,ho⟩
 have F9:∀ a,D<=a->a ∉ frs X.stack:=fun a ha hb=>by
  obtain ⟨o,e⟩:=F8 a hb;exact absurd (zB4 (Pq e) ha) (Nat.lt_irrefl _)
 have MD:∀ b∈fp,b ∉ frs X.stack:=fun b hb z=>by
  obtain ⟨_,f1,f2,_⟩:=hf b hb;rcases zAo.mp (aw.stkSub b z) with e | e
  ·exact f1 e
  ·exact f2 e
 generalize fT:cxC X scope Nc C fp pins s₂ H₂=X';obtain ⟨hg,ht,he⟩:=hb C fp pins s₂ H₂;rw [fT] at hg ht he
 have Pr:X'.Ok:=by
  subst fT;refine ⟨aw.ok.mod,S.kind,aw.ok.glob,aw.ok.blt,?_,?_,?_,?_,aw.ok.hd,aw.ok.frames,.inl rfl,?_,aw.bs,Nat.le_trans aw.ok.bsz aw.sz,?_,MD,aw.stack,aw.stkFree⟩
  ·show s₂.heap.objs.size<=C;lia
  ·exact fun x y c e1 e2=>aw.ok.inj x y c (sub e1) (sub e2)
  ·intro x hx;have hx:(relabel scope X.env).names.lookup x=some .cell\/(relabel scope X.env).names.lookup x=some .free:=hx
   have:∃ k',(x,k')∈scope.names/\k'=NameKind.free:=by
    rcases hx with z | z
    ·exact lQ S.hcell z (.inl rfl)
    ·exact lQ S.hcell z (.inr rfl)
   exact tW scope.names [] (.inl this)
  ·intro x c z;exact absurd z (by show ¬ (false=true);simp)
  ·intro b hb;exact ⟨(D8 b hb).1,fun x c e=>(hf b hb).2.2.2.2.1 x c (sub e)⟩
  ·intro b o e hb;obtain ⟨_,_,_,f3,_⟩:=hf b hb;rcases f3 with z | z
   ·exact aw.ok.noex b o e z
   ·exact absurd (zB4 (zB0 (aw.ok.bs b o e).1) z) (Nat.lt_irrefl _)
 have eP:X'.prog=X.prog:=by subst fT;rfl
 have ew:X'.w=X.w:=by subst fT;rfl
 have eK:X'.K=X.K:=by subst fT;rfl
 have eA:X'.A=X.A:=by subst fT;rfl
 have eE:X'.xe=fun _ _=>False:=by subst fT;rfl
 have eL:X'.env.locals=C:=by subst fT;rfl
 have eN:X'.env=compEnvC scope (fX X.env.cells scope.names []) C X.env:=by subst fT;rfl
 have ec:X'.calm=true:=by subst fT;exact hc
 have eS:X'.s₀=s₂:=by subst fT;rfl
 have eH:X'.H₀=H₂:=by subst fT;rfl
 have ef:X'.fs=frs X.stack:=by subst fT;rfl
 have ex:X'.ex=fp:=by subst fT;rfl
 have ep:X'.pn=X.pn++pins:=by subst fT;rfl
 have I0:Inv X' [] (capσ σ src) H₂ { s₂ with heap:=fz,toks:=s₂.toks+([]:List (Str×Value)).length }:=by
  refine ⟨Pr,by rw [eS],aw.bare,by rw [eS,eH];exact Un.kept old,⟨_,by rw [eL];exact eC,?_⟩,?_,by rw [eL];exact fresh _ (by lia),?_,?_,by rw [eP,ew];exact aw.hok.kept old,?_⟩
  ·intro j x v e1 e2 e3;have e1:Nc[j]?=some x:=by subst fT;exact e1
   have e4:∃ i,src[j]?=some (some i)/\(σ[i]?).join=some v:=by
    unfold capσ at e2;rw [zAb] at e2
    cases q:src[j]? with
    | none=>rw [q] at e2;cases e2
    | some o =>
     rw [q] at e2
     cases o with
     | none=>simp at e2
     | some i=>exact ⟨i,rfl,by simpa using e2⟩
   obtain ⟨i,e5,e6⟩:=e4;obtain ⟨c1,c2,c3,c4⟩:=(cv C).get e1 e5
   have e7:σ[i]?=some (some v):=by
    cases q:σ[i]? with
    | none=>rw [q] at e6;simp at e6
    | some o=>rw [q] at e6;simp at e6;rw [e6]
   obtain ⟨m,_,hl⟩:=aw.loc;obtain ⟨u,r,l⟩:=hl i x v c1 e7 (.inr (by rcases c2 with z | z;exact .inl z;exact .inr z));refine ⟨u,r,?_⟩;rcases l with ⟨k,_⟩ | ⟨_,c,e,z⟩
   ·rcases c2 with c2 | c2 <;> (rw [k] at c2;cases c2)
   ·refine .inr ⟨by rw [eN];exact c4,c,by rw [eN];exact c3.trans e,?_⟩;obtain ⟨o,ho,hd⟩:=z;exact ⟨o,old c o ho,hd⟩
  ·intro x c e;rw [eN] at e;obtain ⟨v,o,ho,hd⟩:=aw.cell x c (sub e);exact ⟨v,o,old c o ho,hd⟩
  ·intro x c e;rw [eN] at e;exact aw.freeC x c (sub e)
  ·intro p hp;rw [ep,zAn] at hp;obtain ⟨e,n,ne,nf,d⟩:=aw.pin p hp;refine ⟨old _ _ e,n,by rw [eL];exact (bp e).1,?_,d⟩;rw [ef];intro z;rcases zAo.mp (aw.stkSub _ z) with q | q
   ·exact ne q
   ·exact nf q
  ·have:=(cv C).len;subst fT;show (capσ σ src).length=Nc.length;unfold capσ;rw [zA1,this]
 have Pt:∀ p∈X'.pn,p.1≠D:=fun p hp=>by
  rw [ep] at hp;exact (bp (aw.pin p hp).1).2
 have AS:∀ x c,X'.env.cells.lookup x=some c->c≠D:=fun x c e=>by
  rw [eN] at e;obtain ⟨o,ho⟩:=rb (sub e);exact (bp ho).2
 have GA:∀ {P:List (Addr×Obj)} {H:Hp},(∀ p∈P,p.1=D)->(∀ b∈fp,H b=none)->∀ b∈fp,rB X' P H b:=fun {P H} hP hn b hb=>by
  refine ⟨hn b hb,by rw [eL];exact (D8 b hb).1,by rw [ef];exact MD b hb,.inl (by rw [ex];exact hb),fun x c e=>?_,fun p hp=>?_⟩
  ·rw [eN] at e;exact (hf b hb).2.2.2.2.1 x c (sub e)
  ·rcases zA6.mp hp with z | z
   ·rw [ep] at z;exact (hf b hb).2.2.2.2.2 p z
   ·rw [hP p z];exact (D8 b hb).2.symm
 obtain ⟨W,⟨m0,w0⟩,step⟩:=hW
 have loop:∀ s₃:Shared,s₃={ s₂ with heap:=fz,toks:=s₂.toks+([]:List (Str×Value)).length } ->
   codeAny (model X.prog X.w) X.A (.compLoop (.ListComp elt [⟨tg,iter,ifs,0⟩] scope pos) 0 (.ref it) (.ref D) (compEnvC scope (fX X.env.cells scope.names []) C X.env)) (RR (.ref D) C) s₃:=by
  rintro s₃ rfl
  refine rE (fun n s'=>∃ i ys us k ai H',Inv X' [] ai H' s'/\tn i s'.heap/\(∀ b∈fp,H' b=none)/\H' D=none/\s'.heap.get? D=some { cls:=.type "list",data:=.seq (List.toArray us) k }/\Vals ys us/\W i n ys ai H') ?_ m0
   ⟨0,[],[],_,_,_,I0,T.keep _ _ _ st fun b _ o e=>old b o e,fun b hb=>(hf b hb).1,fresh _ (zA3 _),nX,.nil,w0⟩
  rintro n s3 ⟨i,ys,us,k,kP,H3,I3,iq,AH,tS,Pu,D9,w3⟩;obtain ⟨hsz,tT⟩:=step i n ys kP H3 w3
  have ME:Inv X' [(D,{ cls:=.type "list",data:=.seq us.toArray k })] kP H3 s3:=I3.pins_of fun p hp=>by
   rw [List.mem_singleton.mp hp];exact ⟨Pu,tS,by rw [eL];exact D7,by rw [ef];exact F9 _ (zA3 _),fun v z=>by cases z⟩
  have ua:∀ p∈[(D,({ cls:=.type "list",data:=.seq us.toArray k }:Obj))],p.1=D:=fun p hp=>by rw [List.mem_singleton.mp hp]
  rcases tT with ⟨stop,fin⟩ | ⟨go,turn⟩
  ·-- the end
   have hd:=T.done X' eP ew eK ec i _ s3 kP H3 (fun _ _=>False) ME (GA ua AH) iq stop;rw [eA] at hd;refine thn hd fun r s4 ⟨hr,I4⟩=>?_;subst hr;have pD:=I4.pin (D,{ cls:=.type "list",data:=.seq us.toArray k }) (zBe _ (List.mem_singleton.mpr rfl));obtain ⟨mC,MF,_⟩:=I4.loc;rw [eL] at MF;have rh:=I4.base;rw [eS,eH,ef,ex] at rh;have hlen:ys.length<=sizeLine:=Nat.le_of_lt hsz
   have GB:HOk X.prog X.w (upd H3 D (.lst ys)) s4.heap:=fun b u e=>by
    by_cases hb:b=D
    ·subst hb;rw [aa] at e;cases e;exact ⟨hlen,us,k,D9,pD.1⟩
    ·rw [az hb] at e;have z:=I4.hok b u e;rw [eP,ew] at z
     exact z.stay (fun c v _ q=>q) (fun c q=>by rw [az (au q tS)];exact q) fun c xs q=>by rw [az (au q tS)];exact q
   have un:Un (frs X.stack) fp H₂ (upd H3 D (.lst ys)) s₂.heap s4.heap:=⟨rh.keep,rh.slot,fun b o e n hx=>by rw [az (bp e).2];exact rh.free b o e n hx,rh.there,
    fun b xs e=>by
     have z:=rh.tups b xs e
     rw [az (au z tS)];exact z,
    fun b o u e=>by
     have z:=rh.frzs b o u e
     rw [az (au z tS)];exact z,
    fun b ps e=>by
     obtain ⟨mo,z⟩:=rh.tbls b ps e
     exact ⟨mo,by rw [az (au z tS)];exact z⟩⟩
   have J4:Inv X pins σ (upd H3 D (.lst ys)) s4:=aw.call' (ch:=fp) (by have:=I4.os;rw [eS] at this;exact this) un GB I4.bare fun b hb=>by
    obtain ⟨_,f1,f2,f3,f4,f5⟩:=hf b hb;exact ⟨f3,f1,f4,f5⟩
   refine Po D C s4 ys H3 mC fin tS J4 MF ⟨?_,?_,?_,.inr ?_,?_,?_⟩
   ·rw [az D7.symm];have:=I4.free;rw [eL] at this;exact this
   ·have:=aw.lt;rw [qV] at this;exact Nat.ne_of_gt (zB4 this (by rw [hC];exact Nat.le_succ _))
   ·intro z;obtain ⟨_,o,ho,_⟩:=aw.funs.mem z;exact (bp ho).1 rfl
   ·have:=aw.sz;rw [qV] at this;lia
   ·intro x c e z;obtain ⟨o,ho⟩:=rb e;exact (bp ho).1 z
   ·intro p hp z;exact (bp (aw.pin p hp).1).1 z
  ·-- a turn
   have hd:=T.item X' eP ew eK ec i _ s3 kP H3 (fun _ _=>False) ME (GA ua AH) iq go;rw [eA] at hd;refine thn hd fun r s4 ⟨u,hr,h4⟩=>?_;subst hr;refine thn h4 fun _ s5 ⟨x,H5,I5,r5,y5,sN,FG⟩=>?_;have FH:=I5.pinned (GA ua FG) (T.obj _ _ sN);have MG:=hg _ s5 kP H5 x u _ FH r5 (turn x H5 y5);rw [eP,ew,eA,eE,eN] at MG;refine thn MG fun _ s6 ⟨nK,H6,I6,q6⟩=>?_;have fw:=ht _ s6 nK H6 _ I6 q6;rw [eP,ew,eA,eE,eN] at fw;refine thn fw fun okb s7 ⟨H7,I7,q7⟩=>?_
   have back:∀ {H8:Hp} {s8:Shared},Inv X' ([(D,({ cls:=.type "list",data:=.seq us.toArray k }:Obj))]++nu fp s5.heap) nK H8 s8 ->
     Inv X' [] nK H8 s8/\tn (i+1) s8.heap/\(∀ b∈fp,H8 b=none)/\H8 D=none/\s8.heap.get? D=some { cls:=.type "list",data:=.seq us.toArray k }/\(∀ b∈fp,∀ o,s5.heap.get? b=some o->s8.heap.get? b=some o):=fun {H8 s8} I8=>by
    have pD:=I8.pin (D,{ cls:=.type "list",data:=.seq us.toArray k }) (List.mem_append_right _ (List.mem_append_left _ (List.mem_singleton.mpr rfl)));have pf:∀ b∈fp,∀ o,s5.heap.get? b=some o->s8.heap.get? b=some o:=fun b hb o e=>(I8.pin (b,o) (List.mem_append_right _ (List.mem_append_right _ (gW hb e)))).1;refine ⟨I8.pins_of fun p hp=>absurd hp (by simp),T.keep _ _ _ sN pf,fun b hb=>?_,pD.2.1,pD.1,pf⟩;obtain ⟨o,e,d⟩:=T.obj _ _ sN b hb;exact (I8.pin (b,o) (List.mem_append_right _ (List.mem_append_right _ (gW hb e)))).2.1
   cases okb with
   | false =>
    obtain ⟨b1,b2,b3,b4,b5,_⟩:=back I7;obtain ⟨m',hm,w7⟩:=q7;exact ⟨m',hm,i+1,ys,us,k,nK,H7,b1,b2,b3,b4,b5,D9,w7⟩
   | true =>
    have rj:=he _ s7 nK H7 _ I7 q7;rw [eP,ew,eA,eE,eN] at rj;show wpAny _ _ (eval elt _) _ _ s7;refine thn rj fun xv s8 ⟨y,H8,I8,r8,m',hm,w8⟩=>?_;obtain ⟨b1,b2,b3,b4,b5,b6⟩:=back I8;refine append_at (hsz:=by rw [zA8,<- D9.length];exact Nat.le_of_lt hsz) b5 fun h9 MJ Pw=>?_
    have I9:Inv X' [] nK H8 { s8 with heap:=h9 }:=b1.turned (t':=s8.toks) (fun b o hb e=>MJ.extBut b o hb e) b4 (by rw [eL];exact D7) (.inr (by rw [eS,qV];exact zA3 _)) AS fun p hp=>by
     rw [zAn] at hp;exact Pt p hp
    refine ⟨m',hm,i+1,ys++[y],us++[xv],k+1,nK,H8,I9,T.keep _ _ _ b2 fun b hb o e=>MJ.extBut b o (D8 b hb).2 e,b3,b4,?_,D9.append (.cons r8 .nil),w8⟩;show h9.get? D=_;rw [Pw,List.push_toArray]
 refine codeAny_compStart_list (loop _ rfl) ?_;exact T.self _ 0 _ _ _ (T.keep _ _ _ st fun b _ o e=>old b o e) (loop _ rfl)
def An (wi:TI)(src:List (Option Nat))(g:TG)(tt:TT)(te:TE):TE:=fun σ H Q=>wi σ H fun J H1=>jm J g tt te (fun ys H'=>∀ D,H' D=none->Q (.ref D) (upd H' D (.lst ys))) (capσ σ src) H1
section
variable {X:Cx}{tg iter elt:Expr}{ifs:List Expr}{scope:Scope}{pos:Pos}{Nc:List Str}{wi:TI}{g:TG}{tt:TT}{te:TE}
theorem bC (Nc:List Str)(src:List (Option Nat))(hc:X.calm=true)(hi:PI X tg iter wi)
  (hb:∀ C fp pins s₂ H₂,PG (cxC X scope Nc C fp pins s₂ H₂) tg g/\PTs (cxC X scope Nc C fp pins s₂ H₂) ifs tt/\PE (cxC X scope Nc C fp pins s₂ H₂) elt te)
  (cv:∀ C,Caps X (compEnvC scope (fX X.env.cells scope.names []) C X.env) Nc src) (S:CScope X scope)
  (hs:∀ x,foldedSetIterable iter X.env x=pure x:=by intro _;rfl):PE X (.ListComp elt [⟨tg,iter,ifs,0⟩] scope pos) (An wi src g tt te):=by
 intro pins s σ H Q I h;rw [eval_ListComp];refine wpAny_comprehension_free (use:=none) rfl hs (mH S.hfree) S.kind S.hnames ?_;refine thn (hi pins s σ H _ I h) fun v s1 h1=>thn h1 fun xE s2 h2=>?_;obtain ⟨it,fp,tn,J,H2,e,I2,T,st2,f2,hW⟩:=h2;subst e;refine j8 (RR:=fun acc C=>compPost (model X.prog X.w) X.A X.xe none (EP X pins σ Q) acc C) hc S cv hb I2 T st2 f2 hW ?_;intro D C s' ys H' m fin nD J' hn fC;obtain ⟨f0,f1,_,f3,f4,f5⟩:=fC;refine ⟨m,hn,fun GH gS=>?_⟩;exact ⟨.ref D,_,J'.turned (t':=s'.toks) (fun b o hb e=>gS.extBut b o hb e) f0 f1 f3 f4 f5,rfl,fin D nD⟩
def Gn (wi:TI)(src:List (Option Nat))(g:TG)(tt:TT)(te:TE)(i:Nat):TS:=fun D σ H=>An wi src g tt te σ H fun v H'=>D.nx (σ.set i (some v)) H'
theorem fJ {i:Nat}{x:Str}{pos' lh:Pos}(Nc:List Str)(src:List (Option Nat))(hc:X.calm=true)(hN:X.N.Nodup)(fx:X.N[i]?=some x)(hx:Loc X.env.scope x)(hi:PI X tg iter wi)
  (hb:∀ C fp pins s₂ H₂,PG (cxC X scope Nc C fp pins s₂ H₂) tg g/\PTs (cxC X scope Nc C fp pins s₂ H₂) ifs tt/\PE (cxC X scope Nc C fp pins s₂ H₂) elt te)
  (cv:∀ C,Caps X (compEnvC scope (fX X.env.cells scope.names []) C X.env) Nc src) (S:CScope X scope)
  (GI:swapsWith (.ListComp elt [⟨tg,iter,ifs,0⟩] scope pos) (some (.Name x pos')) lh.line X.env=pure true:=by rfl)
  (hf:X.fn x=true\/X.env.scope.names.lookup x=some .local:=by first | exact .inl rfl | exact .inr rfl | assumption)
  (hs:∀ x,foldedSetIterable iter X.env x=pure x:=by intro _;rfl):PS X (.Assign [.Name x pos'] (.ListComp elt [⟨tg,iter,ifs,0⟩] scope pos) lh) (Gn wi src g tt te i):=by
 intro pins s σ H D I h;rw [exec_Assign_Name_used _ _ _ _ GI];refine zAv (wpAny_standAt (zAv ?_));show wpAny _ _ (do let _ <- comprehension (.ListComp elt [⟨tg,iter,ifs,0⟩] scope pos) scope X.env _ (newList []) false (eval iter X.env) (some (assign (.Name x pos') X.env))) _ _ s;refine zAv (thn (wpAny_comprehension_free (use:=some (assign (.Name x pos') X.env)) (Q:=fun _ s'=>∃ ai H',Inv X pins ai H' s'/\D.nx ai H') rfl hs (mH S.hfree) S.kind S.hnames ?_) fun _ s' hq=>zB1 (zB1 hq));refine thn (hi pins s σ H _ I h) fun v s1 h1=>thn h1 fun xE s2 h2=>?_;obtain ⟨it,fp,tn,J,H2,e,I2,T,st2,f2,hW⟩:=h2;subst e;refine j8 (RR:=fun acc C=>compPost (model X.prog X.w) X.A X.xe (some (assign (.Name x pos') X.env)) (fun _ s'=>∃ ai H',Inv X pins ai H' s'/\D.nx ai H') acc C) hc S cv hb I2 T st2 f2 hW ?_;intro A C s' ys H' m fin nD J' hn fC;obtain ⟨f0,f1,Px,f3,f4,f5⟩:=fC;refine wpAny_assign_Name (kY J' hN fx hx (v:=.ref A) rfl (fun nL GL GN=>?_) hf)
 have jv:∃ m',nL.heap.Ns C m':=by
  obtain ⟨a,sb,ha⟩:=GN
  have fA:C≠a:=by
   rcases ha with z | z
   ·rw [z];exact f1
   ·exact fun q=>f4 x a z q.symm
  exact ⟨m,hn.sameBut sb fA⟩
 obtain ⟨m',jv⟩:=jv;refine ⟨m',jv,fun GH gS=>?_⟩;exact ⟨_,_,GL.turned (t':=nL.toks) (fun b o hb e=>gS.extBut b o hb e) f0 f1 f3 f4 f5,fin A nD⟩
end
section
variable {X:Cx}
theorem iK:dJ X (.builtin "isinstance") (fun xs H Q=>∃ x t n b,xs=[x,.ty n]/\TyOf X.K H x t/\PySem.W.kitOne X.K t (.type n)=some b/\Q (.bl b) H):=by
 intro pins s σ H xs us Q I r h;obtain ⟨x,t,n,b,rfl,ty,e,q⟩:=h;obtain ⟨u,c,rfl,ru,rc⟩:=vals2 r;obtain rfl:c=Value.type n:=rc
 exact yG I ru ty e fun tk=>⟨.bl b,H,I.tok _,rfl,q⟩
theorem tY {prog:Program}{w:World}{A:Around}(bs:List Bool):TruthOf prog w A (fun i v=>∃ b,bs[i]?=some b/\v=Value.bool b) (fun i=>(bs[i]?).getD false):=by
 intro i v s Q E hP hQ;obtain ⟨b,hb,rfl⟩:=hP;dsimp only at hQ;rw [hb] at hQ;exact wpAny_truthy_bool hQ
theorem all_range (bs:List Bool):(List.range bs.length).all (fun i=>(bs[i]?).getD false)=bs.all id:=by
 apply Bool.eq_iff_iff.mpr;rw [List.all_eq_true,List.all_eq_true];constructor
 ·intro h b hb;obtain ⟨i,hi,e⟩:=List.getElem_of_mem hb;have:=h i (List.mem_range.mpr hi);rw [zA0 hi,e] at this;exact this
 ·intro h i hi;have hi:=List.mem_range.mp hi;rw [zA0 hi];exact h _ (zAh hi)
theorem nH:∀ {bs:List Bool} {us:List Value},Vals (bs.map V.bl) us->us=bs.map Value.bool
 | [],_,.nil=>rfl
 | _::bs,_,.cons r t=>by
  rw [nH (bs:=bs) t,show _=Value.bool _ from r];rfl
theorem fY (hc:X.calm=true):dJ X (.builtin "all") (fun xs H Q=>∃ (p:Addr) (bs:List Bool),xs=[.ref p]/\SqL X.K H p (bs.map V.bl)/\Q (.bl (bs.all id)) H):=by
 intro pins s σ H xs us Q I r h;obtain ⟨p,bs,rfl,hq,q⟩:=h;obtain ⟨u,rfl,ru⟩:=vals1 r;cases ru;obtain ⟨its,rv,pl,hz⟩:=I.list hq;have ei:=nH rv;subst ei;have ax:p < s.heap.objs.size:=by obtain ⟨_,e,_⟩:=pl.isList;exact zB0 e
 refine call_all_walk (wpAny_pyIter_list pl.isList ?_);have W:=Walks.list (prog:=X.prog) (w:=X.w) (A:=X.A.in1) (I.ok.hd hc) s.heap.objs.size p (zB6 ax) (bs.map Value.bool).toArray;refine ⟨_,_,_,_,_,_,_,rfl,{ sub:=W.sub,frame:=W.frame,item:=fun i s Q E hi st hQ=>W.item i s Q E hi st fun v h' tk hP=>hQ v h' tk ?_,done:=W.done,self:=W.self },⟨⟨_,zB2 _ rfl,rfl,rfl⟩,pl.isList.push _⟩,tY bs,fun h' tk k=>?_⟩
 ·have AU:(bs.map Value.bool).toArray[i]?=some v:=hP;rw [List.getElem?_toArray,zAb] at AU
  cases e:bs[i]? with
  | none=>rw [e] at AU;cases AU
  | some b=>rw [e] at AU;exact ⟨b,rfl,(zAl AU).symm⟩
 ·have hsz:(bs.map Value.bool).toArray.size=bs.length:=by simp
  rw [hsz,all_range];refine ⟨.bl _,H,?_,rfl,q⟩;refine I.kept (h':=h') (t':=tk) fun b o e=>k b o ?_ (Heap.get?_push_of_some _ e);intro z;have:b=s.heap.objs.size:=by simpa using z
  exact absurd (zB0 e) (by rw [this];exact Nat.lt_irrefl _)
end
theorem lq {K:Frag}:PySem.W.kitOne K (.type "NoneType") (.type "int")=some false:=by kernel_rfl
theorem jH {K:Frag}:PySem.W.kitOne K (.type "NoneType") (.type "bool")=some false:=by kernel_rfl
theorem jq {K:Frag}:PySem.W.kitOne K (.type "NoneType") (.type "tuple")=some false:=by kernel_rfl
theorem rF {K:Frag}:PySem.W.kitOne K (.type "bool") (.type "int")=some true:=by kernel_rfl
theorem pq {K:Frag}:PySem.W.kitOne K (.type "bool") (.type "bool")=some true:=by kernel_rfl
theorem nJ {K:Frag}:PySem.W.kitOne K (.type "bool") (.type "tuple")=some false:=by kernel_rfl
theorem tZ {K:Frag}:PySem.W.kitOne K (.type "int") (.type "int")=some true:=by kernel_rfl
theorem rG {K:Frag}:PySem.W.kitOne K (.type "int") (.type "bool")=some false:=by kernel_rfl
theorem pC {K:Frag}:PySem.W.kitOne K (.type "int") (.type "tuple")=some false:=by kernel_rfl
theorem u0 {K:Frag}:PySem.W.kitOne K (.type "str") (.type "int")=some false:=by kernel_rfl
theorem rH {K:Frag}:PySem.W.kitOne K (.type "str") (.type "bool")=some false:=by kernel_rfl
theorem pF {K:Frag}:PySem.W.kitOne K (.type "str") (.type "tuple")=some false:=by kernel_rfl
theorem rJ {K:Frag}:PySem.W.kitOne K (.type "list") (.type "int")=some false:=by kernel_rfl
theorem pH {K:Frag}:PySem.W.kitOne K (.type "list") (.type "bool")=some false:=by kernel_rfl
theorem nM {K:Frag}:PySem.W.kitOne K (.type "list") (.type "tuple")=some false:=by kernel_rfl
theorem pI {K:Frag}:PySem.W.kitOne K (.type "tuple") (.type "int")=some false:=by kernel_rfl
theorem nO {K:Frag}:PySem.W.kitOne K (.type "tuple") (.type "bool")=some false:=by kernel_rfl
theorem my {K:Frag}:PySem.W.kitOne K (.type "tuple") (.type "tuple")=some true:=by kernel_rfl
theorem rK {K:Frag}:PySem.W.kitOne K (.type "dict") (.type "int")=some false:=by kernel_rfl
theorem pJ {K:Frag}:PySem.W.kitOne K (.type "dict") (.type "bool")=some false:=by kernel_rfl
theorem nP {K:Frag}:PySem.W.kitOne K (.type "dict") (.type "tuple")=some false:=by kernel_rfl
section
variable {κ:Type}[DecidableEq κ]
def d9 (kvs:List (κ×V))(k:κ):Option V:=(kvs.find? fun kv=>decide (kv.1=k)).map (·.2)
def putK (kvs:List (κ×V))(k:κ)(v:V):List (κ×V) :=
 if (kvs.any fun kv=>decide (kv.1=k))=true then kvs.map (fun kv=>if kv.1=k then (kv.1,v) else kv) else kvs++[(k,v)]
theorem cQ {p:κ×V}{r:List (κ×V)}{k:κ}(e:p.1=k):d9 (p::r) k=some p.2:=by simp [d9,List.find?_cons,e]
theorem cR {p:κ×V}{r:List (κ×V)}{k:κ}(e:¬ p.1=k):d9 (p::r) k=d9 r k:=by simp [d9,List.find?_cons,e]
theorem eG (k:κ):∀ kvs:List (κ×V),(kvs.any fun kv=>decide (kv.1=k))=(d9 kvs k).isSome
 | []=>rfl
 | p::r=>by
  rw [List.any_cons];by_cases e:p.1=k
  ·simp only [cQ e,decide_eq_true e,Bool.true_or,Option.isSome_some]
  ·rw [cR e,zAz e,Bool.false_or];exact eG k r
theorem u5 (k j:κ)(y:V):∀ kvs:List (κ×V),d9 (kvs.map fun kv=>if kv.1=k then (kv.1,y) else kv) j=(d9 kvs j).map fun x=>if j=k then y else x
 | []=>rfl
 | p::r=>by
  have ih:=u5 k j y r;rw [zAk];by_cases h:p.1=k
  ·rw [zAx h];by_cases e:p.1=j
   ·rw [cQ (p:=(p.1,y)) e,cQ e,Option.map_some,zAx (e.symm.trans h)]
   ·rw [cR (p:=(p.1,y)) e,cR e,ih]
  ·rw [zAw h];by_cases e:p.1=j
   ·rw [cQ (p:=p) e,cQ e,Option.map_some,zAw (fun z=>h (e.trans z))]
   ·rw [cR (p:=p) e,cR e,ih]
theorem qp (k j:κ)(y:V):∀ kvs:List (κ×V),d9 kvs k=none->d9 (kvs++[(k,y)]) j=if j=k then some y else d9 kvs j
 | [],_=>by
  by_cases e:k=j
  ·rw [zAx e.symm];exact cQ (p:=(k,y)) e
  ·rw [zAw (fun z=>e z.symm)];exact cR (p:=(k,y)) e
 | p::r,hn=>by
  rw [List.cons_append]
  have hk:¬ p.1=k:=fun z=>by rw [cQ z] at hn;cases hn
  rw [cR hk] at hn;have ih:=qp k j y r hn;by_cases e:p.1=j
  ·rw [cQ e,cQ e,zAw (fun z=>hk (e.trans z))]
  ·rw [cR e,cR e,ih]
theorem iM (kvs:List (κ×V))(k j:κ)(y:V):d9 (putK kvs k y) j=if j=k then some y else d9 kvs j:=by
 unfold putK;by_cases a:(kvs.any fun kv=>decide (kv.1=k))=true
 ·rw [zAx a,u5];rw [eG] at a;by_cases e:j=k
  ·obtain ⟨x,hx⟩:=Option.isSome_iff_exists.mp a;rw [zAx e,e,hx,Option.map_some,zAx rfl]
  ·rw [zAw e]
   cases d9 kvs j with
   | none=>rfl
   | some x=>rw [Option.map_some,zAw e]
 ·rw [zAw a];refine qp k j y kvs ?_;rw [eG] at a
  cases q:d9 kvs k with
  | none=>rfl
  | some x=>rw [q] at a;exact (a rfl).elim
theorem lU (kvs:List (κ×V))(k:κ)(v:V):(putK kvs k v).length<=kvs.length+1:=by
 unfold putK;split
 ·rw [zA1];lia
 ·rw [zA2,zAe,List.length_nil];lia
theorem jJ {kvs:List (κ×V)}{k:κ}(v:V)(h:d9 kvs k=none):putK kvs k v=kvs++[(k,v)]:=by
 unfold putK;rw [eG,h];exact zAw (by decide)
theorem RelO.isSome_eq {o:Option V}{u:Option Value}(r:RelO o u):o.isSome=u.isSome:=by
 cases o with
 | none=>cases u with
  | none=>rfl
  | some _=>exact (show False from r).elim
 | some _=>cases u with
  | none=>exact (show False from r).elim
  | some _=>rfl
theorem KV.val {kvs:List (κ×V)}{vs:List (κ×Value)}(r:KV kvs vs)(k:κ):RelO (d9 kvs k) (valueAt vs k):=by
 unfold KV at r
 induction r with
 | nil=>exact True.intro
 | @cons p q ps qs h t ih =>
  obtain ⟨h1,h2⟩:=h;by_cases e:p.1=k
  ·have e':q.1=k:=h1.symm.trans e;have b:valueAt (q::qs) k=some q.2:=by simp [valueAt,List.find?_cons,e']
   rw [cQ e,b];exact h2
  ·have e':¬ q.1=k:=fun z=>e (h1.trans z);have b:valueAt (q::qs) k=valueAt qs k:=by simp [valueAt,List.find?_cons,e']
   rw [cR e,b];exact ih
theorem KV.any {kvs:List (κ×V)}{vs:List (κ×Value)}(r:KV kvs vs)(k:κ):(kvs.any fun kv=>decide (kv.1=k))=vs.any fun kv=>decide (kv.1=k):=by
 unfold KV at r
 induction r with
 | nil=>rfl
 | cons h t ih=>rw [List.any_cons,List.any_cons,ih,h.1]
theorem KV.repl {kvs:List (κ×V)}{vs:List (κ×Value)}(r:KV kvs vs)(k:κ){y:V}{u:Value}(ry:RelV y u) :
  KV (kvs.map fun kv=>if kv.1=k then (kv.1,y) else kv) (vs.map fun kv=>if kv.1=k then (kv.1,u) else kv):=by
 unfold KV at r ⊢
 induction r with
 | nil=>exact .nil
 | @cons p q ps qs h t ih =>
  rw [zAk,zAk];refine .cons ?_ ih;obtain ⟨h1,h2⟩:=h;by_cases e:p.1=k
  ·rw [zAx e,zAx (h1.symm.trans e)];exact ⟨h1,ry⟩
  ·rw [zAw e,zAw (fun z=>e (h1.trans z))];exact ⟨h1,h2⟩
theorem KV.put {kvs:List (κ×V)}{vs:List (κ×Value)}(r:KV kvs vs)(k:κ){y:V}{u:Value}(ry:RelV y u):KV (putK kvs k y) (stored vs k u):=by
 unfold putK stored;rw [r.any k];by_cases e:(vs.any fun kv=>decide (kv.1=k))=true
 ·rw [zAx e,zAx e];exact r.repl k ry
 ·rw [zAw e,zAw e];exact Paired.snoc r ⟨rfl,ry⟩
theorem KV.length {kvs:List (κ×V)}{vs:List (κ×Value)}(r:KV kvs vs):kvs.length=vs.length:=Paired.length r
end
theorem u6 {P:Program}{w:World}{k:Key}{u:Value}(r:RelV (kV k) u):(cA P w).is k u=true:=by
 cases k with
 | inl i=>obtain ⟨t,e⟩:=(show ∃ t,u=Value.int i t from r);subst e;exact tK P w i t
 | inr x=>obtain ⟨t,e⟩:=(show ∃ t,u=Value.str x t from r);subst e;exact tL P w x t
theorem qt {P:Program}{w:World}:∀ {ks:List Key} {us:List Value},Vals (ks.map kV) us->ItemsAre (cA P w) ks us
 | [],_,r=>by rw [List.map_nil] at r;cases r;exact .nil
 | k::ks,_,r=>by
  rw [zAk] at r
  cases r with
  | cons h t=>exact .cons (u6 h) (qt t)
abbrev KT (H:Hp):List (List Key×V)->List (List Key×Addr×Value)->Prop:=Paired fun p q=>p.1=q.1/\H q.2.1=some (.tup (p.1.map kV))/\RelV p.2 q.2.2
theorem KT.val {H:Hp}{kvs:List (List Key×V)}{xs:List (List Key×Addr×Value)}(r:KT H kvs xs)(k:List Key):RelO (d9 kvs k) ((atKey xs k).map (·.2)):=by
 induction r with
 | nil=>exact True.intro
 | @cons p q ps qs h t ih =>
  obtain ⟨h1,_,h2⟩:=h;by_cases e:p.1=k
  ·have e':q.1=k:=h1.symm.trans e;have b:atKey (q::qs) k=some q.2:=by simp [atKey,List.find?_cons,e']
   rw [cQ e,b];exact h2
  ·have e':¬ q.1=k:=fun z=>e (h1.trans z);have b:atKey (q::qs) k=atKey qs k:=by simp [atKey,List.find?_cons,e']
   rw [cR e,b];exact ih
theorem KT.repl {H:Hp}{kvs:List (List Key×V)}{xs:List (List Key×Addr×Value)}(r:KT H kvs xs)(k:List Key){y:V}{u:Value}(ry:RelV y u) :
  KT H (kvs.map fun kv=>if kv.1=k then (kv.1,y) else kv) (xs.map (putAt k u)):=by
 induction r with
 | nil=>exact .nil
 | @cons p q ps qs h t ih =>
  rw [zAk,zAk];refine .cons ?_ ih;obtain ⟨h1,h2,h3⟩:=h;unfold putAt;by_cases e:p.1=k
  ·rw [zAx e,zAx (h1.symm.trans e)];exact ⟨h1,h2,ry⟩
  ·rw [zAw e,zAw (fun z=>e (h1.trans z))];exact ⟨h1,h2,h3⟩
theorem KT.put {H:Hp}{kvs:List (List Key×V)}{xs:List (List Key×Addr×Value)}(r:KT H kvs xs)(k:List Key){b:Addr}{y:V}{u:Value}(hb:H b=some (.tup (k.map kV)))(ry:RelV y u) :
  KT H (putK kvs k y) (storedH xs k b u):=by
 have e:(kvs.any fun kv=>decide (kv.1=k))=(atKey xs k).isSome:=by
  rw [eG,(r.val k).isSome_eq,Option.isSome_map]
 unfold putK storedH;rw [e];by_cases q:(atKey xs k).isSome=true
 ·rw [zAx q,zAx q];exact r.repl k ry
 ·rw [zAw q,zAw q];exact Paired.snoc r ⟨rfl,hb,ry⟩
theorem KT.keeps {H H':Hp}{kvs:List (List Key×V)}{xs:List (List Key×Addr×Value)}(r:KT H kvs xs)(ht:∀ b ys,H b=some (.tup ys)->H' b=some (.tup ys)):KT H' kvs xs :=
 Paired.mapP r fun _ _ z=>⟨z.1,ht _ _ z.2.1,z.2.2⟩
section
variable {P:Program}{w:World}{H:Hp}{h:Heap}{a:Addr}
theorem FJ {u:HO}(ok:HOk P w H h)(e:Rd H a u):ObjOk P w H h a u:=e.ok ok
theorem u9 {kvs:List (Key×V)}(ok:HOk P w H h)(e:Rd H a (.dK kvs)):kvs.length<=sizeLine/\(a == sysModules)=false/\∃ vs,KV kvs vs/\h.DictOf (cA P w) a vs :=
 show ObjOk P w H h a (.dK kvs) from FJ ok e
theorem HS {kvs:List (Key×V)}(ok:HOk P w H h)(e:H a=some (.dK kvs)):kvs.length<=sizeLine/\(a == sysModules)=false/\∃ vs,KV kvs vs/\h.DictOf (cA P w) a vs:=u9 ok (.inl e)
theorem nQ {ks:List Key}(ok:HOk P w H h)(e:H a=some (.tup (ks.map kV))):(tupleKind (cA P w)).is h ks a:=by
 obtain ⟨_,its,r,o,h1,h2,n,h3⟩:=(show ObjOk P w H h a (.tup (ks.map kV)) from ok a _ e)
 exact ⟨o,its.toArray,n,h1,h2,h3,by simpa using qt r⟩
theorem uc {kvs:List (List Key×V)}(ok:HOk P w H h)(e:Rd H a (.dT kvs)):kvs.length<=sizeLine/\(a == sysModules)=false /\
  ∃ xs,KT H kvs xs/\h.DictOfH (tupleKind (cA P w)) a xs:=by
 obtain ⟨z,y,xs,r,o,es,ep,h1,h2,h3,h4,h5⟩:=(show ObjOk P w H h a (.dT kvs) from FJ ok e)
 refine ⟨z,y,xs,r,o,es,ep,h1,h2,h3,h4,fun x hx=>?_,h5⟩
 have all:∀ {l:List (List Key×V)} {m:List (List Key×Addr×Value)},KT H l m->∀ x∈m,(tupleKind (cA P w)).is h x.1 x.2.1:=by
  intro l m q
  induction q with
  | nil=>intro x hx;exact nomatch hx
  | @cons p q ps qs hq t ih =>
   intro x hx;rcases zAo.mp hx with e | hx
   ·subst e;exact nQ ok (by rw [<- hq.1];exact hq.2.1)
   ·exact ih x hx
 exact all r x hx
theorem HW {kvs:List (List Key×V)}(ok:HOk P w H h)(e:H a=some (.dT kvs)):kvs.length<=sizeLine/\(a == sysModules)=false /\
  ∃ xs,KT H kvs xs/\h.DictOfH (tupleKind (cA P w)) a xs:=uc ok (.inl e)
end
def DGet (H:Hp)(a:Addr)(y:V)(r:Option V):Prop :=
 (∃ kvs k,Rd H a (.dK kvs)/\y=kV k/\r=d9 kvs k)\/∃ kvs k b,Rd H a (.dT kvs)/\y=.ref b/\H b=some (.tup (k.map kV))/\r=d9 kvs k
def DPut (H:Hp)(a:Addr)(y v:V)(H':Hp):Prop :=
 (∃ kvs k,H a=some (.dK kvs)/\y=kV k/\kvs.length < sizeLine/\H'=upd H a (.dK (putK kvs k v))) \/
 ∃ kvs k b,H a=some (.dT kvs)/\y=.ref b/\H b=some (.tup (k.map kV))/\kvs.length < sizeLine/\H'=upd H a (.dT (putK kvs k v))
theorem DGet.t {H:Hp}{a b:Addr}{kvs:List (List Key×V)}{k:List Key}(e:H a=some (.dT kvs))(eb:H b=some (.tup (k.map kV))):DGet H a (.ref b) (d9 kvs k):=.inr ⟨kvs,k,b,.inl e,rfl,eb,rfl⟩
theorem DPut.t {H:Hp}{a b:Addr}{kvs:List (List Key×V)}{k:List Key}{v:V}(e:H a=some (.dT kvs))(eb:H b=some (.tup (k.map kV)))(hl:kvs.length < sizeLine) :
  DPut H a (.ref b) v (upd H a (.dT (putK kvs k v))):=.inr ⟨kvs,k,b,e,rfl,eb,hl,rfl⟩
section
variable {X:Cx}{pins:List (Addr×Obj)}{σ:St}{H:Hp}{s:Shared}{a:Addr}{y v:V}{u r:Value}{o:Option V}{A:Around}{E:Value->Shared->Prop}
theorem Inv.big (I:Inv X pins σ H s):sysModules < s.heap.objs.size:=by
 have h:mainGlobals < s.heap.objs.size:=(I.mod.glob.keeps I.bk).lt;exact Nat.lt_trans (by decide) h
theorem yL {Q:Value->Shared->Prop}(hu:A.units+1 < cLine)(I:Inv X pins σ H s)(g:DGet H a y (some v))(ry:RelV y u)(h:∀ w' s',Inv X pins σ H s'->RelV v w'->Q w' s') :
  wpAny (model X.prog X.w) A (getItem (.ref a) u) Q E s:=by
 rcases g with ⟨kvs,k,e,ey,l⟩ | ⟨kvs,k,b,e,ey,eb,l⟩
 ·subst ey;obtain ⟨z,hd,vs,rel,dd⟩:=u9 I.hok e;obtain ⟨w',hw,fq⟩:=RelO.some_of (v:=v) (o:=valueAt vs k) (by rw [l];exact rel.val k);exact wpAny_getItem_of (u6 ry) dd.mapOf hw (h w' _ (I.tok _) fq)
 ·subst ey;cases (show u=Value.ref b from ry);obtain ⟨z,hd,xs,rel,dd⟩:=uc I.hok e;obtain ⟨w',hw,fq⟩:=RelO.some_of (v:=v) (o:=(atKey xs k).map (·.2)) (by rw [l];exact rel.val k);obtain ⟨p,hp,rl⟩:=Option.map_eq_some_iff.mp hw;refine wpAny_getItem_heap (tupleKind_room_in1 hu) (nQ I.hok eb) dd hp ?_;rw [rl];exact h w' _ (I.tok _) fq
theorem JM {Q:Value->Shared->Prop}(hu:A.units+1 < cLine)(I:Inv X pins σ H s)(g:DGet H a y o)(ry:RelV y u)(h:∀ s',Inv X pins σ H s'->Q (.bool o.isSome) s') :
  wpAny (model X.prog X.w) A (compareOp .In u (.ref a)) Q E s:=by
 rcases g with ⟨kvs,k,e,ey,l⟩ | ⟨kvs,k,b,e,ey,eb,l⟩
 ·subst ey;obtain ⟨z,hd,vs,rel,dd⟩:=u9 I.hok e;refine wpAny_in_of (u6 ry) hd dd.mapOf ?_;rw [<- (rel.val k).isSome_eq,<- l];exact h _ (I.tok _)
 ·subst ey;cases (show u=Value.ref b from ry);obtain ⟨z,hd,xs,rel,dd⟩:=uc I.hok e;refine wpAny_in_heap (tupleKind_room_in1 hu) (nQ I.hok eb) hd dd ?_;have q:=(rel.val k).isSome_eq;rw [Option.isSome_map] at q;rw [<- q,<- l];exact h _ (I.tok _)
theorem DR {Q:Value->Shared->Prop}(hu:A.units+1 < cLine)(I:Inv X pins σ H s)(g:DGet H a y o)(ry:RelV y u)(h:∀ s',Inv X pins σ H s'->Q (.bool (!o.isSome)) s') :
  wpAny (model X.prog X.w) A (compareOp .NotIn u (.ref a)) Q E s:=by
 rcases g with ⟨kvs,k,e,ey,l⟩ | ⟨kvs,k,b,e,ey,eb,l⟩
 ·subst ey;obtain ⟨z,hd,vs,rel,dd⟩:=u9 I.hok e;refine wpAny_notIn_of (u6 ry) hd dd.mapOf ?_;rw [<- (rel.val k).isSome_eq,<- l];exact h _ (I.tok _)
 ·subst ey;cases (show u=Value.ref b from ry);obtain ⟨z,hd,xs,rel,dd⟩:=uc I.hok e;refine wpAny_notIn_heap (tupleKind_room_in1 hu) (nQ I.hok eb) hd dd ?_;have q:=(rel.val k).isSome_eq;rw [Option.isSome_map] at q;rw [<- q,<- l];exact h _ (I.tok _)
theorem wG {h':Heap}{t':Nat}{ob:HO}(I:Inv X pins σ H s)(mu:Mut (H a))(hs:Heap.SameBut a s.heap h')(he:∃ q,h'.get? a=some q)(new:ObjOk X.prog X.w (upd H a ob) h' a ob) :
  Inv X pins σ (upd H a ob) { s with heap:=h',toks:=t' } :=
 I.write (x:=a) (e:=a) mu (.inl rfl) (fun b q hb z=>(hs.2 b hb).trans z) he new
theorem Gp {P:Program}{w:World}{H':Hp}{h':Heap}{kvs:List (Key×V)}{vs:List (Key×Value)}(z:kvs.length<=sizeLine)(hd:(a == sysModules)=false)(rel:KV kvs vs)(dd:h'.DictOf (cA P w) a vs) :
  ObjOk P w H' h' a (.dK kvs):=⟨z,hd,vs,rel,dd⟩
theorem qu {H':Hp}{Q:Unit->Shared->Prop}(hu:A.units+1 < cLine)(I:Inv X pins σ H s)(g:DPut H a y v H')(ry:RelV y u)(rv:RelV v r)(h:∀ s',Inv X pins σ H' s'->Q () s') :
  wpAny (model X.prog X.w) A (setItem (.ref a) u r) Q E s:=by
 rcases g with ⟨kvs,k,e,ey,l,eH⟩ | ⟨kvs,k,b,e,ey,eb,l,eH⟩
 ·subst ey eH;obtain ⟨z,hd,vs,rel,dd⟩:=HS I.hok e;have hz:vs.length<=sizeLine:=by rw [<- rel.length];exact z
  have hl:(putK kvs k v).length<=sizeLine:=by have:=lU kvs k v;lia
  refine wpAny_setItem_pairs (hsz:=hz) (u6 ry) dd fun h' Ee hs=>h _ ?_
  have he:∃ q,h'.get? a=some q:=let ⟨q,_,_,hq,_⟩:=Ee;⟨q,hq⟩
  exact wG I (by rw [e];exact True.intro) hs he (Gp hl hd (rel.put k rv) Ee)
 ·subst ey eH;cases (show u=Value.ref b from ry);obtain ⟨z,hd,xs,rel,dd⟩:=HW I.hok e;have hz:xs.length<=sizeLine:=by rw [<- Paired.length rel];exact z
  have hl:(putK kvs k v).length<=sizeLine:=by have:=lU kvs k v;lia
  refine wpAny_setItem_heap (hsz:=hz) (tupleKind_room_in1 hu) (nQ I.hok eb) dd fun h' Ee hs=>h _ ?_;obtain ⟨q,es,ep,hq,h2,h3,h4,_,h5⟩:=Ee;refine wG I (by rw [e];exact True.intro) hs ⟨q,hq⟩ ⟨hl,hd,_,(rel.put k eb rv).keeps fun c ys ec=>?_,q,es,ep,hq,h2,h3,h4,h5⟩;rw [az (Hn ec e (fun z=>nomatch z))];exact ec
end
section
variable {X:Cx}{pins:List (Addr×Obj)}{σ:St}{H:Hp}{s:Shared}{a:Addr}{kvs:List (Key×V)}{k:Key}{u:Value}{A:Around}{E:Value->Shared->Prop}
end
def HX (i:Expr):Prop:=∀ ov iv,subscripted i false ov iv=operate [ov,iv] (getItem ov iv)
theorem DW {prog:Program}{w:World}{A:Around}{E:Value->Shared->Prop}{s:Shared}{env:Env}{value slice:Expr}{pos:Pos}{T id:String}{Q:Value->Shared->Prop}
  (hl:typeLookup (.type T) "__getitem__" = pure (some (.builtin id))) (hs:HX slice)
  (h:wpAny (model prog w) A (eval value env) (fun o s₁=>wpAny (model prog w) A (eval slice env) (fun i s₂=>s₂.TypeIs o T/\wpAny (model prog w) A (getItem o i) Q E s₂) E s₁) E s) :
  wpAny (model prog w) A (eval (.Subscript value slice pos) env) Q E s:=by
 refine Subscript_ (wpAny_mono h (fun o s₁ fz=>wpAny_mono fz (fun i s₂ kX=>?_) fun _ _ x=>x) fun _ _ x=>x);obtain ⟨hT,kX⟩:=kX;unfold subscriptTail;refine zAv ?_;rw [getitemInPython_of_ne hT.not_modules];refine zAv (wpAny_specialOf hT hl ?_)
 have fin:wpAny (model prog w) A (subscripted slice false o i) (fun r s₃=>wpAny (model prog w) A (letTemporaryGo value o r >>= fun _=>pure r) Q E s₃) E s₂:=by
  rw [hs o i];exact wpAny_operating (wpAny_mono kX (fun r s₃ nV=>zAv (wpAny_letTemporaryGo (zB1 nV))) fun _ _ x=>x)
 first
  | exact zB1 (zAv fin)
  | exact zAv (zB1 (zAv fin))
  | exact zAv fin
theorem ue {X:Cx}{pins:List (Addr×Obj)}{σ:St}{H:Hp}{s:Shared}{a:Addr}{y:V}{o:Option V}(I:Inv X pins σ H s)(g:DGet H a y o):s.TypeIs (.ref a) "dict" := by
 rcases g with ⟨kvs,k,e,_,_⟩ | ⟨kvs,k,b,e,_,_,_⟩
 ·obtain ⟨_,_,vs,_,dd⟩:=u9 I.hok e;exact dd.typeIs
 ·obtain ⟨_,_,xs,_,dd⟩:=uc I.hok e;exact dd.typeIs
def HY (td ty:TE):TE:=fun σ H Q=>td σ H fun x H1=>ty σ H1 fun y H2=>∃ a v,x=.ref a/\DGet H2 a y (some v)/\Q v H2
def JN (ty td:TE):TE:=fun σ H Q=>ty σ H fun y H1=>td σ H1 fun x H2=>∃ a o,x=.ref a/\DGet H2 a y o/\Q (.bl o.isSome) H2
def DX (ty td:TE):TE:=fun σ H Q=>ty σ H fun y H1=>td σ H1 fun x H2=>∃ a o,x=.ref a/\DGet H2 a y o/\Q (.bl (!o.isSome)) H2
def Ia (td ty tv:TE):TS:=fun D σ H=>tv σ H fun v H1=>td σ H1 fun x H2=>ty σ H2 fun y H3=>∃ a H4,x=.ref a/\DPut H3 a y v H4/\D.nx σ H4
section
variable {X:Cx}{o i e value:Expr}{pos pos' sF:Pos}{td ty tv:TE}
theorem dY (hu:X.A.units+1 < cLine)(ho:PE X o td)(hi:PE X i ty)(hs:HX i):PE X (.Subscript o i pos) (HY td ty):=by
 intro pins s σ H Q I h;refine DW PySem.F.slot_dict_getitem.lookup hs (thn (ho pins s σ H _ I h) fun u s1 ⟨x,H1,I1,rx,q1⟩=>thn (hi pins s1 σ H1 _ I1 q1) fun iv s2 ⟨y,H2,I2,ry,a,v,ex,g,q2⟩=>?_);subst ex;obtain rfl:u=Value.ref a:=rx;exact ⟨ue I2 g,yL hu I2 g ry fun w' s3 I3 fq=>⟨v,H2,I3,fq,q2⟩⟩
theorem Gq (hu:X.A.units+1 < cLine)(hi:PE X i ty)(ho:PE X o td):PC X .In i o (JN ty td):=by
 intro pins s σ H Q I h;refine thn (hi pins s σ H _ I h) fun iv s1 ⟨y,H1,I1,ry,q1⟩=>thn (ho pins s1 σ H1 _ I1 q1) fun u s2 ⟨x,H2,I2,rx,a,ov,ex,g,q2⟩=>?_;subst ex;obtain rfl:u=Value.ref a:=rx
 exact JM hu I2 g ry fun s3 I3=>⟨.bl ov.isSome,H2,I3,rfl,q2⟩
theorem yM (hu:X.A.units+1 < cLine)(hi:PE X i ty)(ho:PE X o td):PC X .NotIn i o (DX ty td):=by
 intro pins s σ H Q I h;refine thn (hi pins s σ H _ I h) fun iv s1 ⟨y,H1,I1,ry,q1⟩=>thn (ho pins s1 σ H1 _ I1 q1) fun u s2 ⟨x,H2,I2,rx,a,ov,ex,g,q2⟩=>?_;subst ex;obtain rfl:u=Value.ref a:=rx
 exact DR hu I2 g ry fun s3 I3=>⟨.bl (!ov.isSome),H2,I3,rfl,q2⟩
theorem wH (hu:X.A.units+1 < cLine)(ho:PE X o td)(hi:PE X i ty)(hv:PE X value tv)(hs:swapsWith value (some (.Subscript o i pos')) pos.line X.env=pure false) :
  PS X (.Assign [.Subscript o i pos'] value pos) (Ia td ty tv):=by
 intro pins s σ H D I h;refine wpAny_Assign_Subscript (thn (hv pins s σ H _ I h) fun r s1 ⟨v,H1,I1,rv,q1⟩=>thn (ho pins s1 σ H1 _ I1 q1) fun u s2 ⟨x,H2,I2,rx,q2⟩=>thn (hi pins s2 σ H2 _ I2 q2) fun iv s3 ⟨y,H3,I3,ry,a,H4,ex,g,q3⟩=>?_) hs;subst ex;obtain rfl:u=Value.ref a:=rx
 exact qu hu I3 g ry rv fun s4 I4=>⟨σ,H4,I4,q3⟩
end
theorem Ao {P:Program}{w:World}{H:Hp}(h:Heap)(hb:sysModules < h.objs.size):ObjOk P w H (h.push { cls:=.type "dict",data:=.dict #[] }) h.objs.size (.dT []) :=
 ⟨zAp _,beq_eq_false_iff_ne.mpr (Ne.symm (zB6 hb)),[],.nil,_,#[],0,zB2 _ rfl,⟨rfl,rfl,rfl⟩,rfl,rfl,List.nodup_nil⟩
def Gr:TE:=fun _ H Q=>∀ p,H p=none->Q (.ref p) (upd H p (.dT []))
section
variable {X:Cx}{pos:Pos}
theorem uf:PE X (.Dict [] [] pos) Gr:=fun pins s σ H Q I h =>
 wpAny_Dict_empty ⟨.ref s.heap.objs.size,_,I.laid (a:=s.heap.objs.size) (o:=.dT []) (t':=s.toks) (fun _ _ q=>zAy _ q) (zA3 _) (Ao s.heap I.big),rfl,h _ (I.hok.fresh (zA3 _))⟩
end
section
variable {X:Cx}{pins:List (Addr×Obj)}{σ:St}{H:Hp}{s:Shared}{a:Addr}{y d:V}{u r:Value}{o:Option V}{A:Around}{E:Value->Shared->Prop}
end
section
variable {X:Cx}{o e f:Expr}{apos fv:Pos}{td ty tx:TE}
end
section
variable {X:Cx}{pins:List (Addr×Obj)}{σ:St}{H:Hp}{s:Shared}{a:Addr}{kvs:List (Key×V)}{A:Around}{E:Value->Shared->Prop}
end
section
variable {X:Cx}{pins:List (Addr×Obj)}{σ:St}{H:Hp}{s:Shared}{a:Addr}{y:V}{u:Value}{A:Around}{E:Value->Shared->Prop}
end
def DY:Key->PyData
 | .inl i=>.int i
 | .inr x=>.str x
mutual
inductive IsTh (S:Addr->Prop)(H:Hp):V->PyData->Prop
 | non:IsTh S H .non .none
 | bl (b:Bool):IsTh S H (.bl b) (.bool b)
 | int (i:Int):IsTh S H (.int i) (.int i)
 | str (x:Str):IsTh S H (.str x) (.str x)
 | lst {a:Addr} {xs:List V} {ds:List PyData} (hs:S a) (e:H a=some (.lst xs)) (r:IsThs S H xs ds):IsTh S H (.ref a) (.list ds)
 | tup {a:Addr} {xs:List V} {ds:List PyData} (e:H a=some (.tup xs)) (r:IsThs S H xs ds):IsTh S H (.ref a) (.tuple ds)
 | dct {a:Addr} {ks:List (Key×Int)} (hs:S a) (e:H a=some (.dK (ks.map fun p=>(p.1,V.int p.2)))):IsTh S H (.ref a) (.dict (ks.map fun p=>(DY p.1,.int p.2)))
inductive IsThs (S:Addr->Prop)(H:Hp):List V->List PyData->Prop
 | nil:IsThs S H [] []
 | cons {v:V} {d:PyData} {vs:List V} {ds:List PyData} (h:IsTh S H v d) (t:IsThs S H vs ds):IsThs S H (v::vs) (d::ds)
end
section
variable {S S':Addr->Prop}{H H':Hp}
theorem IsThs.length:∀ {vs:List V} {ds:List PyData},IsThs S H vs ds->vs.length=ds.length
 | _,_,.nil=>rfl
 | _,_,.cons _ t=>by rw [zAe,zAe,IsThs.length t]
theorem IsThs.get:∀ {vs:List V} {ds:List PyData} {i:Nat} {v:V},IsThs S H vs ds->vs[i]?=some v->∃ d,ds[i]?=some d/\IsTh S H v d
 | _,_,_,_,.nil,e=>by simp at e
 | _,_,0,_,.cons h _,e=>by simp at e;subst e;exact ⟨_,rfl,h⟩
 | _,_,i+1,v,.cons _ t,e=>by
  obtain ⟨d,h1,h2⟩:=IsThs.get (i:=i) (v:=v) t (by simpa using e);exact ⟨d,by simpa using h1,h2⟩
theorem IsThs.append:∀ {vs ws:List V} {ds es:List PyData},IsThs S H vs ds->IsThs S H ws es->IsThs S H (vs++ws) (ds++es)
 | _,_,_,_,.nil,s=>s
 | _,_,_,_,.cons h t,s=>.cons h (IsThs.append t s)
theorem IsThs.ints:∀ (ns:List Int),IsThs S H (ns.map V.int) (ns.map PyData.int)
 | []=>.nil
 | n::ns=>.cons (.int n) (IsThs.ints ns)
mutual
theorem IsTh.keep (ht:∀ b xs,H b=some (.tup xs)->H' b=some (.tup xs))(hs:∀ b o,S b->H b=some o->H' b=some o)(hS:∀ b o,S b->H b=some o->S' b):∀ {v:V} {d:PyData},IsTh S H v d->IsTh S' H' v d
 | _,_,.non=>.non
 | _,_,.bl b=>.bl b
 | _,_,.int i=>.int i
 | _,_,.str x=>.str x
 | _,_,.lst s e r=>.lst (hS _ _ s e) (hs _ _ s e) (IsThs.keep ht hs hS r)
 | _,_,.tup e r=>.tup (ht _ _ e) (IsThs.keep ht hs hS r)
 | _,_,.dct s e=>.dct (hS _ _ s e) (hs _ _ s e)
theorem IsThs.keep (ht:∀ b xs,H b=some (.tup xs)->H' b=some (.tup xs))(hs:∀ b o,S b->H b=some o->H' b=some o)(hS:∀ b o,S b->H b=some o->S' b):∀ {vs:List V} {ds:List PyData},IsThs S H vs ds->IsThs S' H' vs ds
 | _,_,.nil=>.nil
 | _,_,.cons h t=>.cons (IsTh.keep ht hs hS h) (IsThs.keep ht hs hS t)
end
def tyD:PyData->String
 | .none=>"NoneType"
 | .bool _=>"bool"
 | .int _=>"int"
 | .str _=>"str"
 | .list _=>"list"
 | .tuple _=>"tuple"
 | .dict _=>"dict"
theorem IsTh.ty {K:Frag}{v:V}{d:PyData}(h:IsTh S H v d):TyOf K H v (.type (tyD d)):=by
 cases h with
 | non=>exact .non
 | bl b=>exact .bl b
 | int i=>exact .int i
 | str x=>exact .str x
 | lst s e r=>exact .lst e
 | tup e r=>exact .tup e
 | dct s e=>exact .dK e
def rM:PyData->Bool
 | .int _=>true
 | .bool _=>true
 | _=>false
def rN:PyData->Bool
 | .bool _=>true
 | _=>false
def rO:PyData->Bool
 | .tuple _=>true
 | _=>false
theorem Ea {K:Frag}(d:PyData):PySem.W.kitOne K (.type (tyD d)) (.type "int")=some (rM d):=by
 cases d
 ·exact lq
 ·exact rF
 ·exact tZ
 ·exact u0
 ·exact rJ
 ·exact pI
 ·exact rK
theorem Aq {K:Frag}(d:PyData):PySem.W.kitOne K (.type (tyD d)) (.type "bool")=some (rN d):=by
 cases d
 ·exact jH
 ·exact pq
 ·exact rG
 ·exact rH
 ·exact pH
 ·exact nO
 ·exact pJ
theorem Eb {K:Frag}(d:PyData):PySem.W.kitOne K (.type (tyD d)) (.type "tuple")=some (rO d):=by
 cases d
 ·exact jq
 ·exact nJ
 ·exact pC
 ·exact pF
 ·exact nM
 ·exact my
 ·exact nP
end
mutual
def sz:PyData->Nat
 | .none=>1
 | .bool _=>1
 | .int _=>1
 | .str _=>1
 | .list xs=>1+szs xs
 | .tuple xs=>1+szs xs
 | .dict kvs=>1+4 * kvs.length
def szs:List PyData->Nat
 | []=>0
 | x::xs=>sz x+szs xs
end
mutual
def tame:PyData->Bool
 | .none=>true
 | .bool _=>true
 | .int i=>decide (i.natAbs < 2 ^ 128)
 | .str x=>decide (x.length<=10) && x.cps.toList.all fun c=>decide (c < 16 ^ 8)
 | .list xs=>fu xs
 | .tuple xs=>fu xs
 | .dict kvs=>aO kvs
def fu:List PyData->Bool
 | []=>true
 | x::xs=>tame x && fu xs
def aO:List (PyData×PyData)->Bool
 | []=>true
 | (.int i,.int j)::r=>decide (i.natAbs < 2 ^ 128) && decide (j.natAbs < 2 ^ 128) && aO r
 | (.str x,.int j)::r=>(decide (x.length<=10) && x.cps.toList.all fun c=>decide (c < 16 ^ 8)) && decide (j.natAbs < 2 ^ 128) && aO r
 | _::_=>false
end
theorem mK {i:Int}(h:i.natAbs < 2 ^ 128):(Str.ofString (toString i)).length<=130:=by
 have e:=int_text_length_le (a:=i) (k:=128) (by decide) (by
  by_cases h0:i.natAbs=0
  ·rw [h0];decide
  ·exact (Nat.log2_lt h0).mpr h)
 rw [PySem.ofString_length];lia
theorem lV:∀ (ts:List Str) (k:Nat) (acc:Str),(textFrom k acc ts).length<=acc.length+piled ts
 | [],k,acc=>by show acc.length<=acc.length+0;lia
 | t::r,k,acc=>by
  have h:=lV r (k+1) (acc++(if k > 0 then ", " else "" : String)++t)
  have e:(acc++(if k > 0 then ", " else "" : String)++t).length<=acc.length+2+t.length:=by
   rw [strLen_append,strLen_append];split
   ·show acc.length+2+t.length<=_;lia
   ·show acc.length+0+t.length<=_;lia
  rw [piled_cons];show (textFrom (k+1) _ r).length<=_;lia
theorem ug (ts:List Str):(listText ts).length<=piled ts+2:=by
 have h:=lV ts 0 "[";unfold listText;rw [strLen_append];have e1:(("[" : Str)).length=1:=rfl;have e2:(("]" : Str)).length=1:=rfl;lia
theorem wI (ts:List Str):(Str.join ", " ts).length<=piled ts:=by
 by_cases h:ts=[]
 ·subst h;show 0<=_;lia
 ·have:=join_length_add ts h;lia
theorem rP (ts:List Str):(tupleText ts).length<=piled ts+3:=by
 have h:=wI ts;unfold tupleText;rw [strLen_append,strLen_append];have e1:(("(" : Str)).length=1:=rfl
 have e2:((if ts.length == 1 then ",)" else ")" : String):Str).length<=2:=by
  split
  ·exact zA3 2
  ·exact Nat.le_succ 1
 lia
theorem uh (ts:List Str):(dictText ts).length<=piled ts+2:=by
 have h:=wI ts;unfold dictText;rw [strLen_append,strLen_append];have e1:(("{" : Str)).length=1:=rfl;have e2:(("}" : Str)).length=1:=rfl;lia
theorem shownKv_le:∀ (kvs:List (PyData×PyData)),aO kvs=true->piled (PyData.shownKv kvs)<=400 * kvs.length
 | [],_=>by show 0<=_;lia
 | (.int i,.int j)::r,h=>by
  have h':(decide (i.natAbs < 2 ^ 128) && decide (j.natAbs < 2 ^ 128) && aO r)=true:=h;simp only [Bool.and_eq_true,decide_eq_true_eq] at h';have h1:=mK h'.1.1;have h2:=mK h'.1.2;have h3:=shownKv_le r h'.2;show piled ((PyData.shown (.int i)++": " ++ PyData.shown (.int j))::PyData.shownKv r)<=_;rw [piled_cons,strLen_append,strLen_append];have e1:((": " : Str)).length=2:=rfl;have e2:PyData.shown (.int i)=Str.ofString (toString i):=rfl;have e3:PyData.shown (.int j)=Str.ofString (toString j):=rfl;rw [e1,e2,e3,zAe];lia
 | (.none,_)::_,h=>by simp [aO] at h
 | (.bool _,_)::_,h=>by simp [aO] at h
 | (.str x,.int j)::r,h=>by
  have h':((decide (x.length<=10) && x.cps.toList.all fun c=>decide (c < 16 ^ 8)) && decide (j.natAbs < 2 ^ 128) && aO r)=true:=h;rw [zAc,zAc,zAc,decide_eq_true_eq,decide_eq_true_eq] at h';have h0:x.length<=10:=h'.1.1.1
  have h1:=StrLaws.reprText_len x fun c hc=>by simpa using List.all_eq_true.mp h'.1.1.2 c hc
  have h2:=mK h'.1.2;have h3:=shownKv_le r h'.2;show piled ((PyData.shown (.str x)++": " ++ PyData.shown (.int j))::PyData.shownKv r)<=_;rw [piled_cons,strLen_append,strLen_append];have e1:((": " : Str)).length=2:=rfl;have e2:PyData.shown (.str x)=reprText x:=rfl;have e3:PyData.shown (.int j)=Str.ofString (toString j):=rfl;rw [e1,e2,e3,zAe];lia
 | (.str _,.none)::_,h=>by simp [aO] at h
 | (.str _,.bool _)::_,h=>by simp [aO] at h
 | (.str _,.str _)::_,h=>by simp [aO] at h
 | (.str _,.list _)::_,h=>by simp [aO] at h
 | (.str _,.tuple _)::_,h=>by simp [aO] at h
 | (.str _,.dict _)::_,h=>by simp [aO] at h
 | (.list _,_)::_,h=>by simp [aO] at h
 | (.tuple _,_)::_,h=>by simp [aO] at h
 | (.dict _,_)::_,h=>by simp [aO] at h
 | (.int _,.none)::_,h=>by simp [aO] at h
 | (.int _,.bool _)::_,h=>by simp [aO] at h
 | (.int _,.str _)::_,h=>by simp [aO] at h
 | (.int _,.list _)::_,h=>by simp [aO] at h
 | (.int _,.tuple _)::_,h=>by simp [aO] at h
 | (.int _,.dict _)::_,h=>by simp [aO] at h
mutual
theorem qw:∀ (d:PyData),tame d=true->d.shown.length+2<=200 * sz d
 | .none,_=>by decide +kernel
 | .bool true,_=>by decide +kernel
 | .bool false,_=>by decide +kernel
 | .int i,h=>by
  have:=mK (i:=i) (by simpa [tame] using h);show (Str.ofString (toString i)).length+2<=200 * 1;lia
 | .str x,h=>by
  have h':(decide (x.length<=10) && x.cps.toList.all fun c=>decide (c < 16 ^ 8))=true:=h;rw [zAc] at h';have h1:x.length<=10:=by simpa using h'.1
  have:=StrLaws.reprText_len x fun c hc=>by simpa using List.all_eq_true.mp h'.2 c hc
  show (reprText x).length+2<=200 * 1;lia
 | .list xs,h=>by
  have h1:=ig xs (by simpa [tame] using h);have h2:=ug (PyData.shownAll xs);show (listText (PyData.shownAll xs)).length+2<=200 * (1+szs xs);lia
 | .tuple xs,h=>by
  have h1:=ig xs (by simpa [tame] using h);have h2:=rP (PyData.shownAll xs);show (tupleText (PyData.shownAll xs)).length+2<=200 * (1+szs xs);lia
 | .dict kvs,h=>by
  have h1:=shownKv_le kvs (by simpa [tame] using h);have h2:=uh (PyData.shownKv kvs);show (dictText (PyData.shownKv kvs)).length+2<=200 * (1+4 * kvs.length);lia
theorem ig:∀ (xs:List PyData),fu xs=true->piled (PyData.shownAll xs)<=200 * szs xs
 | [],_=>by show 0<=_;lia
 | x::xs,h=>by
  have h':(tame x && fu xs)=true:=h;rw [zAc] at h';have h1:=qw x h'.1;have h2:=ig xs h'.2;show piled (PyData.shown x::PyData.shownAll xs)<=200 * (sz x+szs xs);rw [piled_cons];lia
end
theorem gw:∀ (kvs:List (PyData×PyData)),aO kvs=true->PyData.showableKv kvs=true
 | [],_=>rfl
 | (.int i,.int j)::r,h=>by
  have h':(decide (i.natAbs < 2 ^ 128) && decide (j.natAbs < 2 ^ 128) && aO r)=true:=h;simp only [Bool.and_eq_true,decide_eq_true_eq] at h'
  have big:∀ {n:Int},n.natAbs < 2 ^ 128->n.natAbs.log2 < 1920:=fun {n} hn=>by
   by_cases h0:n.natAbs=0
   ·rw [h0];decide
   ·exact Nat.lt_trans ((Nat.log2_lt h0).mpr hn) (by decide)
  simp only [PyData.showableKv,PyData.showable,Bool.and_eq_true,decide_eq_true_eq];exact ⟨⟨big h'.1.1,big h'.1.2⟩,gw r h'.2⟩
 | (.none,_)::_,h=>by simp [aO] at h
 | (.bool _,_)::_,h=>by simp [aO] at h
 | (.str x,.int j)::r,h=>by
  have h':((decide (x.length<=10) && x.cps.toList.all fun c=>decide (c < 16 ^ 8)) && decide (j.natAbs < 2 ^ 128) && aO r)=true:=h;rw [zAc,zAc,decide_eq_true_eq] at h'
  have big:∀ {n:Int},n.natAbs < 2 ^ 128->n.natAbs.log2 < 1920:=fun {n} hn=>by
   by_cases h0:n.natAbs=0
   ·rw [h0];decide
   ·exact Nat.lt_trans ((Nat.log2_lt h0).mpr hn) (by decide)
  simp only [PyData.showableKv,PyData.showable,Bool.and_eq_true,decide_eq_true_eq];exact ⟨⟨trivial,big h'.1.2⟩,gw r h'.2⟩
 | (.str _,.none)::_,h=>by simp [aO] at h
 | (.str _,.bool _)::_,h=>by simp [aO] at h
 | (.str _,.str _)::_,h=>by simp [aO] at h
 | (.str _,.list _)::_,h=>by simp [aO] at h
 | (.str _,.tuple _)::_,h=>by simp [aO] at h
 | (.str _,.dict _)::_,h=>by simp [aO] at h
 | (.list _,_)::_,h=>by simp [aO] at h
 | (.tuple _,_)::_,h=>by simp [aO] at h
 | (.dict _,_)::_,h=>by simp [aO] at h
 | (.int _,.none)::_,h=>by simp [aO] at h
 | (.int _,.bool _)::_,h=>by simp [aO] at h
 | (.int _,.str _)::_,h=>by simp [aO] at h
 | (.int _,.list _)::_,h=>by simp [aO] at h
 | (.int _,.tuple _)::_,h=>by simp [aO] at h
 | (.int _,.dict _)::_,h=>by simp [aO] at h
mutual
theorem lW:∀ (d:PyData),tame d=true->d.showable=true
 | .none,_=>rfl
 | .bool _,_=>rfl
 | .int i,h=>by
  have h':i.natAbs < 2 ^ 128:=by simpa [tame] using h
  have:i.natAbs.log2 < 1920:=by
   by_cases h0:i.natAbs=0
   ·rw [h0];decide
   ·exact Nat.lt_trans ((Nat.log2_lt h0).mpr h') (by decide)
  simp only [PyData.showable];exact decide_eq_true this
 | .str _,_=>rfl
 | .list xs,h=>by
  simp only [PyData.showable];exact ik xs (by simpa [tame] using h)
 | .tuple xs,h=>by
  simp only [PyData.showable];exact ik xs (by simpa [tame] using h)
 | .dict kvs,h=>by
  simp only [PyData.showable];exact gw kvs (by simpa [tame] using h)
theorem ik:∀ (xs:List PyData),fu xs=true->PyData.showableAll xs=true
 | [],_=>rfl
 | x::xs,h=>by
  have h':(tame x && fu xs)=true:=h;rw [zAc] at h';simp only [PyData.showableAll,Bool.and_eq_true];exact ⟨lW x h'.1,ik xs h'.2⟩
end
theorem jr:∀ (kvs:List (PyData×PyData)),aO kvs=true->PyData.depthKv kvs=0
 | [],_=>rfl
 | (.int i,.int j)::r,h=>by
  have h':(decide (i.natAbs < 2 ^ 128) && decide (j.natAbs < 2 ^ 128) && aO r)=true:=h;simp only [Bool.and_eq_true,decide_eq_true_eq] at h';simp only [PyData.depthKv,PyData.depth,jr r h'.2];rfl
 | (.none,_)::_,h=>by simp [aO] at h
 | (.bool _,_)::_,h=>by simp [aO] at h
 | (.str x,.int j)::r,h=>by
  have h':((decide (x.length<=10) && x.cps.toList.all fun c=>decide (c < 16 ^ 8)) && decide (j.natAbs < 2 ^ 128) && aO r)=true:=h;rw [zAc] at h';simp only [PyData.depthKv,PyData.depth,jr r h'.2];rfl
 | (.str _,.none)::_,h=>by simp [aO] at h
 | (.str _,.bool _)::_,h=>by simp [aO] at h
 | (.str _,.str _)::_,h=>by simp [aO] at h
 | (.str _,.list _)::_,h=>by simp [aO] at h
 | (.str _,.tuple _)::_,h=>by simp [aO] at h
 | (.str _,.dict _)::_,h=>by simp [aO] at h
 | (.list _,_)::_,h=>by simp [aO] at h
 | (.tuple _,_)::_,h=>by simp [aO] at h
 | (.dict _,_)::_,h=>by simp [aO] at h
 | (.int _,.none)::_,h=>by simp [aO] at h
 | (.int _,.bool _)::_,h=>by simp [aO] at h
 | (.int _,.str _)::_,h=>by simp [aO] at h
 | (.int _,.list _)::_,h=>by simp [aO] at h
 | (.int _,.tuple _)::_,h=>by simp [aO] at h
 | (.int _,.dict _)::_,h=>by simp [aO] at h
mutual
theorem jK:∀ (d:PyData),tame d=true->d.depth<=sz d
 | .none,_=>zAp _
 | .bool _,_=>zAp _
 | .int i,_=>zAp _
 | .str _,_=>zAp _
 | .list xs,h=>by
  have:=lu xs (by simpa [tame] using h);simp only [PyData.depth,sz];lia
 | .tuple xs,h=>by
  have:=lu xs (by simpa [tame] using h);simp only [PyData.depth,sz];lia
 | .dict kvs,h=>by
  have:=jr kvs (by simpa [tame] using h);simp only [PyData.depth,sz];lia
theorem lu:∀ (xs:List PyData),fu xs=true->PyData.depthAll xs<=szs xs
 | [],_=>zAp _
 | x::xs,h=>by
  have h':(tame x && fu xs)=true:=h;rw [zAc] at h';have h1:=jK x h'.1;have h2:=lu xs h'.2;simp only [PyData.depthAll,szs];lia
end
section
variable {X:Cx}{pins:List (Addr×Obj)}{σ:St}{H:Hp}{s:Shared}{S:Addr->Prop}
theorem nR {P:Program}{w:World}:∀ {ks:List (Key×Int)} {vs:List (Key×Value)} {es:List DictEntry},KV (ks.map fun p=>(p.1,V.int p.2)) vs->Pairs (cA P w) es vs ->
  (∃ as,ReadsAll s.heap (es.map (·.key)) ((ks.map fun p=>(DY p.1,PyData.int p.2)).map (·.1)) as/\as=[])/\∃ as,ReadsAll s.heap (es.map (·.val)) ((ks.map fun p=>(DY p.1,PyData.int p.2)).map (·.2)) as/\as=[]
 | [],vs,es,r,p=>by
  cases r;cases p;exact ⟨⟨_,.nil,rfl⟩,⟨_,.nil,rfl⟩⟩
 | (k,n)::ks,vs,es,r,p=>by
  cases r with
  | @cons a b l1 l2 h t =>
   cases p with
   | @cons e kv dQ kvs' h1 h2 h3 =>
    obtain ⟨⟨_,i1,rfl⟩,⟨_,i2,rfl⟩⟩:=nR (ks:=ks) t h3;obtain ⟨q1,q2⟩:=h;have MK:mY b.1 e.key=true:=h1;rw [<- q1] at MK;obtain ⟨tv,Py⟩:∃ t,b.2=Value.int n t:=q2;rw [Py] at h2;refine ⟨⟨_,?_,rfl⟩,⟨_,?_,rfl⟩⟩
    ·show ReadsAll s.heap (e.key::dQ.map (·.key)) (DY k::_) ([]++[]);rcases cu MK with ⟨i,tk,ei,ev⟩ | ⟨x,tk,ei,ev⟩
     ·have ei:k=Sum.inl i:=ei;rw [ev,ei];exact .cons (.int _ _) i1
     ·have ei:k=Sum.inr x:=ei;rw [ev,ei];exact .cons (.str _ _) i1
    ·show ReadsAll s.heap (e.val::dQ.map (·.val)) (PyData.int n::_) ([]++[]);rw [h2];exact .cons (.int _ _) i2
mutual
theorem IsTh.reads (I:Inv X pins σ H s):∀ {v:V} {d:PyData} {u:Value},IsTh S H v d->RelV v u->∃ as,Reads s.heap u d as/\∀ a∈as,S a
 | _,_,_,.non,r=>by cases (show _=Value.none from r);exact ⟨[],.none,fun _ h=>nomatch h⟩
 | _,_,_,.bl b,r=>by cases (show _=Value.bool b from r);exact ⟨[],.bool b,fun _ h=>nomatch h⟩
 | _,_,_,.int i,r=>by obtain ⟨t,rfl⟩:=r;exact ⟨[],.int i t,fun _ h=>nomatch h⟩
 | _,_,_,.str x,r=>by obtain ⟨t,rfl⟩:=r;exact ⟨[],.str x t,fun _ h=>nomatch h⟩
 | _,_,_,@IsTh.lst _ _ a xs ds hs e t,r=>by
  cases (show _=Value.ref a from r)
  obtain ⟨_,its,n,rv,ho⟩:=(show ObjOk X.prog X.w H s.heap a (.lst xs) from I.hok a _ e)
  obtain ⟨as,h1,h2⟩:=IsThs.reads I t rv;refine ⟨a::as,.list ho rfl rfl (by simpa using h1),fun b hb=>?_⟩;rcases zAo.mp hb with z | z
  ·rw [z];exact hs
  ·exact h2 b z
 | _,_,_,@IsTh.tup _ _ a xs ds e t,r=>by
  cases (show _=Value.ref a from r)
  obtain ⟨_,its,rv,o,ho,hc,n,hd⟩:=(show ObjOk X.prog X.w H s.heap a (.tup xs) from I.hok a _ e)
  obtain ⟨as,h1,h2⟩:=IsThs.reads I t rv;exact ⟨as,.tuple ho hc hd (by simpa using h1),h2⟩
 | _,_,_,@IsTh.dct _ _ a ks hs e,r=>by
  cases (show _=Value.ref a from r)
  obtain ⟨_,_,vs,rel,o,es,ep,ho,hx,hd,_,hp,_⟩:=(show ObjOk X.prog X.w H s.heap a (.dK _) from I.hok a _ e)
  obtain ⟨⟨_,i1,rfl⟩,⟨_,i2,rfl⟩⟩:=nR (s:=s) rel hp;refine ⟨a::[]++[],.dict ho hx.1 hd i1 i2,fun b hb=>?_⟩;rw [show b=a by simpa using hb];exact hs
theorem IsThs.reads (I:Inv X pins σ H s):∀ {vs:List V} {ds:List PyData} {us:List Value},IsThs S H vs ds->Vals vs us->∃ as,ReadsAll s.heap us ds as/\∀ a∈as,S a
 | _,_,_,.nil,r=>by cases r;exact ⟨[],.nil,fun _ h=>nomatch h⟩
 | _,_,_,.cons h t,r=>by
  cases r with
  | cons r1 r2 =>
   obtain ⟨as,h1,h2⟩:=IsTh.reads I h r1;obtain ⟨bs,h3,h4⟩:=IsThs.reads I t r2;exact ⟨as++bs,.cons h1 h3,fun b hb=>(zA6.mp hb).elim (h2 b) (h4 b)⟩
end
theorem j9 (hg:X.A.guards=some [])(hS:¬ S sysModules):dJ X (.builtin "repr") (fun xs H Q=>∃ v d,xs=[v]/\IsTh S H v d/\tame d=true/\sz d<=4000/\X.A.units+(sz d+1) < cLine/\Q (.str d.shown) H):=by
 intro pins s σ H xs us Q I r h;obtain ⟨v,d,rfl,th,tm,hz,hu,q⟩:=h;obtain ⟨u,rfl,ru⟩:=vals1 r;have hl:=qw d tm;have hsz:d.shown.length<=sizeLine:=by rw [sizeLine_eq];lia
 have fin:∀ t h' tk,(∀ b o,s.heap.get? b=some o->h'.get? b=some o)->EP X pins σ Q (.str d.shown t) { s with heap:=h',toks:=tk }:=fun t h' tk k=>⟨.str d.shown,H,I.kept k,⟨t,rfl⟩,q⟩
 have iF:=lW d tm
 cases th with
 | non=>cases (show u=Value.none from ru);exact PySem.P.repr_of_none (fin _ s.heap _ fun _ _ e=>e)
 | bl b=>cases (show u=Value.bool b from ru);exact PySem.P.repr_of_bool (fin _ s.heap _ fun _ _ e=>e)
 | int i =>
  obtain ⟨t,rfl⟩:=ru;have:i.natAbs.log2 < 1920:=by simpa [PyData.showable] using iF
  exact PySem.P.repr_of_int this (fin _ s.heap _ fun _ _ e=>e)
 | str x=>obtain ⟨t,rfl⟩:=ru;exact PySem.P.repr_of_str (fin _ s.heap _ fun _ _ e=>e) hsz
 | @lst a xs ds hs e t =>
  obtain ⟨as,rd,ha⟩:=(IsTh.lst hs e t).reads I ru;cases (show u=Value.ref a from ru);exact repr_of_reads' rd iF (fun _ hm=>hS (ha _ hm)) hg (by have:=jK _ tm;lia) (fun b o e=>e) (fun h' t tk k=>fin t h' tk k) hsz
 | @tup a xs ds e t =>
  obtain ⟨as,rd,ha⟩:=(IsTh.tup (S:=S) e t).reads I ru;cases (show u=Value.ref a from ru);exact repr_of_reads' rd iF (fun _ hm=>hS (ha _ hm)) hg (by have:=jK _ tm;lia) (fun b o e=>e) (fun h' t tk k=>fin t h' tk k) hsz
 | @dct a ks hs e =>
  obtain ⟨as,rd,ha⟩:=(IsTh.dct hs e).reads I ru;cases (show u=Value.ref a from ru);exact repr_of_reads' rd iF (fun _ hm=>hS (ha _ hm)) hg (by have:=jK _ tm;lia) (fun b o e=>e) (fun h' t tk k=>fin t h' tk k) hsz
end
section
variable {X:Cx}
theorem yN (hu:X.A.units < cLine):OpR X (compareOp .Eq) (fun x y H Q=>∃ a b xs,x=.ref a/\y=.ref b/\SqT X.K H a xs/\SqT X.K H b []/\Q (.bl xs.isEmpty) H):=by
 intro pins s σ H x y v u Q I rx ry h;obtain ⟨a,b,xs,rfl,rfl,ha,hb,q⟩:=h;cases rx;cases ry;obtain ⟨its,r1,p1,_⟩:=I.tuple ha;obtain ⟨cb,r2,p2,_⟩:=I.tuple hb;have e2:cb=[]:=r2.zero;subst e2;refine PySem.SeqAt.eq_tupleAt (e:=fun _=>true) p1 p2 hu (fun j h1 h2=>absurd h2 (by simp)) ?_
 have e3:((List.range (min its.toArray.size ([]:List Value).toArray.size)).all (fun _=>true) && its.toArray.size == ([]:List Value).toArray.size)=xs.isEmpty:=by
  have:=r1.length
  cases its with
  | nil =>
   cases r1;rfl
  | cons a r=>cases xs with
   | nil=>simp at this
   | cons b r'=>simp
 rw [e3];exact ⟨.bl _,H,I,rfl,q⟩
end
section
variable {prog:Program}{w:World}{A:Around}{E:Value->Shared->Prop}{s:Shared}
theorem Ar {j t:Addr}{i:Nat}{its:Array Value}{x:Value}{Q:Value->Shared->Prop}(hj:s.heap.IsTupleIter j t i)(ht:s.heap.IsTuple t its)(hx:its[i]?=some x)
  (hQ:∀ h',h'.IsTupleIter j t (i+1)->Heap.SameBut j s.heap h'->Q x { s with heap:=h' }):wpAny (model prog w) A (Builtin.SmallTypes.nextOf (.ref j)) Q E s:=by
 obtain ⟨o,ho,hc,hd⟩:=id hj;obtain ⟨p,hp,_,m,hm⟩:=ht;unfold Builtin.SmallTypes.nextOf;refine wpAny_bind (wpAny_callSpecial?_slot (name:=Str.ofString "__next__") hj.typeIs F.slot_tuple_iterator_next (wpAny_call_entry F.slot_tuple_iterator_next hj.typeIs F.entry_tuple_iterator_next ?_ (F.args_tuple_iterator_next_1 _)));show wpAny _ _ (field (.ref j) 0 >>= _) _ _ s;refine wpAny_bind (wpAny_field ho hd (x:=.ref t) rfl ?_);show wpAny _ _ (if (Value.ref t == Value.none)=true then _ else _) _ _ s;rw [if_neg (show ¬ ((Value.ref t == Value.none)=true) by intro z;exact zAg z)];show wpAny _ _ (field (.ref j) 1 >>= _) _ _ s;refine wpAny_bind (wpAny_field ho hd (x:=.int i 0) rfl (wpAny_bind (wpAny_seqItems hp hm ?_)));simp only [Int.toNat_natCast,hx]
 refine wpAny_bind (wpAny_setField ho hd (by simp) (wpAny_pure ⟨x,rfl,wpAny_pure (hQ _ ⟨_,Heap.get?_update_self _ ho (Obj.isFreed_of_fields (Obj.data_mapFields hd _)),(Obj.cls_mapFields ..).trans hc,by
  rw [Obj.data_mapFields hd]
  simp [rawInt]⟩ (Heap.SameBut.update ..))⟩))
theorem nU {j t:Addr}{i:Nat}{its:Array Value}{Q:Value->Shared->Prop}(hh:A.handled=none)(hj:s.heap.IsTupleIter j t i)(ht:s.heap.IsTuple t its)(hx:its[i]?=none)
  (hE:∀ h' e,Heap.ExtBut j s.heap h'->(∃ o,h'.get? e=some o/\o.cls=.type "StopIteration")->E (.ref e) { s with heap:=h' }):wpAny (model prog w) A (Builtin.SmallTypes.nextOf (.ref j)) Q E s:=by
 obtain ⟨o,ho,hc,hd⟩:=id hj;obtain ⟨p,hp,_,m,hm⟩:=ht;unfold Builtin.SmallTypes.nextOf;refine wpAny_bind (wpAny_callSpecial?_slot (name:=Str.ofString "__next__") hj.typeIs F.slot_tuple_iterator_next (wpAny_call_entry F.slot_tuple_iterator_next hj.typeIs F.entry_tuple_iterator_next ?_ (F.args_tuple_iterator_next_1 _)));show wpAny _ _ (field (.ref j) 0 >>= _) _ _ s;refine wpAny_bind (wpAny_field ho hd (x:=.ref t) rfl ?_);show wpAny _ _ (if (Value.ref t == Value.none)=true then _ else _) _ _ s;rw [if_neg (show ¬ ((Value.ref t == Value.none)=true) by intro z;exact zAg z)];show wpAny _ _ (field (.ref j) 1 >>= _) _ _ s;refine wpAny_bind (wpAny_field ho hd (x:=.int i 0) rfl (wpAny_bind (wpAny_seqItems hp hm ?_)));simp only [Int.toNat_natCast,hx];refine wpAny_bind (wpAny_rule (wpAny_bind (wpAny_setField ho hd (by simp) ?_)));show wpAny _ _ (newExc (.type "StopIteration") [] >>= _) _ _ _;refine wpAny_bind ?_;simp only [newExc,newTuple];refine wpAny_bind (wpAny_newObj_type (wpAny_bind (m:=firstArgMember _ _) (wpAny_of_eq (a:=Value.none) (by first | rfl | (simp only [firstArgMember];rfl)) (wpAny_newObj_type ?_ (by size_fits)))) (by size_fits));simp only [raiseNew];refine wpAny_bind (wpAny_handled ?_)
 first
  | rw [show A.in1.handled=none from hh]
  | rw [hh]
 exact zAv (zB1 (wpAny_throw (hE _ _ (((Heap.SameBut.update ..).extBut.push _).push _) ⟨_,zB2 _ rfl,rfl⟩)))
end
abbrev zA (h:Heap)(t:Addr):Heap:=h.push { cls:=.type "tuple_iterator",data:=.fields #[.ref t,.int 0 0] }
section
variable {X:Cx}
end
theorem IsTh.same {S:Addr->Prop}{H H':Hp}{v:V}{d:PyData}(h:IsTh S H v d)(s:Same H H'):IsTh S H' v d:=h.keep (fun b xs e=>s b _ e) (fun b o _ e=>s b o e) fun _ _ z _=>z
theorem IsThs.same {S:Addr->Prop}{H H':Hp}{v:List V}{d:List PyData}(h:IsThs S H v d)(s:Same H H'):IsThs S H' v d:=h.keep (fun b xs e=>s b _ e) (fun b o _ e=>s b o e) fun _ _ z _=>z
theorem Same.upd {H:Hp}{D:Addr}{o:HO}(h:H D=none):Same H (upd H D o):=fun b u e=>by rw [az (au e h)];exact e
theorem Same.updR {H H':Hp}{D:Addr}{o:HO}(s:Same H H')(h:H' D=none):Same H (L2.upd H' D o):=s.trans (Same.upd h)
theorem ul {K:Frag}{S:Addr->Prop}{te:TE}{a:Addr}{xs:List V}{ds:List PyData}(f:PyData->Bool){cK:St}{j:Nat}{H0:Hp}{Fin:List V->Hp->Prop}(hT:H0 a=some (.tup xs))(th:IsThs S H0 xs ds)(hl:xs.length < sizeLine)
  (oj:∀ v d H Q,d∈ds->Same H0 H->IsTh S H v d->(∀ H',Same H H'->Q (.bl (f d)) H')->te (cK.set j (some v)) H Q)
  (fin:∀ H',Same H0 H'->Fin (ds.map fun d=>V.bl (f d)) H'):jm (Itt K a) (bw j) tX te Fin cK H0:=by
 have hlen:=th.length;refine ⟨fun i m ys σ H=>m=xs.length - i/\i<=xs.length/\ys=(ds.take i).map (fun d=>V.bl (f d))/\(∀ o,σ.set j o=cK.set j o)/\Same H0 H,⟨_,rfl,zAp _,rfl,fun _=>rfl,Same.refl _⟩,?_⟩;rintro i m ys σ H ⟨rfl,hi,rfl,iL,hs⟩;have sq:SqT K H a xs:=SqT.of (hs _ _ hT);refine ⟨by rw [zA1,zAd];lia,?_⟩;by_cases ax:i < xs.length
 ·refine .inr ⟨⟨xs,xs[i],sq,by simp [ax]⟩,fun x H' y=>?_⟩;obtain ⟨e,y⟩:=y;subst e;have hx:=y xs sq;obtain ⟨d,hd,ht⟩:=(th.same hs).get hx;show te (σ.set j (some x)) H' _;rw [iL]
  refine oj x d H' _ (zB7 hd) hs ht fun H2 s2=>⟨xs.length - (i+1),by lia,rfl,ax,?_,fun o=>by rw [List.set_set],hs.trans s2⟩
  rw [zAj,hd];simp
 ·have e:i=xs.length:=by lia
  subst e;refine .inl ⟨⟨xs,sq,zA3 _⟩,?_⟩;rw [hlen,zAm];exact fin H hs
theorem Av {ds:List PyData}{f:PyData->Bool}:ds.map (fun d=>V.bl (f d))=(ds.map f).map V.bl:=by rw [zAr];rfl
theorem Gs {ds:List PyData}{f:PyData->Bool}:(ds.map f).all id=ds.all f:=by rw [List.all_map];rfl
section
variable {X:Cx}{es:List Expr}{t:TA}{pos:Pos}
end
section
variable {X:Cx}{a b c d:Expr}{ta tb tc td:TE}{pos:Pos}
def wJ (r r' EA:R2)(ta tb tc td:TE):TE:=fun σ H Q=>ta σ H fun x H1=>tb σ H1 fun y H2=>r x y H2 fun z H3=>∃ k,z=.bl k /\
 (if k=true then tc σ H3 fun x2 H4=>r' y x2 H4 fun z2 H5=>∃ k2,z2=.bl k2/\(if k2=true then td σ H5 fun x3 H6=>EA x2 x3 H6 Q else Q (.bl false) H5) else Q (.bl false) H3)
theorem yO {o1 o2 o3:CmpOp}{r r' EA:R2}(h1:OpR X (compareOp o1) r)(h2:OpR X (compareOp o2) r')(h3:OpR X (compareOp o3) EA)(ha:PE X a ta)(hb:PE X b tb)(hc:PE X c tc)(hd:PE X d td)
  (hm:lastMarks [o1,o2,o3] [b,c,d]=false:=by with_unfolding_all rfl):PE X (.Compare a [o1,o2,o3] [b,c,d] pos) (wJ r r' EA ta tb tc td):=by
 intro pins s σ H Q I h
 refine Compare_chain (thn (ha pins s σ H _ I h) fun v s1 ⟨x,H1,I1,r1,q1⟩=>chain_link (thn (hb pins s1 σ H1 _ I1 q1) fun u s2 ⟨y,H2,I2,r2,q2⟩ =>
  thn (h1 pins s2 σ H2 x y v u _ I2 r1 r2 q2) fun g s3 ⟨z,H3,I3,r3,k,e,q3⟩=>?_)) hm
 subst e;cases r3;refine wpAny_truthy_bool ?_
 cases k with
 | false=>exact ite_ff ⟨.bl false,H3,I3,rfl,q3⟩
 | true =>
  refine ite_tt (chain_link (thn (hc pins s3 σ H3 _ I3 q3) fun w' s4 ⟨z',H4,I4,r4,q4⟩=>thn (h2 pins s4 σ H4 y z' u w' _ I4 r2 r4 q4) fun g2 s5 ⟨z5,H5,I5,r5,k2,e2,q5⟩=>?_));subst e2;cases r5;refine wpAny_truthy_bool ?_
  cases k2 with
  | false=>exact ite_ff ⟨.bl false,H5,I5,rfl,q5⟩
  | true=>exact ite_tt (chain_last (thn (hd pins s5 σ H5 _ I5 q5) fun w6 s6 ⟨z6,H6,I6,r6,q6⟩=>h3 pins s6 σ H6 z' z6 w' w6 Q I6 r4 r6 q6))
end
def Ev (σ:St)(H:Hp)(t:TE)(v:V):Prop:=∀ Q:VK,Q v H->t σ H Q
section
variable {σ:St}{H:Hp}{ta tb tc td:TE}
theorem il {v:V}:Ev σ H (tC v) v:=fun _ h=>h
theorem gh {i:Nat}{v:V}(h:σ[i]?=some (some v)):Ev σ H (Dq i) v:=fun _ q=>⟨v,h,q⟩
theorem cT {p q:Int->Int->Bool}{i j k:Int}(a:Ev σ H ta (.int i))(b:Ev σ H tb (.int j))(c:Ev σ H tc (.int k)) :
  Ev σ H (v9 (rI0 fun i j=>.bl (p i j)) (rI0 fun i j=>.bl (q i j)) ta tb tc) (.bl (p i j && q j k)):=fun Q h=>a _ (b _ ⟨i,j,rfl,rfl,_,rfl,by
 cases e:p i j with
 | false =>
  rw [e] at h;exact bB h
 | true =>
  rw [e] at h
  exact bQ (c _ ⟨j,k,rfl,rfl,h⟩)⟩)
theorem yP {p q r:Int->Int->Bool}{i j k l:Int}(a:Ev σ H ta (.int i))(b:Ev σ H tb (.int j))(c:Ev σ H tc (.int k))(d:Ev σ H td (.int l)) :
  Ev σ H (wJ (rI0 fun i j=>.bl (p i j)) (rI0 fun i j=>.bl (q i j)) (rI0 fun i j=>.bl (r i j)) ta tb tc td) (.bl (p i j && (q j k && r k l))):=fun Q h=>a _ (b _ ⟨i,j,rfl,rfl,_,rfl,by
 cases e:p i j with
 | false =>
  rw [e] at h;exact bB h
 | true =>
  rw [e] at h;refine bQ (c _ ⟨j,k,rfl,rfl,_,rfl,?_⟩)
  cases e2:q j k with
  | false =>
   rw [e2] at h;exact bB h
  | true =>
   rw [e2] at h
   exact bQ (d _ ⟨k,l,rfl,rfl,h⟩)⟩)
theorem iQ {b c:Bool}(x:Ev σ H ta (.bl b))(y:b=true->Ev σ H tb (.bl c)):Ev σ H (Fq ta tb) (.bl (b && c)):=fun Q h=>x _ ⟨b,rfl,by
 cases e:b with
 | false =>
  rw [e] at h;exact bB h
 | true =>
  rw [e] at h
  exact bQ (y e _ h)⟩
end
structure Plain (e:Expr):Prop where
 eq:∀ (es:List Expr) (env:Env),starEach (e::es) env=(false,eval e env)::starEach es env
theorem iR {c j p}:Plain (.Constant c j p):=⟨fun _ _=>rfl⟩
theorem jt {x p}:Plain (.Name x p):=⟨fun _ _=>rfl⟩
theorem iT {es k p}:Plain (.Tuple es k p):=⟨fun _ _=>rfl⟩
theorem ju {es p}:Plain (.List es p):=⟨fun _ _=>rfl⟩
theorem jw {ks vs p}:Plain (.Dict ks vs p):=⟨fun _ _=>rfl⟩
theorem jx {f as ks p}:Plain (.Call f as ks p):=⟨fun _ _=>rfl⟩
theorem plain_bin {a o b p}:Plain (.BinOp a o b p):=⟨fun _ _=>rfl⟩
theorem nW {o a p}:Plain (.UnaryOp o a p):=⟨fun _ _=>rfl⟩
theorem lw {a b p}:Plain (.Subscript a b p):=⟨fun _ _=>rfl⟩
theorem jy {a b c p}:Plain (.ListComp a b c p):=⟨fun _ _=>rfl⟩
theorem lB {a b c p}:Plain (.Compare a b c p):=⟨fun _ _=>rfl⟩
section
variable {X:Cx}{e:Expr}{es:List Expr}{te:TE}{t:TA}
theorem aq (ha:PE X e te)(hr:PA X es t)(hp:Plain e:=by first | exact jt | exact iR | exact jx | exact iT | exact ju | exact plain_bin | exact lw | exact nW | exact jw | exact jy | exact lB):PA X (e::es) (tR te t) :=
 aQ ha hr (hp.eq _ _)
end
structure AA (X:Cx)(es:List Expr)(t:TA):Prop where
 run:PA X es t
section
variable {X:Cx}{e:Expr}{es:List Expr}{te:TE}{t:TA}{pos:Pos}
theorem f9:AA X [] Gf:=⟨aj⟩
theorem Ec (ha:PE X e te)(hr:AA X es t)(hp:Plain e:=by first | exact jt | exact iR | exact jx | exact iT | exact ju | exact plain_bin | exact lw | exact nW | exact jw | exact jy | exact lB):AA X (e::es) (tR te t) :=
 ⟨aQ ha hr.run (hp.eq _ _)⟩
theorem wK {x1}(h:AA X es t):PE X (.Tuple es x1 pos) (Gg t):=bD h.run
theorem Ed (h:AA X es t):PE X (.List es pos) (Dy t):=cX h.run
end
inductive IsInts:List Expr->List Int->Prop
 | nil:IsInts [] []
 | cons {i:Int} {j:Nat} {p:Pos} {es:List Expr} {is:List Int}:IsInts es is->IsInts (.Constant (.int i) j p::es) (i::is)
def FN (is:List Int):TA:=fun _ H Q=>Q (is.map V.int) H
theorem mL {X:Cx}:∀ {es:List Expr} {is:List Int},IsInts es is->PA X es (FN is)
 | _,_,.nil=>fun _ _ _ _ H Q I h=>Calls.spliced_nil ⟨[],H,I,.nil,h⟩
 | _,_,@IsInts.cons i j p es is r=>by
  have h:=aq (X:=X) (aA (i:=i) (j:=j) (pos:=p)) (mL r);exact h
theorem cZ {X:Cx}{es:List Expr}{k:Nat}{pos:Pos}{t:TGs}{K:Frag}{n:Nat}(hK:X.K=K)(hc:X.calm=true)(h:PGs X es t)(hn:(assignEach es X.env).length=n:=by rfl)(gL:(assignEach es X.env).findIdx? (·.1)=none:=by rfl) :
  PG X (.Tuple es k pos) (jj K n t):=by
 subst hK;exact bJ hc h hn gL
structure BE (X:Cx)(e:Expr)(t:TE):Prop where
 run:PE X e t
section
variable {X:Cx}{e:Expr}{es:List Expr}{te:TE}{t:TA}{pos:Pos}
theorem eO (ha:BE X e te)(hr:AA X es t)(hp:Plain e:=by first | exact jt | exact iR | exact jx | exact iT | exact ju | exact plain_bin | exact lw | exact nW | exact jw | exact jy | exact lB):AA X (e::es) (tR te t):=Ec ha.run hr hp
theorem wL (h:BE X e te):PE X e te:=h.run
theorem Gu {i:Int}{j}:BE X (.Constant (.int i) j pos) (tC (.int i)):=⟨aA⟩
theorem Ib {b:Bool}{j}:BE X (.Constant (.bool b) j pos) (tC (.bl b)):=⟨mZ⟩
theorem nY {x1}(h:AA X es t):BE X (.Tuple es x1 pos) (Gg t):=⟨bD h.run⟩
theorem rQ (h:AA X es t):BE X (.List es pos) (Dy t):=⟨cX h.run⟩
end
structure BS (X:Cx)(st:Stmt)(t:TS):Prop where
 run:PS X st t
structure BSs (X:Cx)(FE:List Stmt)(t:TS):Prop where
 run:PSs X FE t
section
variable {X:Cx}{st:Stmt}{rest:List Stmt}{t u:TS}{pos:Pos}
theorem iD (h:BSs X rest t):PSs X rest t:=h.run
theorem aJ (h1:BS X st t)(h2:BSs X rest u):BSs X (st::rest) (Ds t u):=⟨aB h1.run h2.run⟩
theorem bT (h1:BS X st t):BSs X [st] t:=⟨aD h1.run⟩
theorem vq {i:Nat}{x:Str}{e:Expr}{te:TE}{pos':Pos}(hN:X.N.Nodup)(hi:X.N[i]?=some x)(hx:Loc X.env.scope x)(he:BE X e te)(hs:swapsWith e (some (.Name x pos')) pos.line X.env=pure false:=by rfl)(hf:X.fn x=true\/X.env.scope.names.lookup x=some .local:=by first | exact .inl rfl | exact .inr rfl | assumption) :
  BS X (.Assign [.Name x pos'] e pos) (yz te (bw i)):=⟨kZ hN hi hx he.run hs hf⟩
theorem rR {e:Expr}{te:TE}(he:BE X e te):BS X (.Return (some e) pos) (Gb te):=⟨aR he.run⟩
theorem Aw {op:Operator}{r:R2}{a b:Expr}{ta tb:TE}(ho:OpR X (binaryOp op) r)(ha:BE X a ta)(hb:BE X b tb):BE X (.BinOp a op b pos) (tOp r ta tb):=⟨aU ho ha.run hb.run⟩
theorem Ax {r:R2}{a b:Expr}{ta tb:TE}(hr:IxR X r)(ha:BE X a ta)(hb:BE X b tb)(hs:rC b):BE X (.Subscript a b pos) (tOp r ta tb):=⟨Fz hr ha.run hb.run hs⟩
end
theorem pgn {X:Cx}{x:Str}{pos:Pos}(i:Nat)(hN:X.N.Nodup)(hi:X.N[i]?=some x:=by rfl)(hx:Loc X.env.scope x:=by exact Or.inl rfl)(hf:X.fn x=true\/X.env.scope.names.lookup x=some .local:=by first | exact .inl rfl | exact .inr rfl):PG X (.Name x pos) (bw i):=bh hN hi hx hf
theorem pss {X:Cx}{x:Str}{pos pos':Pos}{e:Expr}{te:TE}(i:Nat)(hN:X.N.Nodup)(he:PE X e te)(hi:X.N[i]?=some x:=by rfl)(hx:Loc X.env.scope x:=by exact Or.inl rfl)(hs:swapsWith e (some (.Name x pos')) pos.line X.env=pure false:=by rfl)(hf:X.fn x=true\/X.env.scope.names.lookup x=some .local:=by first | exact .inl rfl | exact .inr rfl):PS X (.Assign [.Name x pos'] e pos) (yz te (bw i)):=kZ hN hi hx he hs hf
theorem gA {X:Cx}{x:Str}{pos pos':Pos}{e:Expr}{te:TE}(i:Nat)(hN:X.N.Nodup)(he:BE X e te)(hi:X.N[i]?=some x:=by rfl)(hx:Loc X.env.scope x:=by exact Or.inl rfl)(hs:swapsWith e (some (.Name x pos')) pos.line X.env=pure false:=by rfl)(hf:X.fn x=true\/X.env.scope.names.lookup x=some .local:=by first | exact .inl rfl | exact .inr rfl):BS X (.Assign [.Name x pos'] e pos) (yz te (bw i)):=vq hN hi hx he hs hf
theorem pX {X:Cx}{r:R2}{a b:Expr}{ta tb:TE}{pos:Pos}(hr:IxR X r)(ha:PE X a ta)(hb:PE X b tb)(hs:rC b:=by exact fun _ _=>rfl):PE X (.Subscript a b pos) (tOp r ta tb):=Fz hr ha hb hs
theorem zL {n:Nat}(h:Nat.ble n 1000=true:=by rfl):n<=sizeLine:=Nat.le_trans (Nat.le_of_ble_eq_true h) (by decide)
theorem cI {X:Cx}{bo:Env}{x:Str}{i:Nat}{N:List Str}{r:List (Option Nat)}(h:Caps X bo N r)(h1:X.N[i]?=some x:=by rfl)(h2:X.env.kindOf x=some .cell:=by rfl)(h3:bo.cells.lookup x=X.env.cells.lookup x:=by rfl)(h4:bo.kindOf x=some .cell:=by rfl):Caps X bo (x::N) (some i::r):=⟨⟨h1,.inl h2,h3,.inl h4⟩,h⟩
theorem fS {N P:List Str}{sc:Scope}(h1:sc.kind=.function:=by rfl)(h2:sc.isCoroutine=false:=by rfl)(h3:sc.isGenerator=false:=by rfl)(h4:N.Nodup:=by decide +kernel)(h5:N.take P.length=P:=by rfl)(h6:∀ x∈P,sc.names.lookup x=some .local\/sc.names.lookup x=some .cell:=by decide +kernel)(h7:∀ y∈sc.names,y.2≠.free:=by decide +kernel):FnScope N P sc:=⟨h1,h2,h3,h4,h5,h6,h7⟩
section
variable {X:Cx}{es:List Expr}{t:TA}{pos:Pos}
end
section
variable {S:Addr->Prop}{σ:St}{H:Hp}
end
section
variable {D:Ends}{σ:St}{H:Hp}{t u:TS}{te:TE}{ta:TA}{g:TG}{Q:VK}
theorem dD (h:D.nx σ H):Ft D σ H:=h
theorem aC (h:t { D with nx:=u D } σ H):Ds t u D σ H:=h
theorem cC (h:∀ c:St->Hp->Prop,(∀ ai H',u D ai H'->c ai H')->t { D with nx:=c } σ H):Ds t u D σ H:=h (u D) fun _ _ z=>z
theorem aW (h:te σ H fun x H1=>g x σ H1 D.nx):yz te g D σ H:=h
theorem iU (h:te σ H D.rt):Gb te D σ H:=h
theorem aH {i:Nat}{v:V}{R:St->Hp->Prop}(h:R (σ.set i (some v)) H):bw i v σ H R:=h
end
section
variable {X:Cx}{pos:Pos}
def Ie (i j k:Nat)(ta:TA):TS:=fun D σ H=>ta σ H fun vs H1=>∃ v w u,vs=[v,w,u]/\D.nx (((σ.set i (some v)).set j (some w)).set k (some u)) H1
theorem Ef {i j k:Nat}{x y z:Str}{a b c:Expr}{ta:TA}{px py pz pt:Pos}{kt k2 pt2}(hc:X.calm=true)(hN:X.N.Nodup)(hi:X.N[i]?=some x)(hj:X.N[j]?=some y)(hk:X.N[k]?=some z)(cq:i≠j)(Pz:i≠k)(GO:j≠k)
  (hx:X.env.scope.names.lookup x=some .local) (hy:X.env.scope.names.lookup y=some .local) (hz:X.env.scope.names.lookup z=some .local) (ha:PA X [a,b,c] ta)
  (hw:swappedStores [.Tuple [.Name x px,.Name y py,.Name z pz] kt pt] (.Tuple [a,b,c] k2 pt2) X.env=pure (some [x,y,z]))
  (hs:swapsWithSole [.Tuple [.Name x px,.Name y py,.Name z pz] kt pt] (.Tuple [a,b,c] k2 pt2) pos.line X.env=pure false:=by rfl) :
  PS X (.Assign [.Tuple [.Name x px,.Name y py,.Name z pz] kt pt] (.Tuple [a,b,c] k2 pt2) pos) (Ie i j k ta):=by
 intro pins s σ H D I h;refine Assign_Tuple_swapped (names:=[x,y,z]) (Tuple_ (thn (ha _ pins s σ H _ I h) fun us s1 ⟨vs,H1,I1,r1,q1⟩=>?_)) hs hw;obtain ⟨v,w,u,e1,q1⟩:=q1;subst e1
 obtain ⟨u1,u2,u3,rfl,rv,fq,ru⟩:∃ u1 u2 u3,us=[u1,u2,u3]/\RelV v u1/\RelV w u2/\RelV u u3:=by
  cases r1 with
  | cons p q =>
   cases q with
   | cons p' q' =>
    cases q' with
    | cons p2 q2 =>
     cases q2;exact ⟨_,_,_,rfl,p,p',p2⟩
 refine wpAny_newObj_type ?_ (by show 3<=sizeLine;decide);have I2:Inv X pins σ H1 { s1 with heap:=s1.heap.push { cls:=.type "tuple",data:=.seq [u1,u2,u3].toArray } }:=I1.kept (t':=s1.toks) fun b o e=>zAy _ e;refine unpackItems_tuple (items:=#[u1,u2,u3]) (I.ok.hd hc) (IsTup.new s1.heap _) fun h' fh=>?_;have I3:=I2.kept (h':=h') (t':=s1.toks) fun b o e=>fh b o (zB6 (zB0 e)) e;show wpAny _ _ (assignInOrder [fun v=>bindName X.env z v,fun v=>bindName X.env y v,fun v=>bindName X.env x v] [u3,u2,u1]) _ _ _;refine assignInOrder_cons (wpAny_bindName (eF I3 hN hk (.inl hz) ru (fun s2 I4=>?_) (.inr hz)));refine assignInOrder_cons (wpAny_bindName (eF I4 hN hj (.inl hy) fq (fun s3 I5=>?_) (.inr hy)));refine assignInOrder_cons (wpAny_bindName (eF I5 hN hi (.inl hx) rv (fun s4 I6=>assignInOrder_nil ?_) (.inr hx)));rw [List.set_comm _ _ (Ne.symm cq),List.set_comm _ _ (Ne.symm Pz),List.set_comm _ _ (Ne.symm GO)] at I6;exact ⟨_,H1,I6,q1⟩
end
theorem yQ {prog:Program}{w:World}{A:Around}(hh:A.handled=none)(it t:Addr)(fA:t≠it)(its:Array Value) :
  Draws prog w A it [it,t] its.size (fun i v=>its[i]?=some v) (fun i h=>h.IsTupleIter it t i/\h.IsTuple t its) where
 live:=fun _ _ st=>let ⟨o,ho,_⟩:=st.1;⟨o,ho⟩
 frame:=fun _ _ _ st hk=>by
  obtain ⟨⟨o,h1,r1⟩,⟨o2,h2,r2⟩⟩:=st;exact ⟨⟨o,hk it (by simp) o h1,r1⟩,⟨o2,hk t (by simp) o2 h2,r2⟩⟩
 item:=fun i s Q E hi st hQ=>by
  refine Ar st.1 st.2 (x:=its[i]) (by simp [hi]) fun h' h1 h2=>hQ _ h' s.toks (by simp [hi]) ⟨h1,?_⟩ h2;obtain ⟨o,e,r⟩:=st.2;exact ⟨o,h2.extBut _ _ fA e,r⟩
 done:=fun s Q E st hE=>nU hh st.1 st.2 (by simp) hE
theorem nZ (t:Addr)(its:Array Value) :
  Meets (Builtin.«enumerate.__new__» ⟨[.type "enumerate",.ref t],[]⟩) (fun _ R s=>s.heap.IsTuple t its /\
   R (.ok (.ret (.ref (zA s.heap t).objs.size))) { s with heap:=(zA s.heap t).push { cls:=.type "enumerate",data:=.fields #[.none,.bool false,.ref s.heap.objs.size,rawInt 0,.none,.none] } }) :=
 .of_wp fun prog w A R s h=>by
  obtain ⟨hp,g,d,tk,os⟩:=s;obtain ⟨ht,h⟩:=h;have AV:=sub_enumerate;have hT:Heap.IsTuple (Shared.heap ⟨hp,g,d,tk,os⟩) t its:=ht
  wp_walk
  refine wpAny_stack_any fun st=>zB1 ?_;split
  ·rename_i c _ _ _ _ _
   cases (c == Value.type "enumerate")
   ·wp_walk using wpAny_pyIter_tuple hT
    exact ⟨_,rfl,h⟩
   ·wp_walk using wpAny_pyIter_tuple hT
    exact ⟨_,rfl,h⟩
  ·wp_walk using wpAny_pyIter_tuple hT
   exact ⟨_,rfl,h⟩
theorem pK {prog:Program}{w:World}{A:Around}{E:Value->Shared->Prop}{s:Shared}{t:Addr}{its:Array Value}{Q:Value->Shared->Prop}(ht:s.heap.IsTuple t its)
  (h:∀ h',IsEnum h' (s.heap.objs.size+1) s.heap.objs.size 0 .none->h'.IsTupleIter s.heap.objs.size t 0->(∀ c o,s.heap.get? c=some o->h'.get? c=some o)->Q (.ref (s.heap.objs.size+1)) { s with heap:=h' }) :
  wpAny (model prog w) A (call (.type "enumerate") [.ref t]) Q E s:=by
 refine callType_new F.called_enumerate (by decide) (F.typeCall_enumerate_1 _) (F.newCall_enumerate_1 _) (fun obj=>F.args_object_init_2 obj _) F.entry_enumerate_new (nZ t its) ⟨ht,?_⟩;have e1:(zA s.heap t).objs.size=s.heap.objs.size+1:=Heap.size_push ..;have g2:=zB2 (zA s.heap t) (o:={ cls:=.type "enumerate",data:=.fields #[.none,.bool false,.ref s.heap.objs.size,rawInt 0,.none,.none] }) rfl;have g1:=zAy { cls:=.type "enumerate",data:=.fields #[.none,.bool false,.ref s.heap.objs.size,rawInt 0,.none,.none] } (zB2 s.heap (o:={ cls:=.type "tuple_iterator",data:=.fields #[.ref t,.int 0 0] }) rfl);show _/\_;rw [e1] at g2 ⊢;exact ⟨⟨_,g2,rfl⟩,h _ g2 ⟨_,g1,rfl,rfl⟩ fun c o x=>zAy _ (zAy _ x)⟩
def Ite (K:Frag)(a:Addr):It :=
 ⟨fun i H=>∃ xs x,SqT K H a xs/\xs[i]?=some x,
  fun i H v H'=>∃ T,H T=none/\v=.ref T/\∀ xs,SqT K H a xs->∃ x,xs[i]?=some x/\H'=upd H T (.tup [.int i,x]),
  fun i H=>∃ xs,SqT K H a xs/\xs.length<=i⟩
def tne (e it a:Addr)(i:Nat)(h:Heap):Prop:=(∃ old,IsEnum h e it i old)/\h.IsTupleIter it a i
theorem lC {P:Program}{w:World}{K:Frag}{es:List Expr}{k:Nat}{pos:Pos}{e it a:Addr}(ub:e≠it)(GS:e≠a)(GU:a≠it) :
  Turn P w K (.Tuple es k pos) (Ite K a) [e,it] e (tne e it a) where
 mem:=by simp
 obj:=fun i h st c hc=>by
  obtain ⟨⟨old,s1⟩,⟨o4,s4,c4,d4⟩⟩:=st;simp only [List.mem_cons,List.not_mem_nil,or_false] at hc;rcases hc with z | z <;> subst z
  ·exact ⟨_,s1,fun v q=>by cases q⟩
  ·exact ⟨_,s4,fun v q=>by rw [d4] at q;cases q⟩
 keep:=fun i h h' st kp=>by
  obtain ⟨⟨old,s1⟩,s4⟩:=st;exact ⟨⟨old,kp e (by simp) _ s1⟩,s4.at fun o z=>kp it (by simp) o z⟩
 item:=by
  intro X hP hw hK hc i pins s σ H E I hf st hg;subst hP hw hK;obtain ⟨⟨old,s1⟩,s4⟩:=st;obtain ⟨xs,x,fE,hx⟩:=hg;obtain ⟨its,rv,p,_⟩:=I.tuple fE;obtain ⟨ux,om,rx⟩:=rv.get hx
  have ax:i < its.toArray.size:=by
   have:=(zAa.mp om).1;simpa using this
  have D:=yQ (prog:=X.prog) (w:=X.w) (A:=X.A.in1) (I.ok.hd hc) it a GU its.toArray;refine wpAny_pyNext_enum_itemD D s1 ⟨s4,p⟩ ax ub (by simp [ub,GS]) fun u h1 tk hu g1 g3 g5 g6 kp=>?_
  have eu:u=ux:=by
   have hu:its.toArray[i]?=some u:=hu;rw [List.getElem?_toArray,om] at hu;exact (zAl hu).symm
  subst eu;refine ⟨_,rfl,?_⟩;refine wpAny_letOwnedTupleGo_enum g1 fun h2 e1 sb=>?_
  have live:∀ c,c∈[e,it]->∃ o,s.heap.get? c=some o:=fun c ah=>by
   simp only [List.mem_cons,List.not_mem_nil,or_false] at ah;rcases ah with q | q <;> subst q
   ·exact ⟨_,s1⟩
   ·exact let ⟨o,h,_⟩:=s4;⟨o,h⟩
  have ne:∀ c,c∈[e,it]->c≠s.heap.objs.size:=fun c ah z=>by
   obtain ⟨o,ho⟩:=live c ah;exact absurd (zB0 ho) (by rw [z];exact Nat.lt_irrefl _)
  have hT:H s.heap.objs.size=none:=I.hok.fresh (zA3 _)
  have kept:∀ c o,c ∉ [e,it]->s.heap.get? c=some o->h2.get? c=some o:=fun c o ah z =>
   sb.extBut _ _ (fun q=>ah (by simp [q])) (kp c o (fun q=>ah (by simp [q])) (fun q=>ah (by simp [q])) z)
  have trk:∀ c o,H c=some o->c ∉ [e,it]:=fun c o z ah=>by
   have:=(hf c ah).1;rw [z] at this;cases this
  have gT:h2.get? s.heap.objs.size=some { cls:=.type "tuple",data:=.seq #[.int i tk,u] }:=sb.extBut _ _ (Ne.symm (ne e (by simp))) g5
  have gX:HOk X.prog X.w (upd H s.heap.objs.size (.tup [.int i,x])) h2:=fun c o z=>by
   by_cases hb:c=s.heap.objs.size
   ·subst hb;rw [aa] at z;cases z;exact ⟨by show 2<=sizeLine;decide,[.int i tk,u],.cons ⟨tk,rfl⟩ (.cons rx .nil),_,gT,rfl,_,rfl⟩
   ·rw [az hb] at z
    refine (I.hok c o z).stay (fun d v hd q=>kept d v ?_ q) (fun d q=>by rw [az (au q hT)];exact q) fun d l q=>by rw [az (au q hT)];exact q
    rcases hd with e' | e'
    ·rw [e'];exact trk c o z
    ·exact trk d _ e'
  have I2:Inv X pins σ (upd H s.heap.objs.size (.tup [.int i,x])) { s with heap:=h2,toks:=tk+1 }:=by
   refine I.step (g':=s.gens) (d':=s.drawn) (t':=tk+1) (ch:=[e,it]) (fun c ah=>?_) (fun c o _ _ hn z _=>kept c o hn z) (fun c o _ _ hn z _=>⟨o.slots,kept c o hn z⟩)
    (fun c o _ z n=>by rw [az (zB6 (zB0 z))];exact n) (fun c o hn z=>⟨o,kept c o hn z⟩) (fun c l z=>by rw [az (au z hT)];exact z) (fun c o l z=>by rw [az (au z hT)];exact z)
    (fun c l z=>⟨#[],by rw [az (au z hT),z];simp⟩) (fun m hm=>?_) gX I.bare
   ·obtain ⟨f0,f1,f2,f3,f4,f5⟩:=hf c ah;exact ⟨f3,f1,f4,f5⟩
   ·obtain ⟨o,dQ,ep,ho,r⟩:=hm;refine ⟨o,dQ,ep,kept _ o (fun ah=>?_) ho,r⟩;exact (hf _ ah).2.1 rfl
  refine ⟨.ref s.heap.objs.size,_,I2,rfl,⟨s.heap.objs.size,hT,rfl,fun GV mP=>⟨x,?_,rfl⟩⟩,⟨⟨u,?_⟩,?_⟩,fun c ah=>?_⟩
  ·rw [I.tuple_inj mP fE];exact hx
  ·have:=e1;rw [show (((i+1:Nat):Int))=(i:Int)+1 by lia];exact this
  ·exact g3.1.extBut sb.extBut ub.symm
  ·rw [az (ne c ah)];exact (hf c ah).1
 done:=by
  intro X hP hw hK hc i pins s σ H E I hf st hg;subst hP hw hK;obtain ⟨⟨old,s1⟩,s4⟩:=st;obtain ⟨xs,fE,hlen⟩:=hg;obtain ⟨its,rv,p,_⟩:=I.tuple fE;have hl:=rv.length
  have hT:s.TypeIs (.ref e) "enumerate" := ⟨_,s1,rfl⟩
  have fin:∀ h',Heap.ExtBut it s.heap h'->Inv X pins σ H { s with heap:=h' }:=fun h' kp=>by
   obtain ⟨f0,f1,f2,f3,f4,f5⟩:=hf it (by simp);exact I.turned (t':=s.toks) (fun b o hb z=>kp b o hb z) f0 f1 f3 f4 f5
  unfold pyNext;refine wpAny_bind (wpAny_attempt (wpAny_callSpecial?_slot (name:=Str.ofString "__next__") hT F.slot_enumerate_next (wpAny_call_entry F.slot_enumerate_next hT F.entry_enumerate_next ?_ (F.args_enumerate_next_1 _))));show wpAny _ _ (field (.ref e) 2 >>= _) _ _ _;refine wpAny_bind (wpAny_field s1 rfl (x:=.ref it) rfl ?_);refine wpAny_bind (nU (I.ok.hd hc) s4 (show s.heap.IsTuple a its.toArray from p) (by simp;lia) fun h' x rj fh=>?_);obtain ⟨o,ho,GW⟩:=fh;refine wpAny_bind (wpAny_isInstance (T:="StopIteration") (b:=true) ⟨o,ho,GW⟩ isSubtype_stop (wpAny_pure ⟨rfl,fin h' rj⟩))
 self:=fun _ _ _ _ _ st h=>wpAny_pyIter_enum st.1.choose_spec h
section
variable {X:Cx}
def Ay (K:Frag)(t:TA):TI:=fun σ H R=>t σ H fun vs H1=>∃ a xs,vs=[.ref a]/\SqT K H1 a xs/\R (Ite K a) H1
theorem pi_enum {es:List Expr}{k:Nat}{tp:Pos}{a:Expr}{ta:TA}{p pos:Pos}(hg:Gl X "enumerate")(hm:X.mg "enumerate" = none)(ha:PA X [a] ta)(hs:starEach [a] X.env=[(false,eval a X.env)]:=by rfl) :
  PI X (.Tuple es k tp) (.Call (.Name "enumerate" p) [a] [] pos) (Ay X.K ta):=by
 intro pins s σ H R I h;refine Call_ (gU I hg hm boot_enumerate (PyProof.Rows.callWith_type1 (thn (ha pos pins s σ H _ I h) fun us s1 ⟨vs,H1,I1,r1,q1⟩=>?_) hs rfl));obtain ⟨x,xs,e,hx,q⟩:=q1;subst e;obtain ⟨u,rfl,ru⟩:=vals1 r1;cases ru;obtain ⟨its,_,p1,_⟩:=I1.tuple hx;refine pK (show s1.heap.IsTuple x its.toArray from p1) fun h' z1 z4 kp=>?_;refine wpAny_pyIter_enum z1 ?_;have lx:x < s1.heap.objs.size:=by obtain ⟨_,e,_⟩:=(show s1.heap.IsTuple x its.toArray from p1);exact zB0 e
 refine ⟨_,_,_,_,H1,rfl,I1.kept (t':=s1.toks) kp,lC (e:=s1.heap.objs.size+1) (it:=s1.heap.objs.size) (a:=x) (Nat.succ_ne_self _) (Nat.ne_of_gt (Nat.lt_succ_of_lt lx)) (zB6 lx),⟨⟨_,z1⟩,z4⟩,fun c hc=>?_,q⟩
 have hle:s1.heap.objs.size<=c:=by
  simp only [List.mem_cons,List.not_mem_nil,or_false] at hc;rcases hc with q | q <;> subst q
  ·exact Nat.le_add_right _ 1
  ·exact zA3 _
 exact I1.fpOk hle (I1.hok.fresh hle)
end
theorem gF {K:Frag}{a:Addr}{xs:List V}{g:TG}{tb:TS}{D:Ends}{σ:St}{H:Hp}(Pv:Nat->St->Hp->Prop)(h0:Pv 0 σ H)(hl:∀ i σ H,i<=xs.length->Pv i σ H->SqT K H a xs)
  (hs:∀ i x σ H T,xs[i]?=some x->Pv i σ H->H T=none->g (.ref T) σ (upd H T (.tup [.int i,x])) fun aT H2=>tb { D with nx:=Pv (i+1),ct:=Pv (i+1),bk:=D.nx } aT H2) (hd:∀ σ H,Pv xs.length σ H->D.nx σ H) :
  ∃ W:Nat->Nat->St->Hp->Prop,(∃ m,W 0 m σ H)/\∀ i m σ H,W i m σ H ->
   ((Ite K a).stop i H/\D.nx σ H)\/((Ite K a).go i H/\∃ N:St->Hp->Prop,(∀ ai H',N ai H'->∃ m',m' < m/\W (i+1) m' ai H')/\∀ x H',(Ite K a).yld i H x H'->g x σ H' fun aT H2=>tb { D with nx:=N,ct:=N,bk:=D.nx } aT H2):=by
 refine ⟨fun i m σ H=>m=xs.length - i/\i<=xs.length/\Pv i σ H,⟨xs.length,by simp,Nat.zero_le _,h0⟩,?_⟩;rintro i m σ H ⟨rfl,hi,p⟩;have q:=hl i σ H hi p;by_cases ax:i < xs.length
 ·refine .inr ⟨⟨xs,xs[i],q,by simp [ax]⟩,Pv (i+1),fun ai H' p'=>⟨xs.length - (i+1),by lia,rfl,ax,p'⟩,fun x H' y=>?_⟩;obtain ⟨T,nT,rfl,y⟩:=y;obtain ⟨x,ex,rfl⟩:=y xs q;exact hs i x σ H T ex p nT
 ·have e:i=xs.length:=by lia
  subst e;exact .inl ⟨⟨xs,q,zA3 _⟩,hd σ H p⟩
section
variable {X:Cx}
theorem pL (hc:X.calm=true):dJ X (.builtin "min") (fun xs H Q=>∃ (p:Addr) (ns:List Int),xs=[.ref p]/\SqL X.K H p (ns.map V.int)/\ns≠[]/\∀ M,M∈ns->(∀ a∈ns,M<=a)->Q (.int M) H):=by
 intro pins s σ H xs us Q I r h;obtain ⟨p,ns,rfl,hq,fA,q⟩:=h;obtain ⟨u,rfl,ru⟩:=vals1 r;cases ru;obtain ⟨its,rv,pl,hz⟩:=I.list hq;have hi:IntsAre its ns:=intsAre_of rv;obtain ⟨zs,ez⟩:=(hi.allInts:AllInts its.toArray).items;have en:numsOf its=ns:=hi.numsOf;have hl:s.heap.IsList p (intItems zs):=ez ▸ pl.isList
 have aE:0 < zs.size:=by
  have e1:(intItems zs).size=its.length:=by rw [<- ez,zA8]
  have e2:=rv.length;rw [zA1] at e2;have e3:0 < ns.length:=List.length_pos_iff.mpr fA;simp only [intItems,Array.size_map] at e1;lia
 have hn:numsOf (intItems zs).toList=ns:=by rw [<- ez];exact en
 refine min_intList (I.ok.hd hc) hl aE fun v h' tk hv hk=>?_;obtain ⟨t,rfl⟩:=intItems_at hv;obtain ⟨h1,h2⟩:=argBest_lt (numAt zs) (zs.size - 1);rw [nums_intItems] at hn;refine ⟨.int _,H,I.kept (t':=tk) hk,⟨t,rfl⟩,q _ ?_ fun a ha=>?_⟩
 ·rw [<- hn,numAt_eq];exact getD_mem (by rw [zA1,zA9];lia)
 ·rw [<- hn] at ha;obtain ⟨j,hj,rfl⟩:=mem_getD ha;rw [zA1,zA9] at hj;rw [<- numAt_eq];exact h2 j (by lia)
inductive RCatT0I (K:Frag)(x:V)(y:V)(H:Hp)(Q:VK):Prop
 | mk:∀ a b ys,(x=.ref a)->(y=.ref b)->(SqT K H a [])->(SqT K H b ys)->(Q (.ref b) H)->RCatT0I K x y H Q
def Gv (K:Frag):R2:=fun x y H Q=>RCatT0I K x y H Q
open Builtin in
theorem Az (l b:Addr)(its:Array Value)(n m:Nat)(dd xI:Option Addr)(sl tj:Array (Option Value)) :
  Meets (Builtin.«tuple.__add__» ⟨[.ref l,.ref b],[]⟩) (fun _ R s=>s.heap.get? l=some { cls:=.type "tuple",dict:=dd,data:=.seq #[] n,slots:=sl }/\s.heap.get? b=some { cls:=.type "tuple",dict:=xI,data:=.seq its m,slots:=tj }/\R (.ok (.ret (.ref b))) s):=by
 refine .of_wp fun prog w A R s h=>?_;obtain ⟨hp,g,d,tk,os⟩:=s;obtain ⟨hl,hb,h⟩:=h;have f2:=PySem.AutoSeq1.sub_tuple_tuple
 wp_walk
 exact ⟨_,rfl,h⟩
theorem Ba:OpR X (binaryOp .Add) (Gv X.K):=by
 intro pins s σ H x y v u Q I rx ry h;obtain ⟨a,b,ys,rfl,rfl,ha,hb,q⟩:=h;cases rx;cases ry;obtain ⟨its,r1,p1,_⟩:=I.tuple ha;obtain ⟨cb,r2,p2,_⟩:=I.tuple hb;have e:its=[]:=r1.zero;subst e;obtain ⟨⟨cls,dd,data,sl⟩,ho,hc,n,hd⟩:=id p1;obtain ⟨⟨FK,xI,data2,tj⟩,tq,AK,n2,hd2⟩:=id p2;simp only at hc hd AK hd2;subst hc hd AK hd2;exact concat_meets ⟨_,ho,rfl⟩ ⟨_,tq,rfl⟩ noFill_tuple_add seq_tuple_add PySem.F.slot_tuple_add PySem.F.entry_tuple_add (PySem.F.args_tuple_add_2 _ _) (Az a b cb.toArray n n2 dd xI sl tj) ⟨ho,tq,.ref b,H,I,rfl,q⟩
theorem Bb:OpR X (binaryOp .Add) (fun x y H Q=>∃ a b xs ys,x=.ref a/\y=.ref b/\SqT X.K H a xs/\SqT X.K H b ys/\ys≠[]/\xs.length+ys.length<=sizeLine/\(xs=[]->Q (.ref b) H)/\(xs≠[]->∀ p,H p=none->Q (.ref p) (upd H p (.tup (xs++ys))))):=by
 intro pins s σ H x y v u Q I rx ry h;obtain ⟨a,b,xs,ys,rfl,rfl,ha,hb,hy,hz,q1,q2⟩:=h;by_cases hx:xs=[]
 ·subst hx;exact Ba pins s σ H _ _ v u Q I rx ry ⟨a,b,ys,rfl,rfl,ha,hb,q1 rfl⟩
 ·exact DK pins s σ H _ _ v u Q I rx ry ⟨a,b,xs,ys,rfl,rfl,ha,hb,hx,hz,fun z=>absurd z hy,fun _=>q2 hx⟩
end
section
variable {prog:Program}{w:World}{A:Around}{E:Value->Shared->Prop}{s:Shared}
open HT in
theorem jL {t sl:Addr}{items:Array Value}{vl vu:Value}{lo hi:Option Int}{Q:Value->Shared->Prop}(ht:IsTup s.heap t items)(hs:s.heap.IsSliceOf sl vl vu .none)(pl:IsPart vl lo)(pu:IsPart vu hi)
  (h1:sIx items.size 0 lo=0) (h2:sIx items.size items.size hi=items.size) (h:Q (.ref t) s):wpAny (model prog w) A (getItem (.ref t) (.ref sl)) Q E s:=by
 obtain ⟨os,tw,ix,AL⟩:=id hs
 have FO:s.TypeIs (.ref sl) "slice" := ⟨os,tw,ix⟩
 unfold getItem
 try with_reducible refine wpAny_holding ?_
 first | refine zAv (zB1 ?_) | skip
 refine zAv (wpAny_sequenceKey ht.typeIs (by decide) ?_)
 refine zAv (wpAny_callSpecial?_slot (name:=Str.ofString "__getitem__") ht.typeIs PyProof.Rows.slot_tuple_getitem
  (wpAny_call_entry PyProof.Rows.slot_tuple_getitem ht.typeIs entry_tuple_getitem ?_ (args_tuple_getitem _ _)))
 show wpAny _ _ (Builtin.Tuple.tupleItemsOf (.ref t) >>= _) _ _ s;refine wpAny_bind (tupleItemsOf_ ht ?_);refine wpAny_bind (wpAny_typeOf FO ?_);rw [if_pos (by decide)];refine wpAny_bind (gD hs pl pu ?_);rw [h1,h2];show wpAny _ _ (if ((((0:Nat):Int)) == 0 && (1:Int) == 1 && (items.size - 0) == items.size)=true then _ else _) _ _ s;rw [if_pos (by simp)];unfold Builtin.Tuple.tupleIsExact;refine wpAny_bind (wpAny_bind (wpAny_typeOf ht.typeIs (wpAny_pure ?_)));rw [if_pos (by decide)];exact wpAny_bind (wpAny_rule (wpAny_pure ⟨_,rfl,wpAny_pure h⟩))
end
section
variable {X:Cx}
inductive RSlWI (K:Frag)(x:V)(lo:Option Int)(hi:Option Int)(H:Hp)(Q:VK):Prop
 | mk:∀ a xs,(x=.ref a)->(SqT K H a xs)->(((HT.sIx xs.length 0 lo=0/\HT.sIx xs.length xs.length hi=xs.length)->Q (.ref a) H))->((¬ (HT.sIx xs.length 0 lo=0/\HT.sIx xs.length xs.length hi=xs.length)->∀ p,H p=none->Q (.ref p) (upd H p (.tup (jF xs lo hi)))))->RSlWI K x lo hi H Q
def JP (K:Frag):V->Option Int->Option Int->Hp->VK->Prop:=fun x lo hi H Q=>RSlWI K x lo hi H Q
theorem wM:SlR X (JP X.K):=by
 intro pins s σ H x v vl vu lo hi sl Q I rx hs pl pu h;obtain ⟨a,xs,rfl,hx,q1,q2⟩:=h;by_cases hw:HT.sIx xs.length 0 lo=0/\HT.sIx xs.length xs.length hi=xs.length
 ·cases rx;obtain ⟨its,r,ht,hz⟩:=I.tuple hx;have hlen:its.toArray.size=xs.length:=by rw [zA8];exact r.length.symm
  refine ⟨"tuple",_,PyProof.Rows.slot_tuple_getitem.lookup,ht.typeIs,?_⟩;exact jL ht hs pl pu (by rw [hlen];exact hw.1) (by rw [hlen];exact hw.2) ⟨.ref a,H,I,rfl,q1 hw⟩
 ·exact Gj pins s σ H _ v vl vu lo hi sl Q I rx hs pl pu ⟨a,xs,rfl,hx,hw,q2 hw⟩
end
section
variable {prog:Program}{w:World}{A:Around}{E:Value->Shared->Prop}{s:Shared}
end
section
variable {X:Cx}{e:Expr}{te:TE}{pos p2 p3 p4:Pos}{j:Nat}
end
end L2
namespace L2.EL
open PySem PySem.Spec PyProof.Rows L2
abbrev zL (h:Heap)(l:Addr):Heap:=h.push { cls:=.type "list_iterator",data:=.fields #[.ref l,.int 0 0] }
theorem o8 (t:Addr)(its:Array Value) :
  Meets (Builtin.«enumerate.__new__» ⟨[.type "enumerate",.ref t],[]⟩) (fun _ R s=>s.heap.IsList t its /\
   R (.ok (.ret (.ref (zL s.heap t).objs.size))) { s with heap:=(zL s.heap t).push { cls:=.type "enumerate",data:=.fields #[.none,.bool false,.ref s.heap.objs.size,rawInt 0,.none,.none] } }) :=
 .of_wp fun prog w A R s h=>by
  obtain ⟨hp,g,d,tk,os⟩:=s;obtain ⟨ht,h⟩:=h;have AV:=sub_enumerate;have hT:Heap.IsList (Shared.heap ⟨hp,g,d,tk,os⟩) t its:=ht
  wp_walk
  refine wpAny_stack_any fun st=>zB1 ?_;split
  ·rename_i c _ _ _ _ _
   cases (c == Value.type "enumerate")
   ·wp_walk using wpAny_pyIter_list hT
    exact ⟨_,rfl,h⟩
   ·wp_walk using wpAny_pyIter_list hT
    exact ⟨_,rfl,h⟩
  ·wp_walk using wpAny_pyIter_list hT
   exact ⟨_,rfl,h⟩
theorem pM {prog:Program}{w:World}{A:Around}{E:Value->Shared->Prop}{s:Shared}{t:Addr}{its:Array Value}{Q:Value->Shared->Prop}(ht:s.heap.IsList t its)
  (h:∀ h',IsEnum h' (s.heap.objs.size+1) s.heap.objs.size 0 .none->h'.IsListIter s.heap.objs.size t 0->(∀ c o,s.heap.get? c=some o->h'.get? c=some o)->Q (.ref (s.heap.objs.size+1)) { s with heap:=h' }) :
  wpAny (model prog w) A (call (.type "enumerate") [.ref t]) Q E s:=by
 refine callType_new F.called_enumerate (by decide) (F.typeCall_enumerate_1 _) (F.newCall_enumerate_1 _) (fun obj=>F.args_object_init_2 obj _) F.entry_enumerate_new (o8 t its) ⟨ht,?_⟩;have e1:(zL s.heap t).objs.size=s.heap.objs.size+1:=Heap.size_push ..;have g2:=zB2 (zL s.heap t) (o:={ cls:=.type "enumerate",data:=.fields #[.none,.bool false,.ref s.heap.objs.size,rawInt 0,.none,.none] }) rfl;have g1:=zAy { cls:=.type "enumerate",data:=.fields #[.none,.bool false,.ref s.heap.objs.size,rawInt 0,.none,.none] } (zB2 s.heap (o:={ cls:=.type "list_iterator",data:=.fields #[.ref t,.int 0 0] }) rfl);show _/\_;rw [e1] at g2 ⊢;exact ⟨⟨_,g2,rfl⟩,h _ g2 ⟨_,g1,rfl,rfl⟩ fun c o x=>zAy _ (zAy _ x)⟩
def Ite (K:Frag)(a:Addr):It :=
 ⟨fun i H=>∃ xs x,SqL K H a xs/\xs[i]?=some x,
  fun i H v H'=>∃ T,H T=none/\v=.ref T/\∀ xs,SqL K H a xs->∃ x,xs[i]?=some x/\H'=upd H T (.tup [.int i,x]),
  fun i H=>∃ xs,SqL K H a xs/\xs.length<=i⟩
def tne (e it a:Addr)(i:Nat)(h:Heap):Prop:=(∃ old,IsEnum h e it i old)/\h.IsListIter it a i
theorem lC {P:Program}{w:World}{K:Frag}{es:List Expr}{k:Nat}{pos:Pos}{e it a:Addr}(ub:e≠it)(GS:e≠a)(GU:a≠it) :
  Turn P w K (.Tuple es k pos) (Ite K a) [e,it] e (tne e it a) where
 mem:=by simp
 obj:=fun i h st c hc=>by
  obtain ⟨⟨old,s1⟩,⟨o4,s4,c4,d4⟩⟩:=st;simp only [List.mem_cons,List.not_mem_nil,or_false] at hc;rcases hc with z | z <;> subst z
  ·exact ⟨_,s1,fun v q=>by cases q⟩
  ·exact ⟨_,s4,fun v q=>by rw [d4] at q;cases q⟩
 keep:=fun i h h' st kp=>by
  obtain ⟨⟨old,s1⟩,s4⟩:=st;exact ⟨⟨old,kp e (by simp) _ s1⟩,s4.at fun o z=>kp it (by simp) o z⟩
 item:=by
  intro X hP hw hK hc i pins s σ H E I hf st hg;subst hP hw hK;obtain ⟨⟨old,s1⟩,s4⟩:=st;obtain ⟨xs,x,fE,hx⟩:=hg;obtain ⟨its,rv,p,_⟩:=I.list fE;obtain ⟨ux,om,rx⟩:=rv.get hx
  have ax:i < its.toArray.size:=by
   have:=(zAa.mp om).1;simpa using this
  have D:=Draws.list (prog:=X.prog) (w:=X.w) (A:=X.A.in1) (I.ok.hd hc) it a GU its.toArray;refine wpAny_pyNext_enum_itemD D s1 ⟨s4,p.isList⟩ ax ub (by simp [ub,GS]) fun u h1 tk hu g1 g3 g5 g6 kp=>?_
  have eu:u=ux:=by
   have hu:its.toArray[i]?=some u:=hu;rw [List.getElem?_toArray,om] at hu;exact (zAl hu).symm
  subst eu;refine ⟨_,rfl,?_⟩;refine wpAny_letOwnedTupleGo_enum g1 fun h2 e1 sb=>?_
  have live:∀ c,c∈[e,it]->∃ o,s.heap.get? c=some o:=fun c ah=>by
   simp only [List.mem_cons,List.not_mem_nil,or_false] at ah;rcases ah with q | q <;> subst q
   ·exact ⟨_,s1⟩
   ·exact let ⟨o,h,_⟩:=s4;⟨o,h⟩
  have ne:∀ c,c∈[e,it]->c≠s.heap.objs.size:=fun c ah z=>by
   obtain ⟨o,ho⟩:=live c ah;exact absurd (zB0 ho) (by rw [z];exact Nat.lt_irrefl _)
  have hT:H s.heap.objs.size=none:=I.hok.fresh (zA3 _)
  have kept:∀ c o,c ∉ [e,it]->s.heap.get? c=some o->h2.get? c=some o:=fun c o ah z =>
   sb.extBut _ _ (fun q=>ah (by simp [q])) (kp c o (fun q=>ah (by simp [q])) (fun q=>ah (by simp [q])) z)
  have trk:∀ c o,H c=some o->c ∉ [e,it]:=fun c o z ah=>by
   have:=(hf c ah).1;rw [z] at this;cases this
  have gT:h2.get? s.heap.objs.size=some { cls:=.type "tuple",data:=.seq #[.int i tk,u] }:=sb.extBut _ _ (Ne.symm (ne e (by simp))) g5
  have gX:HOk X.prog X.w (upd H s.heap.objs.size (.tup [.int i,x])) h2:=fun c o z=>by
   by_cases hb:c=s.heap.objs.size
   ·subst hb;rw [aa] at z;cases z;exact ⟨by show 2<=sizeLine;decide,[.int i tk,u],.cons ⟨tk,rfl⟩ (.cons rx .nil),_,gT,rfl,_,rfl⟩
   ·rw [az hb] at z
    refine (I.hok c o z).stay (fun d v hd q=>kept d v ?_ q) (fun d q=>by rw [az (au q hT)];exact q) fun d l q=>by rw [az (au q hT)];exact q
    rcases hd with e' | e'
    ·rw [e'];exact trk c o z
    ·exact trk d _ e'
  have I2:Inv X pins σ (upd H s.heap.objs.size (.tup [.int i,x])) { s with heap:=h2,toks:=tk+1 }:=by
   refine I.step (g':=s.gens) (d':=s.drawn) (t':=tk+1) (ch:=[e,it]) (fun c ah=>?_) (fun c o _ _ hn z _=>kept c o hn z) (fun c o _ _ hn z _=>⟨o.slots,kept c o hn z⟩)
    (fun c o _ z n=>by rw [az (zB6 (zB0 z))];exact n) (fun c o hn z=>⟨o,kept c o hn z⟩) (fun c l z=>by rw [az (au z hT)];exact z) (fun c o l z=>by rw [az (au z hT)];exact z)
    (fun c l z=>⟨#[],by rw [az (au z hT),z];simp⟩) (fun m hm=>?_) gX I.bare
   ·obtain ⟨f0,f1,f2,f3,f4,f5⟩:=hf c ah;exact ⟨f3,f1,f4,f5⟩
   ·obtain ⟨o,dQ,ep,ho,r⟩:=hm;refine ⟨o,dQ,ep,kept _ o (fun ah=>?_) ho,r⟩;exact (hf _ ah).2.1 rfl
  refine ⟨.ref s.heap.objs.size,_,I2,rfl,⟨s.heap.objs.size,hT,rfl,fun GV mP=>⟨x,?_,rfl⟩⟩,⟨⟨u,?_⟩,?_⟩,fun c ah=>?_⟩
  ·rw [I.list_inj mP fE];exact hx
  ·have:=e1;rw [show (((i+1:Nat):Int))=(i:Int)+1 by lia];exact this
  ·exact g3.1.extBut sb.extBut ub.symm
  ·rw [az (ne c ah)];exact (hf c ah).1
 done:=by
  intro X hP hw hK hc i pins s σ H E I hf st hg;subst hP hw hK;obtain ⟨⟨old,s1⟩,s4⟩:=st;obtain ⟨xs,fE,hlen⟩:=hg;obtain ⟨its,rv,p,_⟩:=I.list fE;have hl:=rv.length
  have hT:s.TypeIs (.ref e) "enumerate" := ⟨_,s1,rfl⟩
  have fin:∀ h',Heap.ExtBut it s.heap h'->Inv X pins σ H { s with heap:=h' }:=fun h' kp=>by
   obtain ⟨f0,f1,f2,f3,f4,f5⟩:=hf it (by simp);exact I.turned (t':=s.toks) (fun b o hb z=>kp b o hb z) f0 f1 f3 f4 f5
  unfold pyNext;refine wpAny_bind (wpAny_attempt (wpAny_callSpecial?_slot (name:=Str.ofString "__next__") hT F.slot_enumerate_next (wpAny_call_entry F.slot_enumerate_next hT F.entry_enumerate_next ?_ (F.args_enumerate_next_1 _))));show wpAny _ _ (field (.ref e) 2 >>= _) _ _ _;refine wpAny_bind (wpAny_field s1 rfl (x:=.ref it) rfl ?_);refine wpAny_bind (wpAny_nextOf_list_end (I.ok.hd hc) s4 p.isList (by simp;lia) fun h' x rj fh=>?_);obtain ⟨o,ho,GW⟩:=fh;refine wpAny_bind (wpAny_isInstance (T:="StopIteration") (b:=true) ⟨o,ho,GW⟩ isSubtype_stop (wpAny_pure ⟨rfl,fin h' rj⟩))
 self:=fun _ _ _ _ _ st h=>wpAny_pyIter_enum st.1.choose_spec h
section
variable {X:Cx}
def Ay (K:Frag)(t:TA):TI:=fun σ H R=>t σ H fun vs H1=>∃ a xs,vs=[.ref a]/\SqL K H1 a xs/\R (Ite K a) H1
theorem pi_enum {es:List Expr}{k:Nat}{tp:Pos}{a:Expr}{ta:TA}{p pos:Pos}(hg:Gl X "enumerate")(hm:X.mg "enumerate" = none)(ha:PA X [a] ta)(hs:starEach [a] X.env=[(false,eval a X.env)]:=by rfl) :
  PI X (.Tuple es k tp) (.Call (.Name "enumerate" p) [a] [] pos) (Ay X.K ta):=by
 intro pins s σ H R I h;refine Call_ (gU I hg hm boot_enumerate (PyProof.Rows.callWith_type1 (thn (ha pos pins s σ H _ I h) fun us s1 ⟨vs,H1,I1,r1,q1⟩=>?_) hs rfl));obtain ⟨x,xs,e,hx,q⟩:=q1;subst e;obtain ⟨u,rfl,ru⟩:=vals1 r1;cases ru;obtain ⟨its,_,p1,_⟩:=I1.list hx;refine pM p1.isList fun h' z1 z4 kp=>?_;refine wpAny_pyIter_enum z1 ?_;have lx:x < s1.heap.objs.size:=by obtain ⟨_,e,_⟩:=p1.isList;exact zB0 e
 refine ⟨_,_,_,_,H1,rfl,I1.kept (t':=s1.toks) kp,lC (e:=s1.heap.objs.size+1) (it:=s1.heap.objs.size) (a:=x) (Nat.succ_ne_self _) (Nat.ne_of_gt (Nat.lt_succ_of_lt lx)) (zB6 lx),⟨⟨_,z1⟩,z4⟩,fun c hc=>?_,q⟩
 have hle:s1.heap.objs.size<=c:=by
  simp only [List.mem_cons,List.not_mem_nil,or_false] at hc;rcases hc with q | q <;> subst q
  ·exact Nat.le_add_right _ 1
  ·exact zA3 _
 exact I1.fpOk hle (I1.hok.fresh hle)
end
end L2.EL
namespace L2
open PySem PySem.Spec PyProof.Rows PySem.Calls
section
variable {X:Cx}
theorem cV (hc:X.calm=true):dJ X (.builtin "sum") (fun xs H Q=>∃ (p:Addr) (ns:List Int),xs=[.ref p]/\(SqL X.K H p (ns.map V.int)\/SqT X.K H p (ns.map V.int))/\Q (.int ns.sum) H):=by
 intro pins s σ H xs us Q I r h;obtain ⟨p,ns,rfl,hq,q⟩:=h;obtain ⟨u,rfl,ru⟩:=vals1 r;cases ru
 have go:∀ its:List Value,Vals (ns.map V.int) its->∃ zs:Array (Int×Tok),its.toArray=intItems zs/\preSum (numAt zs) zs.size=ns.sum:=fun its rv=>by
  have hi:IntsAre its ns:=intsAre_of rv;obtain ⟨zs,ez⟩:=(hi.allInts:AllInts its.toArray).items;refine ⟨zs,ez,?_⟩;have en:numsOf its.toArray.toList=ns:=hi.numsOf;rw [ez,nums_intItems] at en;rw [preSum_eq,List.take_of_length_le (by simp),en]
 rcases hq with hq | hq
 ·obtain ⟨its,rv,pl,hz⟩:=I.list hq;obtain ⟨zs,ez,es⟩:=go its rv;refine sum_intListG (I.ok.hd hc) (ez ▸ pl.isList) fun h' tk t' hk=>?_;rw [es];exact ⟨.int _,H,I.kept (t':=tk) hk,⟨t',rfl⟩,q⟩
 ·obtain ⟨its,rv,pl,hz⟩:=I.tuple hq;obtain ⟨zs,ez,es⟩:=go its rv;have ht:s.heap.IsTuple p its.toArray:=pl;refine PySem.W.ktm_sumG (I.ok.hd hc) (ez ▸ ht) fun h' tk t' hk=>?_;rw [es];exact ⟨.int _,H,I.kept (t':=tk) hk,⟨t',rfl⟩,q⟩
end
section
open PySem.W
variable {prog:Program}{w:World}{A:Around}{E:Value->Shared->Prop}{s:Shared}
end
section
variable {X:Cx}
end
end L2
namespace Srt
open PySem PyProof.Rows
def gq:Bool->Keyed->Array Keyed->Nat->Nat->Nat->StateT SortSt Sem (Option Nat):=sortPriv% PySem.Builtin.gallop
section
variable {prog:Program}{w:World}{A:Around}{E:Value->Shared->Prop}{s:Shared}{κ:PyProof.Rows.KeyKind}
def Ig (prog:Program)(w:World)(A:Around)(E:Value->Shared->Prop)(s:Shared)(κ:PyProof.Rows.KeyKind)(st:SortSt):Prop :=
 ∀ (x y:Keyed) (a b:κ.α) (Q:Option Bool->SortSt->Prop),κ.keyOf x.1=some a->κ.keyOf y.1=some b->Q (some (κ.blt a b)) st->wpS (model prog w) A E s (lt' x y) Q st
theorem bx {arr:Array Keyed}{i:Nat}{p:Keyed}{Q:Keyed->SortSt->Prop}{st:SortSt}(e:arr[i]?=some p)(h:Q p st):wpS (model prog w) A E s (elem' arr i) Q st:=by
 rw [elem'_eq,e];exact wpS_pure h
def bey (κ:PyProof.Rows.KeyKind)(left:Bool)(k:κ.α)(x:κ.α):Bool:=if left then κ.blt x k else !(κ.blt k x)
theorem dU {left:Bool}{key:Keyed}{arr:Array Keyed}{b n h:Nat}{Q:Option Nat->SortSt->Prop}{st:SortSt}{kk:κ.α}(hL:Ig prog w A E s κ st)(hk:κ.keyOf key.1=some kk)(hn:h < n)
  (mS:∀ i,i < n->∃ p a,arr[b+i]?=some p/\κ.keyOf p.1=some a/\KK κ arr (b+i)=a) (hm:∀ i j,i<=j->j < n->bey κ left kk (KK κ arr (b+j))=true->bey κ left kk (KK κ arr (b+i))=true)
  (q:∀ k,k<=n->(∀ i,i < k->bey κ left kk (KK κ arr (b+i))=true)->(∀ i,k<=i->i < n->bey κ left kk (KK κ arr (b+i))=false)->Q (some k) st) :
  wpS (model prog w) A E s (gq left key arr b n h) Q st:=by
 have jI:∀ (i:Nat) (R:Option Bool->SortSt->Prop),i < n->R (some (bey κ left kk (KK κ arr (b+i)))) st->wpS (model prog w) A E s (do
   let x <- elem' arr (b+i)
   if left=true then lt' x key else do
    let r <- lt' key x
    pure (Option.map (fun x=>!x) r)) R st:=fun i R hi hR=>by
  obtain ⟨p,a,e1,e2,e3⟩:=mS i hi;refine wpS_bind (bx e1 ?_);unfold bey at hR;rw [e3] at hR
  cases left with
  | true =>
   rw [zAx rfl];exact hL _ _ _ _ _ e2 hk hR
  | false =>
   rw [zAw (by decide)];exact wpS_bind (hL _ _ _ _ _ hk e2 (wpS_pure hR))
 generalize PB:(fun i=>bey κ left kk (KK κ arr (b+i)))=β
 have GY:∀ i,bey κ left kk (KK κ arr (b+i))=β i:=fun i=>by rw [<- PB]
 simp only [GY] at jI hm q
 delta gq
 refine wpS_bind (jI h _ hn ?_)
 cases e0:β h with
 | true =>
  dsimp only;rw [if_pos rfl]
  refine wpS_bind (wpS_mono (wpS_forRange (I:=fun x c st'=>st'=st/\c.1=none/\c.2.1 < c.2.2/\c.2.1 < n - h/\x < c.2.2/\β (h+c.2.1)=true)
   (Q:=fun c st'=>st'=st/\c.1=none/\c.2.1 < c.2.2/\c.2.1 < n - h/\β (h+c.2.1)=true/\(c.2.2 ≥ n - h\/(c.2.2 < n - h/\β (h+c.2.2)=false))) ?_ ?_ ⟨rfl,rfl,(by show 0 < 1;decide),(by show 0 < n - h;lia),(by show 0 < 1;decide),(show β (h+0)=true from e0)⟩) ?_)
  ·rintro x ⟨c0,l,o⟩ st' _ hx ⟨rfl,rfl,g1,g2,g3,g4⟩;dsimp only at g1 g2 g3 g4 ⊢;by_cases ho:o ≥ n - h
   ·rw [zAx ho];exact wpS_pure ⟨rfl,rfl,g1,g2,g4,.inl ho⟩
   ·rw [zAw ho];refine wpS_bind (jI (h+o) _ (by lia) ?_)
    cases eb:β (h+o) with
    | true =>
     dsimp only;rw [if_neg (by decide)];exact wpS_pure ⟨rfl,rfl,by dsimp only;lia,by dsimp only;lia,by dsimp only;lia,eb⟩
    | false =>
     dsimp only;rw [if_pos (by decide)];exact wpS_pure ⟨rfl,rfl,g1,g2,g4,.inr ⟨by dsimp only;lia,eb⟩⟩
  ·rintro ⟨c0,l,o⟩ st' ⟨rfl,rfl,g1,g2,g3,g4⟩;dsimp only at g1 g2 g3 g4 ⊢;exact ⟨rfl,rfl,g1,g2,g4,.inl (by lia)⟩
  ·rintro ⟨c0,l,o⟩ st' ⟨rfl,rfl,g1,g2,g4,g5⟩;dsimp only at g1 g2 g4 g5 ⊢
   have w4:∀ i,h+min o (n - h)<=i->i < n->β i=false:=fun i hi hG=>by
    rcases g5 with g5 | ⟨g5,g6⟩
    ·lia
    ·cases e2:β i with
     | false=>rfl
     | true =>
      have:=hm (h+o) i (by lia) hG e2;rw [g6] at this;cases this
   obtain ⟨lo,cE⟩:∃ lo,lo=h+l+1:=⟨_,rfl⟩
   obtain ⟨hi,kF⟩:∃ hi,hi=h+min o (n - h):=⟨_,rfl⟩
   have w1:lo<=hi:=by lia
   have w2:hi<=n:=by lia
   have w3:∀ i,i < lo->β i=true:=fun i hi=>hm i (h+l) (by lia) (by lia) g4;have w4:∀ i,hi<=i->i < n->β i=false:=by rw [kF];exact w4
   rw [<- cE,<- kF]
   refine wpS_bind (wpS_mono (wpS_forRange (I:=fun x c de=>de=st'/\c.1=none/\c.2.1<=c.2.2/\c.2.2<=n/\c.2.2 - c.2.1<=n - x/\(∀ i,i < c.2.1->β i=true)/\(∀ i,c.2.2<=i->i < n->β i=false))
    (Q:=fun c de=>de=st'/\c.1=none/\c.2.2<=n/\(∀ i,i < c.2.2->β i=true)/\(∀ i,c.2.2<=i->i < n->β i=false)) ?_ ?_ ⟨rfl,rfl,w1,w2,(by show hi - lo<=n - 0;lia),w3,w4⟩) ?_)
   ·rintro x ⟨c0,l,r⟩ de _ hx ⟨rfl,rfl,g1,g2,g3,g4,g5⟩;dsimp only at g1 g2 g3 g4 g5 ⊢;by_cases jS:l ≥ r
    ·rw [zAx jS];have e:l=r:=by lia
     exact wpS_pure ⟨rfl,rfl,g2,by rw [<- e];exact g4,g5⟩
    ·rw [zAw jS];refine wpS_bind (jI (l+(r - l) / 2) _ (by lia) ?_)
     cases eb:β (l+(r - l) / 2) with
     | true =>
      dsimp only;rw [if_pos rfl];exact wpS_pure ⟨rfl,rfl,by dsimp only;lia,g2,by dsimp only;lia,fun i hi=>hm i _ (by dsimp only at hi;lia) (by lia) eb,g5⟩
     | false =>
      dsimp only;rw [if_neg (by decide)];refine wpS_pure ⟨rfl,rfl,by dsimp only;lia,by dsimp only;lia,by dsimp only;lia,g4,fun i hi hG=>?_⟩
      cases e2:β i with
      | false=>rfl
      | true =>
       have:=hm (l+(r - l) / 2) i hi hG e2;rw [eb] at this;cases this
   ·rintro ⟨c0,l,r⟩ de ⟨rfl,rfl,g1,g2,g3,g4,g5⟩;dsimp only at g1 g2 g3 g4 g5 ⊢;have e:l=r:=by lia
    exact ⟨rfl,rfl,g2,by rw [<- e];exact g4,g5⟩
   ·rintro ⟨c0,l,r⟩ de ⟨rfl,rfl,g1,g2,g3⟩;exact wpS_pure (q _ g1 g2 g3)
 | false =>
  dsimp only;rw [if_neg (by decide)]
  refine wpS_bind (wpS_mono (wpS_forRange (I:=fun x c st'=>st'=st/\c.1=none/\c.2.1 < c.2.2/\c.2.1 < h+1/\x < c.2.2/\β (h - c.2.1)=false)
   (Q:=fun c st'=>st'=st/\c.1=none/\c.2.1 < c.2.2/\c.2.1 < h+1/\β (h - c.2.1)=false/\(c.2.2 ≥ h+1\/(c.2.2 < h+1/\β (h - c.2.2)=true))) ?_ ?_ ⟨rfl,rfl,(by show 0 < 1;decide),(by show 0 < h+1;lia),(by show 0 < 1;decide),(show β (h - 0)=false from e0)⟩) ?_)
  ·rintro x ⟨c0,l,o⟩ st' _ hx ⟨rfl,rfl,g1,g2,g3,g4⟩;dsimp only at g1 g2 g3 g4 ⊢;by_cases ho:o ≥ h+1
   ·rw [zAx ho];exact wpS_pure ⟨rfl,rfl,g1,g2,g4,.inl ho⟩
   ·rw [zAw ho];refine wpS_bind (jI (h - o) _ (by lia) ?_)
    cases eb:β (h - o) with
    | false =>
     dsimp only;rw [if_neg (by decide)];exact wpS_pure ⟨rfl,rfl,by dsimp only;lia,by dsimp only;lia,by dsimp only;lia,eb⟩
    | true =>
     dsimp only;rw [if_pos rfl];exact wpS_pure ⟨rfl,rfl,g1,g2,g4,.inr ⟨by dsimp only;lia,eb⟩⟩
  ·rintro ⟨c0,l,o⟩ st' ⟨rfl,rfl,g1,g2,g3,g4⟩;dsimp only at g1 g2 g3 g4 ⊢;exact ⟨rfl,rfl,g1,g2,g4,.inl (by lia)⟩
  ·rintro ⟨c0,l,o⟩ st' ⟨rfl,rfl,g1,g2,g4,g5⟩;dsimp only at g1 g2 g4 g5 ⊢
   have w3:∀ i,i < h+1 - min o (h+1)->β i=true:=fun i hi=>by
    rcases g5 with g5 | ⟨g5,g6⟩
    ·lia
    ·exact hm i (h - o) (by lia) (by lia) g6
   have w4:∀ i,h - l<=i->i < n->β i=false:=fun i hi hG=>by
    cases e2:β i with
    | false=>rfl
    | true =>
     have:=hm (h - l) i hi hG e2;rw [g4] at this;cases this
   obtain ⟨lo,cE⟩:∃ lo,lo=h+1 - min o (h+1):=⟨_,rfl⟩
   obtain ⟨hi,kF⟩:∃ hi,hi=h - l:=⟨_,rfl⟩
   have w1:lo<=hi:=by lia
   have w2:hi<=n:=by lia
   have w3:∀ i,i < lo->β i=true:=by rw [cE];exact w3
   have w4:∀ i,hi<=i->i < n->β i=false:=by rw [kF];exact w4
   rw [<- cE,<- kF]
   refine wpS_bind (wpS_mono (wpS_forRange (I:=fun x c de=>de=st'/\c.1=none/\c.2.1<=c.2.2/\c.2.2<=n/\c.2.2 - c.2.1<=n - x/\(∀ i,i < c.2.1->β i=true)/\(∀ i,c.2.2<=i->i < n->β i=false))
    (Q:=fun c de=>de=st'/\c.1=none/\c.2.2<=n/\(∀ i,i < c.2.2->β i=true)/\(∀ i,c.2.2<=i->i < n->β i=false)) ?_ ?_ ⟨rfl,rfl,w1,w2,(by show hi - lo<=n - 0;lia),w3,w4⟩) ?_)
   ·rintro x ⟨c0,l,r⟩ de _ hx ⟨rfl,rfl,g1,g2,g3,g4,g5⟩;dsimp only at g1 g2 g3 g4 g5 ⊢;by_cases jS:l ≥ r
    ·rw [zAx jS];have e:l=r:=by lia
     exact wpS_pure ⟨rfl,rfl,g2,by rw [<- e];exact g4,g5⟩
    ·rw [zAw jS];refine wpS_bind (jI (l+(r - l) / 2) _ (by lia) ?_)
     cases eb:β (l+(r - l) / 2) with
     | true =>
      dsimp only;rw [if_pos rfl];exact wpS_pure ⟨rfl,rfl,by dsimp only;lia,g2,by dsimp only;lia,fun i hi=>hm i _ (by dsimp only at hi;lia) (by lia) eb,g5⟩
     | false =>
      dsimp only;rw [if_neg (by decide)];refine wpS_pure ⟨rfl,rfl,by dsimp only;lia,by dsimp only;lia,by dsimp only;lia,g4,fun i hi hG=>?_⟩
      cases e2:β i with
      | false=>rfl
      | true =>
       have:=hm (l+(r - l) / 2) i hi hG e2;rw [eb] at this;cases this
   ·rintro ⟨c0,l,r⟩ de ⟨rfl,rfl,g1,g2,g3,g4,g5⟩;dsimp only at g1 g2 g3 g4 g5 ⊢;have e:l=r:=by lia
    exact ⟨rfl,rfl,g2,by rw [<- e];exact g4,g5⟩
   ·rintro ⟨c0,l,r⟩ de ⟨rfl,rfl,g1,g2,g3⟩;exact wpS_pure (q _ g1 g2 g3)
end
abbrev Sm:=StateT SortSt Sem
def yR (lo a m:Nat):Sm AscSt :=
 forIn [a:m] ((none,a):AscSt) fun _ c=>do
  let x <- ltAt' (lo+c.snd) (lo+c.snd - 1)
  match x with
  | some b=>if b=true then pure (ForInStep.done (none,c.snd)) else pure (ForInStep.yield (none,c.snd+1))
  | _=>pure (ForInStep.done (some none,c.snd))
def qx (lo n m:Nat):Sm (Option Nat):=do
 reverseSlice' lo (lo+n)
 let c <- yR lo n m
 match c.fst with
 | some r=>pure r
 | none=>pure (some c.snd)
def wN (lo n m:Nat):Sm DescSt :=
 forIn [n:m] ((none,n,0):DescSt) fun _ c=>do
  let x <- ltAt' (lo+c.snd.fst) (lo+c.snd.fst - 1)
  match x with
  | some b =>
   if b=true then
    if c.snd.snd > 0 then do
     reverseSlice' (lo+c.snd.fst - (c.snd.snd+1)) (lo+c.snd.fst)
     pure (ForInStep.yield (none,c.snd.fst+1,0))
    else pure (ForInStep.yield (none,c.snd.fst+1,0))
   else do
    let y <- ltAt' (lo+c.snd.fst - 1) (lo+c.snd.fst)
    match y with
    | some d =>
     if d=true then pure (ForInStep.done (none,c.snd.fst,c.snd.snd))
     else pure (ForInStep.yield (none,c.snd.fst+1,c.snd.snd+1))
    | _=>pure (ForInStep.done (some none,c.snd.fst,c.snd.snd))
  | _=>pure (ForInStep.done (some none,c.snd.fst,c.snd.snd))
def qy (lo n m:Nat):Sm (Option Nat):=do
 liftM (rule "list.sort.descending-run")
 let c <- wN lo (n+1) m
 match c.fst with
 | some r=>pure r
 | none =>
  if c.snd.snd > 0 then do
   reverseSlice' (lo+c.snd.fst - (c.snd.snd+1)) (lo+c.snd.fst)
   qx lo c.snd.fst m
  else qx lo c.snd.fst m
theorem bc {α β:Type}{m m':Sm α}{f f':α->Sm β}(h:m=m')(h':f=f'):(m >>= f)=(m' >>= f'):=by rw [h,h']
theorem yS (lo m:Nat):countRun' lo m=(do
  let c <- yR lo 1 m
  match c.fst with
  | some r=>pure r
  | none =>
   if (c.snd == m)=true then pure (some c.snd)
   else if c.snd > 1 then do
    let x <- ltAt' lo (lo+c.snd - 1)
    match x with
    | some b=>if b=true then pure (some c.snd) else do
      reverseSlice' lo (lo+c.snd)
      qy lo c.snd m
    | _=>pure none
   else qy lo c.snd m):=by
 rw [countRun'_eq]
 have tl:∀ n:Nat,((do
   reverseSlice' lo (lo+n)
   let mut n:=n
   for _ in [n:m] do
    let some smaller <- ltAt' (lo+n) (lo+n - 1) | return none
    if smaller then break
    n:=n+1
   return some n):Sm (Option Nat))=qx lo n m:=fun n=>by
  unfold qx yR;refine bc rfl (funext fun u=>bc rfl (funext fun c=>?_));obtain ⟨r,n⟩:=c;cases r <;> rfl
 have pl:∀ n:Nat,((do
   rule "list.sort.descending-run"
   let mut n:=n+1
   let mut neq:=0
   for _ in [n:m] do
    let some smaller <- ltAt' (lo+n) (lo+n - 1) | return none
    if smaller then
     if neq > 0 then reverseSlice' (lo+n - (neq+1)) (lo+n)
     neq:=0
    else
     let some larger <- ltAt' (lo+n - 1) (lo+n) | return none
     if larger then break
     neq:=neq+1
    n:=n+1
   if neq > 0 then reverseSlice' (lo+n - (neq+1)) (lo+n)
   reverseSlice' lo (lo+n)
   for _ in [n:m] do
    let some smaller <- ltAt' (lo+n) (lo+n - 1) | return none
    if smaller then break
    n:=n+1
   return some n):Sm (Option Nat))=qy lo n m:=fun n=>by
  unfold qy wN;refine bc rfl (funext fun u=>bc rfl (funext fun c=>?_));obtain ⟨r,n2,q2⟩:=c
  cases r with
  | some r=>rfl
  | none =>
   dsimp only;split
   ·exact bc rfl (funext fun u=>tl n2)
   ·exact tl n2
 unfold yR;refine bc rfl (funext fun c=>?_);obtain ⟨r,n⟩:=c
 cases r with
 | some r=>rfl
 | none =>
  dsimp only;split
  ·rfl
  ·split
   ·refine bc rfl (funext fun x=>?_)
    cases x with
    | none=>rfl
    | some b =>
     dsimp only;split
     ·rfl
     ·exact bc rfl (funext fun u=>pl n)
   ·exact pl n
structure SB (ks:SortKind)(ab:Array Keyed)(st:SortSt):Prop where
 kind:kindOf st=ks
 ok:failedOf st=none
 pm:(arrOf st).Perm ab
def Seg (κ:PyProof.Rows.KeyKind)(xs:Array Keyed)(a b:Nat):Prop:=∀ i j,a<=i->i<=j->j < b->κ.kle (KK κ xs i) (KK κ xs j)
def Non (κ:PyProof.Rows.KeyKind)(xs:Array Keyed)(a b:Nat):Prop:=∀ i j,a<=i->i<=j->j < b->κ.kle (KK κ xs j) (KK κ xs i)
structure Out (st st':SortSt)(a b:Nat):Prop where
 out:∀ k,(k < a\/b<=k)->(arrOf st')[k]?=(arrOf st)[k]?
 pend:pendingOf st'=pendingOf st
theorem Out.refl (st:SortSt)(a b:Nat):Out st st a b:=⟨fun _ _=>rfl,rfl⟩
theorem Out.trans {st f6 st2:SortSt}{a b:Nat}(h:Out st f6 a b)(h':Out f6 st2 a b):Out st st2 a b:=⟨fun k hk=>(h'.out k hk).trans (h.out k hk),h'.pend.trans h.pend⟩
section
variable {prog:Program}{w:World}{A:Around}{E:Value->Shared->Prop}{s:Shared}{κ:PyProof.Rows.KeyKind}{ks:SortKind}{ab:Array Keyed}
def LtAll (prog:Program)(w:World)(A:Around)(E:Value->Shared->Prop)(s:Shared)(κ:PyProof.Rows.KeyKind)(ks:SortKind):Prop:=∀ st,kindOf st=ks->Ig prog w A E s κ st
theorem SB.size {st:SortSt}(B:SB ks ab st):(arrOf st).size=ab.size:=B.pm.size_eq
theorem SB.item {st:SortSt}(B:SB ks ab st)(h0:KeysOf κ ab){i:Nat}(hi:i < ab.size):∃ p a,(arrOf st)[i]?=some p/\κ.keyOf p.1=some a/\KK κ (arrOf st) i=a:=by
 have fx:i < (arrOf st).size:=by rw [B.size];exact hi
 have e:(arrOf st)[i]?=some (arrOf st)[i]:=Array.getElem?_eq_getElem fx;have hm:(arrOf st)[i]∈ab.toList:=(Array.perm_iff_toList_perm.mp B.pm).mem_iff.mp (Array.mem_toList_iff.mpr (Array.getElem_mem fx));obtain ⟨a,ha⟩:=h0 _ hm;refine ⟨_,a,e,ha,?_⟩;unfold KK;rw [e];dsimp only;rw [ha];rfl
theorem SB.arr {st:SortSt}(B:SB ks ab st){xs:Array Keyed}(h:xs.Perm (arrOf st)):SB ks ab (setArr st xs):=⟨B.kind,B.ok,h.trans B.pm⟩
theorem ltA (hL:LtAll prog w A E s κ ks){st:SortSt}{i j:Nat}{Q:Option Bool->SortSt->Prop}(B:SB ks ab st)(h0:KeysOf κ ab)(hi:i < ab.size)(hj:j < ab.size)(h:Q (some (κ.blt (KK κ (arrOf st) i) (KK κ (arrOf st) j))) st) :
  wpS (model prog w) A E s (ltAt' i j) Q st:=by
 obtain ⟨p,a,e1,ka,ea⟩:=B.item (κ:=κ) h0 hi;obtain ⟨q,b,e2,kb,eb⟩:=B.item (κ:=κ) h0 hj;rw [ea,eb] at h;rw [ltAt'_eq];refine wpS_bind (wpS_get (wpS_bind (bx e1 (wpS_bind (bx e2 ?_)))));exact hL st B.kind p q a b Q ka kb h
theorem rT {st:SortSt}{i j:Nat}{Q:Unit->SortSt->Prop}(h:Q () (setArr st (mirror (arrOf st) i j ((j - i) / 2)))):wpS (model prog w) A E s (reverseSlice' i j) Q st:=wpS_reverse h
theorem Out.rev {st:SortSt}{i j a b:Nat}(hj:j<=(arrOf st).size)(h1:a<=i)(h2:j<=b):Out st (setArr st (mirror (arrOf st) i j ((j - i) / 2))) a b:=by
 refine ⟨fun k hk=>?_,rfl⟩;show (mirror (arrOf st) i j ((j - i) / 2))[k]?=_;rw [getElem?_mirror_all hj,zAw (by lia)]
theorem wO (hL:LtAll prog w A E s κ ks)(h0:KeysOf κ ab){st:SortSt}{lo a m:Nat}{Q:AscSt->SortSt->Prop}(hn:lo+m<=ab.size)(ha:1<=a)(PD:a<=m)(B:SB ks ab st)(hs:Seg κ (arrOf st) lo (lo+a))
  (h:∀ n,a<=n->n<=m->Seg κ (arrOf st) lo (lo+n)->(n=m\/κ.klt (KK κ (arrOf st) (lo+n)) (KK κ (arrOf st) (lo+n - 1)))->Q (none,n) st):wpS (model prog w) A E s (yR lo a m) Q st:=by
 unfold yR;refine wpS_forRange (I:=fun x c st'=>st'=st/\c=(none,x)/\Seg κ (arrOf st) lo (lo+x)) ?_ ?_ ⟨rfl,rfl,hs⟩
 ·rintro x c st' G0 PF ⟨rfl,rfl,cw⟩;dsimp only;refine wpS_bind (ltA hL B h0 (by lia) (by lia) ?_)
  cases e:κ.blt (KK κ (arrOf st') (lo+x)) (KK κ (arrOf st') (lo+x - 1)) with
  | true =>
   dsimp only;rw [if_pos rfl];exact wpS_pure (h x G0 (by lia) cw (.inr e))
  | false =>
   dsimp only;rw [if_neg (by decide)];refine wpS_pure ⟨rfl,rfl,fun i j hi cq hj=>?_⟩;by_cases AW:j < lo+x
   ·exact cw i j hi cq AW
   ·have ej:j=lo+x:=by lia
    subst ej;by_cases ei:i=lo+x
    ·rw [ei];exact KeyOrd.kle_refl _
    ·exact KeyOrd.kle_trans (cw i (lo+x - 1) hi (by lia) (by lia)) e
 ·rintro c st' ⟨rfl,rfl,cw⟩;rw [show max a m=m by lia] at cw ⊢;exact h m PD (zA3 _) cw (.inl rfl)
theorem um (hL:LtAll prog w A E s κ ks)(h0:KeysOf κ ab){st:SortSt}{lo n m:Nat}{Q:Option Nat->SortSt->Prop}(hn:lo+m<=ab.size)(h1:1<=n)(oo:n<=m)(B:SB ks ab st)(hs:Non κ (arrOf st) lo (lo+n))
  (h:∀ k st',SB ks ab st'->Out st st' lo (lo+m)->1<=k->k<=m->Seg κ (arrOf st') lo (lo+k)->Q (some k) st'):wpS (model prog w) A E s (qx lo n m) Q st:=by
 unfold qx;have hsz:lo+n<=(arrOf st).size:=by rw [B.size];lia
 refine wpS_bind (rT ?_);have B':=B.arr (mirror_perm (arrOf st) lo (lo+n) ((lo+n - lo) / 2));refine wpS_bind (wO hL h0 hn h1 oo B' ?_ fun k V4 ui PH _=>wpS_pure (h k _ B' (Out.rev hsz (zA3 _) (by lia)) (by lia) ui PH));intro i j hi cq hj;show κ.kle (KK κ (mirror (arrOf st) lo (lo+n) ((lo+n - lo) / 2)) i) (KK κ (mirror (arrOf st) lo (lo+n) ((lo+n - lo) / 2)) j);rw [KK_mirror hsz,KK_mirror hsz,zAx (by lia),zAx (by lia)];exact hs _ _ (by lia) (by lia) (by lia)
theorem Bc (hL:LtAll prog w A E s κ ks)(h0:KeysOf κ ab){st:SortSt}{lo n m:Nat}{Q:DescSt->SortSt->Prop}(hn:lo+m<=ab.size)(h1:1<=n)(oo:n<=m)(B:SB ks ab st)(hs:Non κ (arrOf st) lo (lo+n))
  (h:∀ k q st',SB ks ab st'->Out st st' lo (lo+m)->n<=k->k<=m->Non κ (arrOf st') lo (lo+k)->q+1<=k->(∀ i,lo+k - (q+1)<=i->i < lo+k->KK κ (arrOf st') i=KK κ (arrOf st') (lo+k - 1))->Q (none,k,q) st') :
  wpS (model prog w) A E s (wN lo n m) Q st:=by
 unfold wN
 refine wpS_forRange (I:=fun x c st'=>∃ q,c=(none,x,q)/\SB ks ab st'/\Out st st' lo (lo+m)/\Non κ (arrOf st') lo (lo+x)/\q+1<=x/\(∀ i,lo+x - (q+1)<=i->i < lo+x->KK κ (arrOf st') i=KK κ (arrOf st') (lo+x - 1))) ?_ ?_
  ⟨0,rfl,B,Out.refl _ _ _,hs,by lia,fun i z1 z2=>by congr 1;lia⟩
 ·rintro x c st' G0 PF ⟨q,rfl,B',O',cw,hq,he⟩;dsimp only;have hsz:lo+x<=(arrOf st').size:=by rw [B'.size];lia
  refine wpS_bind (ltA hL B' h0 (by lia) (by lia) ?_)
  cases e:κ.blt (KK κ (arrOf st') (lo+x)) (KK κ (arrOf st') (lo+x - 1)) with
  | true =>
   dsimp only;rw [if_pos rfl]
   have more:∀ xs:Array Keyed,(∀ k,KK κ xs k=KK κ (arrOf st') k)->Non κ xs lo (lo+(x+1)):=fun xs hk i j hi cq hj=>by
    rw [hk,hk];by_cases AW:j < lo+x
    ·exact cw i j hi cq AW
    ·have ej:j=lo+x:=by lia
     subst ej;by_cases ei:i=lo+x
     ·rw [ei];exact KeyOrd.kle_refl _
     ·exact KeyOrd.kle_trans (KeyOrd.kle_of_klt e) (cw i (lo+x - 1) hi (by lia) (by lia))
   by_cases AX:q > 0
   ·rw [zAx AX];refine wpS_bind (rT (wpS_pure ⟨0,rfl,B'.arr (mirror_perm _ _ _ _),O'.trans (Out.rev hsz (by lia) (by lia)),more _ (KK_mirror_equal hsz he),by lia,fun i z1 z2=>by congr 1;lia⟩))
   ·rw [zAw AX];exact wpS_pure ⟨0,rfl,B',O',more _ (fun _=>rfl),by lia,fun i z1 z2=>by congr 1;lia⟩
  | false =>
   dsimp only;rw [if_neg (by decide)];refine wpS_bind (ltA hL B' h0 (by lia) (by lia) ?_)
   cases e2:κ.blt (KK κ (arrOf st') (lo+x - 1)) (KK κ (arrOf st') (lo+x)) with
   | true =>
    dsimp only;rw [if_pos rfl];exact wpS_pure (h x q st' B' O' G0 (by lia) cw hq he)
   | false =>
    dsimp only;rw [if_neg (by decide)];have ex:KK κ (arrOf st') (lo+x)=KK κ (arrOf st') (lo+x - 1):=KeyOrd.kle_antisymm e2 e;refine wpS_pure ⟨q+1,rfl,B',O',fun i j hi cq hj=>?_,by lia,fun i z1 z2=>?_⟩
    ·by_cases AW:j < lo+x
     ·exact cw i j hi cq AW
     ·have ej:j=lo+x:=by lia
      subst ej;by_cases ei:i=lo+x
      ·rw [ei];exact KeyOrd.kle_refl _
      ·rw [ex];exact cw i (lo+x - 1) hi (by lia) (by lia)
    ·rw [show lo+(x+1) - 1=lo+x by lia];by_cases ei:i=lo+x
     ·rw [ei]
     ·rw [ex];exact he i (by lia) (by lia)
 ·rintro c st' ⟨q,rfl,B',O',cw,hq,he⟩;rw [show max n m=m by lia] at cw hq he ⊢;exact h m q st' B' O' oo (zA3 _) cw hq he
theorem uo (hL:LtAll prog w A E s κ ks)(h0:KeysOf κ ab){st:SortSt}{lo n m:Nat}{Q:Option Nat->SortSt->Prop}(hn:lo+m<=ab.size)(oo:n+1<=m)(B:SB ks ab st)(hs:Non κ (arrOf st) lo (lo+(n+1)))
  (h:∀ k st',SB ks ab st'->Out st st' lo (lo+m)->1<=k->k<=m->Seg κ (arrOf st') lo (lo+k)->Q (some k) st'):wpS (model prog w) A E s (qy lo n m) Q st:=by
 unfold qy;refine wpS_bind (wpS_lift (wpAny_rule ⟨rfl,?_⟩));refine wpS_bind (Bc hL h0 hn (by lia) oo B hs fun k q st' B' O' k1 k2 cw hq he=>?_);dsimp only;have hsz:lo+k<=(arrOf st').size:=by rw [B'.size];lia
 by_cases AX:q > 0
 ·rw [zAx AX];refine wpS_bind (rT (um hL h0 hn (by lia) k2 (B'.arr (mirror_perm _ _ _ _)) ?_ fun k' st2 B2 O2=>h k' st2 B2 ((O'.trans (Out.rev hsz (by lia) (by lia))).trans O2)));intro i j hi cq hj;show κ.kle (KK κ (mirror (arrOf st') _ _ _) j) (KK κ (mirror (arrOf st') _ _ _) i);rw [KK_mirror_equal hsz he,KK_mirror_equal hsz he];exact cw i j hi cq hj
 ·rw [zAw AX];exact um hL h0 hn (by lia) k2 B' cw fun k' st2 B2 O2=>h k' st2 B2 (O'.trans O2)
theorem Bd (hL:LtAll prog w A E s κ ks)(h0:KeysOf κ ab){st:SortSt}{lo m:Nat}{Q:Option Nat->SortSt->Prop}(hn:lo+m<=ab.size)(h1:1<=m)(B:SB ks ab st)
  (h:∀ k st',SB ks ab st'->Out st st' lo (lo+m)->1<=k->k<=m->Seg κ (arrOf st') lo (lo+k)->Q (some k) st'):wpS (model prog w) A E s (countRun' lo m) Q st:=by
 rw [yS];refine wpS_bind (wO hL h0 hn (zA3 1) h1 B (fun i j hi cq hj=>by have:i=j:=(by lia);rw [this];exact KeyOrd.kle_refl _) fun n n1 n2 EB PJ=>?_);dsimp only;by_cases oo:n=m
 ·rw [if_pos (by simpa using oo)];exact wpS_pure (h n st B (Out.refl _ _ _) n1 n2 EB)
 ·rw [if_neg (by simpa using oo)];have ax:=PJ.resolve_left oo;by_cases ML:n > 1
  ·rw [zAx ML];refine wpS_bind (ltA hL B h0 (by lia) (by lia) ?_)
   cases e:κ.blt (KK κ (arrOf st) lo) (KK κ (arrOf st) (lo+n - 1)) with
   | true =>
    dsimp only;rw [if_pos rfl];exact wpS_pure (h n st B (Out.refl _ _ _) n1 n2 EB)
   | false =>
    dsimp only;rw [if_neg (by decide)];have hsz:lo+n<=(arrOf st).size:=by rw [B.size];lia
    have gN:∀ k,lo<=k->k < lo+n->KK κ (arrOf st) k=KK κ (arrOf st) (lo+n - 1):=fun k xS hk=>by
     have a1:=EB lo k (zA3 _) xS hk;have a2:=EB k (lo+n - 1) xS (by lia) (by lia);exact KeyOrd.kle_antisymm a2 (KeyOrd.kle_trans e a1)
    refine wpS_bind (rT (uo hL h0 hn (by lia) (B.arr (mirror_perm _ _ _ _)) ?_ fun k st2 B2 O2=>h k st2 B2 ((Out.rev hsz (zA3 _) (by lia)).trans O2)));intro i j hi cq hj;show κ.kle (KK κ (mirror (arrOf st) _ _ _) j) (KK κ (mirror (arrOf st) _ _ _) i);rw [KK_mirror_equal hsz gN,KK_mirror_equal hsz gN];by_cases PL:j < lo+n
    ·rw [gN i hi (by lia),gN j (by lia) PL];exact KeyOrd.kle_refl _
    ·have ej:j=lo+n:=by lia
     subst ej;by_cases ei:i=lo+n
     ·rw [ei];exact KeyOrd.kle_refl _
     ·rw [gN i hi (by lia)];exact KeyOrd.kle_of_klt ax
  ·rw [zAw ML];have e1:n=1:=by lia
   subst e1;refine uo hL h0 hn (by lia) B ?_ h;intro i j hi cq hj;by_cases ei:i=j
   ·rw [ei];exact KeyOrd.kle_refl _
   ·have i0:i=lo:=by lia
    have j1:j=lo+1:=by lia
    rw [i0,j1];exact KeyOrd.kle_of_klt ax
theorem Gw (hL:LtAll prog w A E s κ ks)(h0:KeysOf κ ab){st:SortSt}{lo n ok:Nat}{Q:Bool->SortSt->Prop}(hn:lo+n<=ab.size)(hok:ok<=n)(B:SB ks ab st)(hs:Seg κ (arrOf st) lo (lo+ok))
  (h:∀ st',SB ks ab st'->Out st st' lo (lo+n)->Seg κ (arrOf st') lo (lo+n)->Q true st'):wpS (model prog w) A E s (binarySort' lo n ok) Q st:=by
 rw [binarySort'_eq]
 refine wpS_bind (wpS_mono (wpS_forRange (I:=fun k c st'=>c=(none,())/\SB ks ab st'/\Out st st' lo (lo+n)/\Seg κ (arrOf st') lo (lo+min k n))
  (Q:=fun c st'=>c=(none,())/\SB ks ab st'/\Out st st' lo (lo+n)/\Seg κ (arrOf st') lo (lo+n)) ?_ ?_ ?_) ?_)
 ·rintro k c st' xS V5 ⟨rfl,B',O',cw⟩;rw [show min k n=k by lia] at cw
  refine wpS_bind (wpS_mono (wpS_forRange (I:=fun x c st2=>st2=st'/\∃ l r,c=(none,l,r)/\l<=r/\r<=k/\r - l<=k - x/\(∀ i,i < l->κ.kle (KK κ (arrOf st') (lo+i)) (KK κ (arrOf st') (lo+k)))/\(∀ i,r<=i->i < k->κ.klt (KK κ (arrOf st') (lo+k)) (KK κ (arrOf st') (lo+i))))
   (Q:=fun c st2=>st2=st'/\∃ l r,c=(none,l,r)/\l<=k/\(∀ i,i < l->κ.kle (KK κ (arrOf st') (lo+i)) (KK κ (arrOf st') (lo+k)))/\(∀ i,l<=i->i < k->κ.klt (KK κ (arrOf st') (lo+k)) (KK κ (arrOf st') (lo+i)))) ?_ ?_ ?_) ?_)
  ·rintro x c st2 _ V6 ⟨rfl,l,r,rfl,jS,yb,hm,cE,kF⟩;dsimp only;by_cases uj:l ≥ r
   ·rw [zAx uj];have e:l=r:=by lia
    subst e;exact wpS_pure ⟨rfl,l,l,rfl,yb,cE,kF⟩
   ·rw [zAw uj];refine wpS_bind (ltA hL B' h0 (by lia) (by lia) ?_)
    cases e:κ.blt (KK κ (arrOf st2) (lo+k)) (KK κ (arrOf st2) (lo+(l+r) / 2)) with
    | true =>
     dsimp only;rw [if_pos rfl];exact wpS_pure ⟨rfl,l,(l+r) / 2,rfl,by lia,by lia,by lia,cE,fun i z1 z2=>KeyOrd.klt_of_klt_of_kle e (cw (lo+(l+r) / 2) (lo+i) (by lia) (by lia) (by lia))⟩
    | false =>
     dsimp only;rw [if_neg (by decide)];exact wpS_pure ⟨rfl,(l+r) / 2+1,r,rfl,by lia,by lia,by lia,fun i z1=>KeyOrd.kle_trans (cw (lo+i) (lo+(l+r) / 2) (by lia) (by lia) (by lia)) (show κ.kle _ _ from e),kF⟩
  ·rintro c st2 ⟨rfl,l,r,rfl,jS,yb,hm,cE,kF⟩;have e:l=r:=by lia
   subst e;exact ⟨rfl,l,l,rfl,yb,cE,kF⟩
  ·exact ⟨rfl,0,k,rfl,by lia,by lia,by lia,fun i hi=>by lia,fun i z1 z2=>by lia⟩
  ·rintro c st2 ⟨rfl,l,r,rfl,lI,cE,kF⟩;show wpS _ _ _ _ (do moveDown' (lo+k) (lo+l);pure (ForInStep.yield (none,()))) _ _;rw [moveDown'_eq];have G1:lo+k < (arrOf st2).size:=by rw [B'.size];lia
   refine wpS_bind (wpS_modify (wpS_pure ⟨rfl,B'.arr (bubble_perm _ _ _),O'.trans ⟨fun z hz=>?_,rfl⟩,?_⟩))
   ·show (bubble (arrOf st2) (lo+k) (lo+k - (lo+l)))[z]?=_;rw [getElem?_bubble G1 _ (by lia),zAw (by lia),zAw (by lia)]
   ·rw [show min (k+1) n=k+1 by lia];intro i j hi cq hj;show κ.kle (KK κ (bubble (arrOf st2) (lo+k) (lo+k - (lo+l))) i) (KK κ (bubble (arrOf st2) (lo+k) (lo+k - (lo+l))) j);rw [KK_bubble G1 (by lia),KK_bubble G1 (by lia),show lo+k - (lo+k - (lo+l))=lo+l by lia]
    have He:∀ z,lo<=z->z < lo+l->κ.kle (KK κ (arrOf st2) z) (KK κ (arrOf st2) (lo+k)):=fun z z1 z2=>by
     have:=cE (z - lo) (by lia);rw [show lo+(z - lo)=z by lia] at this;exact this
    have HC:∀ z,lo+l<=z->z < lo+k->κ.kle (KK κ (arrOf st2) (lo+k)) (KK κ (arrOf st2) z):=fun z z1 z2=>by
     have:=kF (z - lo) (by lia) (by lia);rw [show lo+(z - lo)=z by lia] at this;exact KeyOrd.kle_of_klt this
    repeat' split
    all_goals first
     | (exfalso;lia)
     | exact KeyOrd.kle_refl _
     | exact He _ (by lia) (by lia)
     | exact HC _ (by lia) (by lia)
     | exact cw _ _ (by lia) (by lia) (by lia)
 ·rintro c st' ⟨hc,B',O',cw⟩;refine ⟨hc,B',O',?_⟩
  rwa [show min (max (max ok 1) n) n=n by lia] at cw
 ·refine ⟨rfl,B,Out.refl _ _ _,fun i j hi cq hj=>?_⟩;by_cases z:ok=0
  ·have e:i=j:=by lia
   rw [e];exact KeyOrd.kle_refl _
  ·exact hs i j hi cq (by lia)
 ·rintro c st' ⟨rfl,B',O',cw⟩;exact wpS_pure (h st' B' O' cw)
end
section
variable {α:Type}{le:α->α->Prop}
structure MI (le:α->α->Prop)(la lb lo:List α)(ia ib:Nat):Prop where
 pm:lo.Perm (la.take ia++lb.take ib)
 sr:lo.Pairwise le
 be:∀ x∈lo,∀ y,y∈la.drop ia\/y∈lb.drop ib->le x y
theorem iV {l:List α}{i j:Nat}{y:α}(cq:i<=j)(h:y∈l.drop j):y∈l.drop i:=by
 have:l.drop j=(l.drop i).drop (j - i):=by rw [List.drop_drop];congr 1;lia
 rw [this] at h;exact List.mem_of_mem_drop h
theorem wQ {l:List α}(h:l.Pairwise le){i j:Nat}(cq:i<=j):∀ x∈(l.drop i).take (j - i),∀ y∈l.drop j,le x y:=by
 have e:l.drop i=(l.drop i).take (j - i)++l.drop j:=by
  have:=zBa (j - i) (l.drop i);rw [List.drop_drop] at this;rw [show i+(j - i)=j by lia] at this;exact this.symm
 have hp:(l.drop i).Pairwise le:=h.sublist (List.drop_sublist _ _);rw [e] at hp;exact fun x hx y hy=>(List.pairwise_append.mp hp).2.2 x hx y hy
theorem qz (l:List α)(i k:Nat):l.take (i+k)=l.take i++(l.drop i).take k:=List.take_add
theorem MI.segA {la lb lo:List α}{ia ib k:Nat}(m:MI le la lb lo ia ib)(sa:la.Pairwise le)(h:∀ x∈(la.drop ia).take k,∀ y∈lb.drop ib,le x y):MI le la lb (lo++(la.drop ia).take k) (ia+k) ib:=by
 refine ⟨?_,List.pairwise_append.mpr ⟨m.sr,(sa.sublist (List.drop_sublist _ _)).sublist (List.take_sublist _ _),fun x hx y hy=>m.be x hx y (.inl (List.mem_of_mem_take hy))⟩,fun x hx y hy=>?_⟩
 ·rw [qz];refine (m.pm.append_right _).trans ?_;rw [zAf,zAf];exact List.Perm.append_left _ (List.perm_append_comm)
 ·rcases zA6.mp hx with z | z
  ·exact m.be x z y (hy.imp (iV (by lia)) id)
  ·rcases hy with hy | hy
   ·have:=wQ sa (i:=ia) (j:=ia+k) (by lia) x (by rw [show ia+k - ia=k by lia];exact z) y hy;exact this
   ·exact h x z y hy
theorem MI.segB {la lb lo:List α}{ia ib k:Nat}(m:MI le la lb lo ia ib)(sb:lb.Pairwise le)(h:∀ x∈(lb.drop ib).take k,∀ y∈la.drop ia,le x y):MI le la lb (lo++(lb.drop ib).take k) ia (ib+k):=by
 refine ⟨?_,List.pairwise_append.mpr ⟨m.sr,(sb.sublist (List.drop_sublist _ _)).sublist (List.take_sublist _ _),fun x hx y hy=>m.be x hx y (.inr (List.mem_of_mem_take hy))⟩,fun x hx y hy=>?_⟩
 ·rw [qz];refine (m.pm.append_right _).trans ?_;rw [zAf]
 ·rcases zA6.mp hx with z | z
  ·exact m.be x z y (hy.imp id (iV (by lia)))
  ·rcases hy with hy | hy
   ·exact h x z y hy
   ·have:=wQ sb (i:=ib) (j:=ib+k) (by lia) x (by rw [show ib+k - ib=k by lia];exact z) y hy;exact this
structure Done (le:α->α->Prop)(la lb lo:List α):Prop where
 pm:lo.Perm (la++lb)
 sr:lo.Pairwise le
theorem MI.endB {la lb lo:List α}{ia ib:Nat}(m:MI le la lb lo ia ib)(sa:la.Pairwise le)(hb:lb.length<=ib):Done le la lb (lo++la.drop ia++lb.drop ib):=by
 have e:lb.drop ib=[]:=List.drop_of_length_le hb;have e2:lb.take ib=lb:=List.take_of_length_le hb;rw [e,zAn];refine ⟨?_,List.pairwise_append.mpr ⟨m.sr,sa.sublist (List.drop_sublist _ _),fun x hx y hy=>m.be x hx y (.inl hy)⟩⟩;have:=m.pm;rw [e2] at this;refine (this.append_right _).trans ?_;rw [zAf];refine (List.Perm.append_left _ List.perm_append_comm).trans ?_;rw [<- zAf,zBa]
theorem MI.endA {la lb lo:List α}{ia ib:Nat}(m:MI le la lb lo ia ib)(sb:lb.Pairwise le)(ha:la.length<=ia):Done le la lb (lo++la.drop ia++lb.drop ib):=by
 have e:la.drop ia=[]:=List.drop_of_length_le ha;have e2:la.take ia=la:=List.take_of_length_le ha;rw [e,zAn];refine ⟨?_,List.pairwise_append.mpr ⟨m.sr,sb.sublist (List.drop_sublist _ _),fun x hx y hy=>m.be x hx y (.inr hy)⟩⟩;have:=m.pm;rw [e2] at this;refine (this.append_right _).trans ?_;rw [zAf,zBa]
theorem MI.last {la lb lo:List α}{ia ib:Nat}(m:MI le la lb lo ia ib)(sa:la.Pairwise le)(sb:lb.Pairwise le)(h:∀ y∈lb.drop ib,∀ x∈la.drop ia,le y x):Done le la lb (lo++lb.drop ib++la.drop ia):=by
 refine ⟨?_,List.pairwise_append.mpr ⟨List.pairwise_append.mpr ⟨m.sr,sb.sublist (List.drop_sublist _ _),fun x hx y hy=>m.be x hx y (.inr hy)⟩,sa.sublist (List.drop_sublist _ _),fun x hx y hy=>?_⟩⟩
 ·refine ((m.pm.append_right _).append_right _).trans ?_
  have e:(la.take ia++lb.take ib++lb.drop ib++la.drop ia)=la.take ia++(lb++la.drop ia):=by
   rw [zAf (la.take ia),zBa,zAf]
  rw [e];refine (List.Perm.append_left _ List.perm_append_comm).trans ?_;rw [<- zAf,zBa]
 ·rcases zA6.mp hx with z | z
  ·exact m.be x z y (.inl hy)
  ·exact h x z y hy
end
def jM:Array Keyed->Array Keyed->Sm (Array Keyed):=sortPriv% PySem.Builtin.mergeLo
def jN:Nat->Sm Unit:=sortPriv% PySem.Builtin.setMinGallop
abbrev C1:=Option (Array Keyed)×Array Keyed×Nat×Nat×Nat×Nat
abbrev C2:=Option (Array Keyed)×Array Keyed×Nat×Nat×Nat×Nat×Nat
abbrev C0:=Option (Array Keyed)×Array Keyed×Nat×Nat×Nat
def one (a b:Array Keyed)(g:Nat)(out:Array Keyed)(ia ib ac bc:Nat):Sm (ForInStep C1):=do
 let y <- elem' b ib
 let x <- elem' a ia
 let r <- lt' y x
 match r with
 | some w =>
  if w=true then do
   let y <- elem' b ib
   if (ib+1 == b.size)=true then pure (ForInStep.done (some (out.push y++a.extract ia a.size++b.extract (ib+1) b.size),out.push y,ia,ib+1,0,bc+1))
   else if bc+1 ≥ g then pure (ForInStep.done (none,out.push y,ia,ib+1,0,bc+1)) else pure (ForInStep.yield (none,out.push y,ia,ib+1,0,bc+1))
  else do
   let x <- elem' a ia
   if (ia+1+1 == a.size)=true then pure (ForInStep.done (some (out.push x++b.extract ib b.size++a.extract (ia+1) a.size),out.push x,ia+1,ib,ac+1,0))
   else if ac+1 ≥ g then pure (ForInStep.done (none,out.push x,ia+1,ib,ac+1,0)) else pure (ForInStep.yield (none,out.push x,ia+1,ib,ac+1,0))
 | _=>pure (ForInStep.done (some (out++a.extract ia a.size++b.extract ib b.size),out,ia,ib,ac,bc))
def gl4 (a b:Array Keyed)(out:Array Keyed)(ia ib g k k1:Nat):Sm (ForInStep C2):=do
 let x <- elem' a ia
 if (ia+1+1 == a.size)=true then pure (ForInStep.done (some (out.push x++b.extract ib b.size++a.extract (ia+1) a.size),out.push x,ia+1,ib,g,k,k1))
 else if (decide (k < 7) && decide (k1 < 7))=true then pure (ForInStep.done (none,out.push x,ia+1,ib,g,k,k1)) else pure (ForInStep.yield (none,out.push x,ia+1,ib,g,k,k1))
def gl3 (a b:Array Keyed)(out:Array Keyed)(ia ib g k bc:Nat):Sm (ForInStep C2):=do
 let x <- elem' a ia
 let r <- gq true x b ib (b.size - ib) 0
 match r with
 | some k1 =>
  if k1 > 0 then
   if (ib+k1 == b.size)=true then pure (ForInStep.done (some (out++b.extract ib (ib+k1)++a.extract ia a.size++b.extract (ib+k1) b.size),out++b.extract ib (ib+k1),ia,ib+k1,g,k,k1))
   else gl4 a b (out++b.extract ib (ib+k1)) ia (ib+k1) g k k1
  else gl4 a b out ia ib g k k1
 | _=>pure (ForInStep.done (some (out++a.extract ia a.size++b.extract ib b.size),out,ia,ib,g,k,bc))
def gl2 (a b:Array Keyed)(out:Array Keyed)(ia ib g k bc:Nat):Sm (ForInStep C2):=do
 let y <- elem' b ib
 if (ib+1 == b.size)=true then pure (ForInStep.done (some (out.push y++a.extract ia a.size++b.extract (ib+1) b.size),out.push y,ia,ib+1,g,k,bc))
 else gl3 a b (out.push y) ia (ib+1) g k bc
def gl1 (a b:Array Keyed)(out:Array Keyed)(ia ib g ac bc:Nat):Sm (ForInStep C2):=do
 jN g
 let y <- elem' b ib
 let r <- gq false y a ia (a.size - ia) 0
 match r with
 | some k =>
  if k > 0 then
   if (ia+k+1 == a.size)=true then pure (ForInStep.done (some (out++a.extract ia (ia+k)++b.extract ib b.size++a.extract (ia+k) a.size),out++a.extract ia (ia+k),ia+k,ib,g,k,bc))
   else if (ia+k == a.size)=true then pure (ForInStep.done (some (out++a.extract ia (ia+k)++a.extract (ia+k) a.size++b.extract ib b.size),out++a.extract ia (ia+k),ia+k,ib,g,k,bc))
   else gl2 a b (out++a.extract ia (ia+k)) (ia+k) ib g k bc
  else gl2 a b out ia ib g k bc
 | _=>pure (ForInStep.done (some (out++a.extract ia a.size++b.extract ib b.size),out,ia,ib,g,ac,bc))
def gal (a b:Array Keyed)(out:Array Keyed)(ia ib g ac bc:Nat):Sm (ForInStep C2):=if g > 1 then gl1 a b out ia ib (g - 1) ac bc else gl1 a b out ia ib g ac bc
def round (a b:Array Keyed)(out:Array Keyed)(ia ib g:Nat):Sm (ForInStep C0):=do
 let c <- forIn [0:a.size+b.size] ((none,out,ia,ib,0,0):C1) fun _ c=>one a b g c.2.1 c.2.2.1 c.2.2.2.1 c.2.2.2.2.1 c.2.2.2.2.2
 match c.1 with
 | some r=>pure (ForInStep.done (some r,c.2.1,c.2.2.1,c.2.2.2.1,g))
 | none=>do
  liftM (rule "list.sort.gallop")
  let d <- forIn [0:a.size+b.size] ((none,c.2.1,c.2.2.1,c.2.2.2.1,g+1,c.2.2.2.2.1,c.2.2.2.2.2):C2) fun _ d=>gal a b d.2.1 d.2.2.1 d.2.2.2.1 d.2.2.2.2.1 d.2.2.2.2.2.1 d.2.2.2.2.2.2
  match d.1 with
  | some r=>pure (ForInStep.done (some r,d.2.1,d.2.2.1,d.2.2.2.1,d.2.2.2.2.1))
  | none=>do
   jN (d.2.2.2.2.1+1)
   pure (ForInStep.yield (none,d.2.1,d.2.2.1,d.2.2.2.1,d.2.2.2.2.1+1))
theorem fi {β:Type}{r:Std.Legacy.Range}{c:β}{f f':Nat->β->Sm (ForInStep β)}(h:f=f'):(forIn r c f:Sm β)=forIn r c f':=by rw [h]
theorem ic {α:Type}{c:Prop}[Decidable c]{x x' y y':α}(h:x=x')(h':y=y'):(if c then x else y)=if c then x' else y':=by rw [h,h']
theorem Ih (a b:Array Keyed):jM a b=(do
  liftM (rule "list.sort.merge-lo")
  let e <- elem' b 0
  if (1 == b.size)=true then pure (#[e]++a.extract 0 a.size++b.extract 1 b.size)
  else if (0+1 == a.size)=true then pure (#[e]++b.extract 1 b.size++a.extract 0 a.size)
  else do
   let s <- get
   let c <- forIn [0:a.size+b.size] ((none,#[e],0,1,gallopOf s):C0) fun _ c=>round a b c.2.1 c.2.2.1 c.2.2.2.1 c.2.2.2.2
   match c.1 with
   | some r=>pure r
   | none=>liftM (unsupported "internal:list.sort.merge-bound")):=by
 delta jM
 refine bc rfl (funext fun u=>bc rfl (funext fun e=>ic rfl (ic rfl (bc rfl (funext fun s=>bc (fi (funext fun x=>funext fun c=>?_)) (funext fun c=>?_))))))
 ·unfold round;refine bc (fi (funext fun x=>funext fun c1=>?_)) (funext fun c1=>?_)
  ·unfold one;refine bc rfl (funext fun y=>bc rfl (funext fun x=>bc rfl (funext fun r=>?_)))
   cases r with
   | none=>rfl
   | some w=>exact ic (bc rfl (funext fun y=>ic rfl (ic rfl rfl))) (bc rfl (funext fun y=>ic rfl (ic rfl rfl)))
  ·obtain ⟨r,c1⟩:=c1
   cases r with
   | some r=>rfl
   | none =>
    refine bc rfl (funext fun u=>bc (fi (funext fun x=>funext fun d=>?_)) (funext fun d=>?_))
    ·unfold gal;refine ic ?_ ?_
     ·unfold gl1;exact bc rfl (funext fun u=>bc rfl (funext fun y=>bc rfl (funext fun r=>by cases r with | none=>rfl | some k=>exact ic (ic rfl (ic rfl (by unfold gl2;exact bc rfl (funext fun y=>ic rfl (by unfold gl3;exact bc rfl (funext fun x=>bc rfl (funext fun r=>by cases r with | none=>rfl | some k1=>exact ic (ic rfl (by unfold gl4;exact bc rfl (funext fun x=>ic rfl (ic rfl rfl)))) (by unfold gl4;exact bc rfl (funext fun x=>ic rfl (ic rfl rfl)))))))))) (by unfold gl2;exact bc rfl (funext fun y=>ic rfl (by unfold gl3;exact bc rfl (funext fun x=>bc rfl (funext fun r=>by cases r with | none=>rfl | some k1=>exact ic (ic rfl (by unfold gl4;exact bc rfl (funext fun x=>ic rfl (ic rfl rfl)))) (by unfold gl4;exact bc rfl (funext fun x=>ic rfl (ic rfl rfl)))))))))))
     ·unfold gl1;exact bc rfl (funext fun u=>bc rfl (funext fun y=>bc rfl (funext fun r=>by cases r with | none=>rfl | some k=>exact ic (ic rfl (ic rfl (by unfold gl2;exact bc rfl (funext fun y=>ic rfl (by unfold gl3;exact bc rfl (funext fun x=>bc rfl (funext fun r=>by cases r with | none=>rfl | some k1=>exact ic (ic rfl (by unfold gl4;exact bc rfl (funext fun x=>ic rfl (ic rfl rfl)))) (by unfold gl4;exact bc rfl (funext fun x=>ic rfl (ic rfl rfl)))))))))) (by unfold gl2;exact bc rfl (funext fun y=>ic rfl (by unfold gl3;exact bc rfl (funext fun x=>bc rfl (funext fun r=>by cases r with | none=>rfl | some k1=>exact ic (ic rfl (by unfold gl4;exact bc rfl (funext fun x=>ic rfl (ic rfl rfl)))) (by unfold gl4;exact bc rfl (funext fun x=>ic rfl (ic rfl rfl)))))))))))
    ·obtain ⟨r,d⟩:=d;cases r <;> rfl
 ·obtain ⟨r,c⟩:=c;cases r <;> rfl
def key (κ:PyProof.Rows.KeyKind)(p:Keyed):κ.α:=(κ.keyOf p.1).getD κ.dflt
def leK (κ:PyProof.Rows.KeyKind)(x y:Keyed):Prop:=κ.kle (key κ x) (key κ y)
theorem dM {κ:PyProof.Rows.KeyKind}{x y z:Keyed}(h:leK κ x y)(h':leK κ y z):leK κ x z:=KeyOrd.kle_trans h h'
structure SG (st st':SortSt):Prop where
 kind:kindOf st'=kindOf st
 arr:arrOf st'=arrOf st
 pend:pendingOf st'=pendingOf st
 fail:failedOf st'=failedOf st
theorem SG.refl (st:SortSt):SG st st:=⟨rfl,rfl,rfl,rfl⟩
structure Two (κ:PyProof.Rows.KeyKind)(a b:Array Keyed):Prop where
 ka:KeysOf κ a
 kb:KeysOf κ b
 sa:a.toList.Pairwise (leK κ)
 sb:b.toList.Pairwise (leK κ)
theorem item {κ:PyProof.Rows.KeyKind}{a:Array Keyed}(ka:KeysOf κ a){i:Nat}(hi:i < a.size):∃ p,a[i]?=some p/\κ.keyOf p.1=some (key κ p)/\KK κ a i=key κ p/\a.toList.drop i=p::a.toList.drop (i+1):=by
 have e:a[i]?=some a[i]:=Array.getElem?_eq_getElem hi;obtain ⟨k,hk⟩:=ka a[i] (Array.mem_toList_iff.mpr (Array.getElem_mem hi))
 have ek:key κ a[i]=k:=by
  unfold key;rw [hk];rfl
 refine ⟨a[i],e,by rw [ek];exact hk,?_,?_⟩
 ·unfold KK;rw [e,ek];dsimp only;rw [hk];rfl
 ·have:=List.drop_eq_getElem_cons (l:=a.toList) (i:=i) (by simpa using hi);rw [this];simp
theorem jO {κ:PyProof.Rows.KeyKind}{l r:List Keyed}{p:Keyed}{i:Nat}(h:l.Pairwise (leK κ))(e:l.drop i=p::r):∀ y∈l.drop i,leK κ p y:=by
 have hp:=h.sublist (List.drop_sublist i l);rw [e] at hp ⊢;intro y hy;rcases zAo.mp hy with z | z
 ·rw [z];exact KeyOrd.kle_refl _
 ·exact (List.pairwise_cons.mp hp).1 y z
theorem gG (a:Array Keyed)(i j:Nat):(a.extract i j).toList=(a.toList.drop i).take (j - i):=by
 rw [Array.toList_extract]
theorem jb (a:Array Keyed)(i:Nat):(a.extract i a.size).toList=a.toList.drop i:=by
 rw [gG];refine List.take_of_length_le ?_;rw [List.length_drop,zA9];exact zA3 _
theorem jP {κ:PyProof.Rows.KeyKind}{a:Array Keyed}(ka:KeysOf κ a){i k:Nat}{x:Keyed}(h:x∈(a.toList.drop i).take k):∃ j,j < k/\i+j < a.size/\KK κ a (i+j)=key κ x:=by
 obtain ⟨j,hj,rfl⟩:=List.getElem_of_mem h;rw [zAd,List.length_drop,zA9] at hj;refine ⟨j,by lia,by lia,?_⟩;obtain ⟨p,e1,e2,e3,e4⟩:=item ka (i:=i+j) (by lia);rw [e3,List.getElem_take,List.getElem_drop]
 have:a.toList[i+j]?=some p:=by
  rw [Array.getElem?_toList];exact e1
 rw [zA0 (by rw [zA9];lia)] at this;rw [zAl this]
theorem o9 {κ:PyProof.Rows.KeyKind}{a:Array Keyed}(ka:KeysOf κ a){i:Nat}{x:Keyed}(h:x∈a.toList.drop i):∃ j,i<=j/\j < a.size/\KK κ a j=key κ x:=by
 have h':x∈(a.toList.drop i).take (a.toList.drop i).length:=by rw [zAm];exact h
 obtain ⟨j,_,h2,h3⟩:=jP ka h';exact ⟨i+j,by lia,h2,h3⟩
theorem jQ {κ:PyProof.Rows.KeyKind}{a:Array Keyed}(ka:KeysOf κ a)(sa:a.toList.Pairwise (leK κ)){i j:Nat}(cq:i<=j)(hj:j < a.size):κ.kle (KK κ a i) (KK κ a j):=by
 obtain ⟨p,_,_,e3,e4⟩:=item ka (i:=i) (by lia);obtain ⟨q,_,_,f3,f4⟩:=item ka (i:=j) hj;rw [e3,f3];refine jO sa e4 q ?_;have:q∈a.toList.drop j:=by rw [f4];exact List.mem_cons_self
 exact iV cq this
section
variable {prog:Program}{w:World}{A:Around}{E:Value->Shared->Prop}{s:Shared}{κ:PyProof.Rows.KeyKind}{ks:SortKind}{a b:Array Keyed}
theorem jc {g:Nat}{Q:Unit->SortSt->Prop}{st:SortSt}(h:∀ st',SG st st'->Q () st'):wpS (model prog w) A E s (jN g) Q st:=wpS_modify (h _ ⟨rfl,rfl,rfl,rfl⟩)
structure At (κ:PyProof.Rows.KeyKind)(a b out:Array Keyed)(ia ib:Nat):Prop where
 mi:MI (leK κ) a.toList b.toList out.toList ia ib
 ha:ia+1 < a.size
 hb:ib < b.size
theorem At.pushA {out:Array Keyed}{ia ib:Nat}{x:Keyed}(T:Two κ a b)(m:MI (leK κ) a.toList b.toList out.toList ia ib)(e:a.toList.drop ia=x::a.toList.drop (ia+1))(h:∀ y∈b.toList.drop ib,leK κ x y) :
  MI (leK κ) a.toList b.toList (out.push x).toList (ia+1) ib:=by
 have:=m.segA (k:=1) T.sa fun z hz y hy=>by
  rw [e] at hz;have:z=x:=by simpa using hz
  rw [this];exact h y hy
 rw [e] at this;rw [Array.toList_push];exact this
theorem At.pushB {out:Array Keyed}{ia ib:Nat}{x:Keyed}(T:Two κ a b)(m:MI (leK κ) a.toList b.toList out.toList ia ib)(e:b.toList.drop ib=x::b.toList.drop (ib+1))(h:∀ y∈a.toList.drop ia,leK κ x y) :
  MI (leK κ) a.toList b.toList (out.push x).toList ia (ib+1):=by
 have:=m.segB (k:=1) T.sb fun z hz y hy=>by
  rw [e] at hz;have:z=x:=by simpa using hz
  rw [this];exact h y hy
 rw [e] at this;rw [Array.toList_push];exact this
theorem At.segA {out:Array Keyed}{ia ib k:Nat}(T:Two κ a b)(m:MI (leK κ) a.toList b.toList out.toList ia ib)(h:∀ x∈(a.toList.drop ia).take k,∀ y∈b.toList.drop ib,leK κ x y):MI (leK κ) a.toList b.toList (out++a.extract ia (ia+k)).toList (ia+k) ib:=by
 have:=m.segA (k:=k) T.sa h;rw [Array.toList_append,gG,show ia+k - ia=k by lia];exact this
theorem At.segB {out:Array Keyed}{ia ib k:Nat}(T:Two κ a b)(m:MI (leK κ) a.toList b.toList out.toList ia ib)(h:∀ x∈(b.toList.drop ib).take k,∀ y∈a.toList.drop ia,leK κ x y):MI (leK κ) a.toList b.toList (out++b.extract ib (ib+k)).toList ia (ib+k):=by
 have:=m.segB (k:=k) T.sb h;rw [Array.toList_append,gG,show ib+k - ib=k by lia];exact this
abbrev Rs (κ:PyProof.Rows.KeyKind)(a b:Array Keyed)(r:Array Keyed):Prop:=Done (leK κ) a.toList b.toList r.toList
def jn (κ:PyProof.Rows.KeyKind)(a b:Array Keyed):Prop:=∀ y∈b.toList,∀ x∈a.toList.drop (a.size - 1),leK κ y x
theorem wR {out:Array Keyed}{ia ib:Nat}(T:Two κ a b)(m:MI (leK κ) a.toList b.toList out.toList ia ib)(h:ib=b.size):Rs κ a b (out++a.extract ia a.size++b.extract ib b.size):=by
 have:=m.endB T.sa (by rw [zA9];lia);unfold Rs;rw [Array.toList_append,Array.toList_append,jb,jb];exact this
theorem Ii {out:Array Keyed}{ia ib:Nat}(T:Two κ a b)(m:MI (leK κ) a.toList b.toList out.toList ia ib)(h:ia=a.size):Rs κ a b (out++a.extract ia a.size++b.extract ib b.size):=by
 have:=m.endA T.sb (by rw [zA9];lia);unfold Rs;rw [Array.toList_append,Array.toList_append,jb,jb];exact this
theorem wU {out:Array Keyed}{ia ib:Nat}(T:Two κ a b)(L:jn κ a b)(m:MI (leK κ) a.toList b.toList out.toList ia ib)(h:ia+1=a.size):Rs κ a b (out++b.extract ib b.size++a.extract ia a.size):=by
 have:=m.last T.sa T.sb fun y hy x hx=>L y (List.mem_of_mem_drop hy) x (by rw [show a.size - 1=ia by lia];exact hx);unfold Rs;rw [Array.toList_append,Array.toList_append,jb,jb];exact this
theorem vy (hL:LtAll prog w A E s κ ks)(T:Two κ a b)(L:jn κ a b){g ia ib ac bc:Nat}{out:Array Keyed}{st:SortSt}(hk:kindOf st=ks)(m:At κ a b out ia ib) :
  wpS (model prog w) A E s (one a b g out ia ib ac bc) (fun r st'=>st'=st/\match r with
   | .done c=>(∃ z,c.1=some z/\Rs κ a b z)\/(c.1=none/\At κ a b c.2.1 c.2.2.1 c.2.2.2.1/\ia+ib+1=c.2.2.1+c.2.2.2.1)
   | .yield c=>c.1=none/\At κ a b c.2.1 c.2.2.1 c.2.2.2.1/\ia+ib+1=c.2.2.1+c.2.2.2.1) st:=by
 obtain ⟨x,x1,x2,x3,x4⟩:=item T.ka (i:=ia) (by have:=m.ha;lia);obtain ⟨y,y1,y2,y3,y4⟩:=item T.kb m.hb;unfold one;refine wpS_bind (bx y1 (wpS_bind (bx x1 (wpS_bind (hL st hk _ _ _ _ _ y2 x2 ?_)))))
 cases e:κ.blt (key κ y) (key κ x) with
 | true =>
  dsimp only;rw [if_pos rfl];refine wpS_bind (bx y1 ?_);have m':=At.pushB T m.mi y4 fun z hz=>dM (KeyOrd.kle_of_klt e) (jO T.sa x4 z hz);by_cases hb:ib+1=b.size
  ·rw [if_pos (by simpa using hb)];exact wpS_pure ⟨rfl,.inl ⟨_,rfl,wR T m' hb⟩⟩
  ·rw [if_neg (by simpa using hb)]
   have at':At κ a b (out.push y) ia (ib+1):=⟨m',m.ha,by have:=m.hb;lia⟩
   split
   ·exact wpS_pure ⟨rfl,.inr ⟨rfl,at',by dsimp only;lia⟩⟩
   ·exact wpS_pure ⟨rfl,rfl,at',by dsimp only;lia⟩
 | false =>
  dsimp only;rw [if_neg (by decide)];refine wpS_bind (bx x1 ?_);have m':=At.pushA T m.mi x4 fun z hz=>dM (show leK κ x y from e) (jO T.sb y4 z hz);by_cases ha:ia+1+1=a.size
  ·rw [if_pos (by simpa using ha)];exact wpS_pure ⟨rfl,.inl ⟨_,rfl,wU T L m' ha⟩⟩
  ·rw [if_neg (by simpa using ha)]
   have at':At κ a b (out.push x) (ia+1) ib:=⟨m',by have:=m.ha;lia,m.hb⟩
   split
   ·exact wpS_pure ⟨rfl,.inr ⟨rfl,at',by dsimp only;lia⟩⟩
   ·exact wpS_pure ⟨rfl,rfl,at',by dsimp only;lia⟩
def G2 (κ:PyProof.Rows.KeyKind)(a b:Array Keyed)(n:Nat)(st:SortSt)(r:ForInStep C2)(st':SortSt):Prop:=SG st st'/\match r with
 | .done c=>(∃ z,c.1=some z/\Rs κ a b z)\/(c.1=none/\At κ a b c.2.1 c.2.2.1 c.2.2.2.1/\n<=c.2.2.1+c.2.2.2.1)
 | .yield c=>c.1=none/\At κ a b c.2.1 c.2.2.1 c.2.2.2.1/\n<=c.2.2.1+c.2.2.2.1
theorem oh (T:Two κ a b)(L:jn κ a b){g ia ib k k1 n:Nat}{out:Array Keyed}{bE st:SortSt}(sg:SG bE st)(m:At κ a b out ia ib)(hn:n<=ia+ib+1)(h:∀ y∈b.toList.drop ib,∀ x,a[ia]?=some x->leK κ x y) :
  wpS (model prog w) A E s (gl4 a b out ia ib g k k1) (G2 κ a b n bE) st:=by
 obtain ⟨x,x1,x2,x3,x4⟩:=item T.ka (i:=ia) (by have:=m.ha;lia);unfold gl4;refine wpS_bind (bx x1 ?_);have m':=At.pushA T m.mi x4 fun z hz=>h z hz x x1;by_cases ha:ia+1+1=a.size
 ·rw [if_pos (by simpa using ha)];exact wpS_pure ⟨sg,.inl ⟨_,rfl,wU T L m' ha⟩⟩
 ·rw [if_neg (by simpa using ha)]
  have at':At κ a b (out.push x) (ia+1) ib:=⟨m',by have:=m.ha;lia,m.hb⟩
  split
  ·exact wpS_pure ⟨sg,.inr ⟨rfl,at',by dsimp only;lia⟩⟩
  ·exact wpS_pure ⟨sg,rfl,at',by dsimp only;lia⟩
theorem vz (hL:LtAll prog w A E s κ ks)(T:Two κ a b)(L:jn κ a b){g ia ib k bc n:Nat}{out:Array Keyed}{bE st:SortSt}(hk:kindOf st=ks)(sg:SG bE st)(m:At κ a b out ia ib)(hn:n<=ia+ib+1) :
  wpS (model prog w) A E s (gl3 a b out ia ib g k bc) (G2 κ a b n bE) st:=by
 obtain ⟨x,x1,x2,x3,x4⟩:=item T.ka (i:=ia) (by have:=m.ha;lia);have hb:=m.hb;unfold gl3;refine wpS_bind (bx x1 ?_);refine wpS_bind (dU (κ:=κ) (kk:=key κ x) (hL st hk) x2 (by lia) (fun i hi=>?_) (fun i j cq hj kc=>?_) fun k1 kn kt kf=>?_)
 ·obtain ⟨p,p1,p2,p3,_⟩:=item T.kb (i:=ib+i) (by lia);exact ⟨p,_,p1,p2,p3⟩
 ·have mono:=jQ T.kb T.sb (i:=ib+i) (j:=ib+j) (by lia) (by lia);exact KeyOrd.klt_of_kle_of_klt mono kc
 ·have hJ:∀ y∈b.toList.drop (ib+k1),∀ z,a[ia]?=some z->leK κ z y:=fun y hy z hz=>by
   rw [x1] at hz;cases hz;obtain ⟨j,j1,j2,j3⟩:=o9 T.kb hy;have:=kf (j - ib) (by lia) (by lia);rw [show ib+(j - ib)=j by lia,j3] at this;exact this
  by_cases h0:k1 > 0
  ·dsimp only;rw [if_pos h0]
   have m':=At.segB (k:=k1) T m.mi fun z hz y hy=>by
    obtain ⟨j,j1,j2,j3⟩:=jP T.kb hz;have:=kt j j1;rw [j3] at this;exact dM (KeyOrd.kle_of_klt this) (jO T.sa x4 y hy)
   by_cases e:ib+k1=b.size
   ·rw [if_pos (by simpa using e)];exact wpS_pure ⟨sg,.inl ⟨_,rfl,wR T m' e⟩⟩
   ·rw [if_neg (by simpa using e)];exact oh T L sg ⟨m',m.ha,by lia⟩ (by lia) hJ
  ·dsimp only;rw [if_neg h0];have e:k1=0:=by lia
   rw [e] at hJ;exact oh T L sg m hn hJ
theorem ou (hL:LtAll prog w A E s κ ks)(T:Two κ a b)(L:jn κ a b){g ia ib k bc n:Nat}{out:Array Keyed}{bE st:SortSt}(hk:kindOf st=ks)(sg:SG bE st)(m:At κ a b out ia ib)(hn:n<=ia+ib+1)(h:∀ x∈a.toList.drop ia,∀ y,b[ib]?=some y->leK κ y x) :
  wpS (model prog w) A E s (gl2 a b out ia ib g k bc) (G2 κ a b n bE) st:=by
 obtain ⟨y,y1,y2,y3,y4⟩:=item T.kb m.hb;unfold gl2;refine wpS_bind (bx y1 ?_);have m':=At.pushB T m.mi y4 fun z hz=>h z hz y y1;by_cases hb:ib+1=b.size
 ·rw [if_pos (by simpa using hb)];exact wpS_pure ⟨sg,.inl ⟨_,rfl,wR T m' hb⟩⟩
 ·rw [if_neg (by simpa using hb)];exact vz hL T L hk sg ⟨m',m.ha,by have:=m.hb;lia⟩ (by lia)
theorem vA (hL:LtAll prog w A E s κ ks)(T:Two κ a b)(L:jn κ a b){g ia ib ac bc n:Nat}{out:Array Keyed}{bE st:SortSt}(hk:kindOf st=ks)(sg:SG bE st)(m:At κ a b out ia ib)(hn:n<=ia+ib+1) :
  wpS (model prog w) A E s (gl1 a b out ia ib g ac bc) (G2 κ a b n bE) st:=by
 obtain ⟨y,y1,y2,y3,y4⟩:=item T.kb m.hb;have ha:=m.ha;unfold gl1;refine wpS_bind (jc fun st' f7=>?_);have eI:kindOf st'=ks:=f7.kind.trans hk
 have ck:SG bE st':=⟨f7.kind.trans sg.kind,f7.arr.trans sg.arr,f7.pend.trans sg.pend,f7.fail.trans sg.fail⟩
 refine wpS_bind (bx y1 ?_);refine wpS_bind (dU (κ:=κ) (kk:=key κ y) (hL st' eI) y2 (by lia) (fun i hi=>?_) (fun i j cq hj kc=>?_) fun k kn kt kf=>?_)
 ·obtain ⟨p,p1,p2,p3,_⟩:=item T.ka (i:=ia+i) (by lia);exact ⟨p,_,p1,p2,p3⟩
 ·have mono:=jQ T.ka T.sa (i:=ia+i) (j:=ia+j) (by lia) (by lia);have kc:(!κ.blt (key κ y) (KK κ a (ia+j)))=true:=kc;show (!κ.blt (key κ y) (KK κ a (ia+i)))=true;rw [Bool.not_eq_true'] at kc ⊢;exact KeyOrd.kle_trans mono kc
 ·have hJ:∀ x∈a.toList.drop (ia+k),∀ z,b[ib]?=some z->leK κ z x:=fun x hx z hz=>by
   rw [y1] at hz;cases hz;obtain ⟨j,j1,j2,j3⟩:=o9 T.ka hx;have:=kf (j - ia) (by lia) (by lia);rw [show ia+(j - ia)=j by lia,j3] at this;have this:(!κ.blt (key κ y) (key κ x))=false:=this;rw [Bool.not_eq_false'] at this;exact KeyOrd.kle_of_klt this
  by_cases h0:k > 0
  ·dsimp only;rw [if_pos h0]
   have m':=At.segA (k:=k) T m.mi fun z hz x hx=>by
    obtain ⟨j,j1,j2,j3⟩:=jP T.ka hz;have:=kt j j1;rw [j3] at this;have this:(!κ.blt (key κ y) (key κ z))=true:=this;rw [Bool.not_eq_true'] at this;exact dM (show leK κ z y from this) (jO T.sb y4 x hx)
   by_cases e:ia+k+1=a.size
   ·rw [if_pos (by simpa using e)];exact wpS_pure ⟨ck,.inl ⟨_,rfl,wU T L m' e⟩⟩
   ·rw [if_neg (by simpa using e)];by_cases e2:ia+k=a.size
    ·rw [if_pos (by simpa using e2)];exact wpS_pure ⟨ck,.inl ⟨_,rfl,Ii T m' e2⟩⟩
    ·rw [if_neg (by simpa using e2)];exact ou hL T L eI ck ⟨m',by lia,m.hb⟩ (by lia) hJ
  ·dsimp only;rw [if_neg h0];have e:k=0:=by lia
   rw [e] at hJ;exact ou hL T L eI ck m hn hJ
theorem oA (hL:LtAll prog w A E s κ ks)(T:Two κ a b)(L:jn κ a b){g ia ib:Nat}{out:Array Keyed}{bE st:SortSt}(hk:kindOf st=ks)(sg:SG bE st)(m:At κ a b out ia ib) :
  wpS (model prog w) A E s (round a b out ia ib g) (fun r st'=>SG bE st'/\match r with
   | .done c=>∃ z,c.1=some z/\Rs κ a b z
   | .yield c=>c.1=none/\At κ a b c.2.1 c.2.2.1 c.2.2.2.1/\ia+ib+1<=c.2.2.1+c.2.2.2.1) st:=by
 unfold round;have PM:0 < a.size+b.size:=by have:=m.ha;lia
 refine wpS_bind (wpS_mono (wpS_forRange (I:=fun x c st'=>st'=st/\c.1=none/\At κ a b c.2.1 c.2.2.1 c.2.2.2.1/\ia+ib+x=c.2.2.1+c.2.2.2.1)
  (Q:=fun c st'=>st'=st/\((∃ z,c.1=some z/\Rs κ a b z)\/(c.1=none/\At κ a b c.2.1 c.2.2.1 c.2.2.2.1/\ia+ib+1<=c.2.2.1+c.2.2.2.1))) ?_ ?_ ⟨rfl,rfl,m,rfl⟩) ?_)
 ·rintro x ⟨c0,o,i,j,ac,bc⟩ st' _ hx ⟨rfl,rfl,m',e⟩;dsimp only at m' e ⊢;refine wpS_mono (vy hL T L hk m') fun r st2 h2=>?_;obtain ⟨rfl,h2⟩:=h2
  cases r with
  | done c =>
   rcases h2 with h2 | ⟨h2,h3,h4⟩
   ·exact ⟨rfl,.inl h2⟩
   ·exact ⟨rfl,.inr ⟨h2,h3,by lia⟩⟩
  | yield c =>
   obtain ⟨h2,h3,h4⟩:=h2;exact ⟨rfl,h2,h3,by lia⟩
 ·rintro c st' ⟨rfl,h1,h2,h3⟩;exact ⟨rfl,.inr ⟨h1,h2,by lia⟩⟩
 ·rintro ⟨c0,o,i,j,ac,bc⟩ st' ⟨rfl,h⟩;dsimp only at h ⊢;rcases h with ⟨z,rfl,hz⟩ | ⟨rfl,m',cq⟩
  ·exact wpS_pure ⟨sg,z,rfl,hz⟩
  ·dsimp only;refine wpS_bind (wpS_lift (wpAny_rule ⟨rfl,?_⟩))
   refine wpS_bind (wpS_mono (wpS_forRange (I:=fun x c st2=>SG bE st2/\c.1=none/\At κ a b c.2.1 c.2.2.1 c.2.2.2.1/\ia+ib+1<=c.2.2.1+c.2.2.2.1)
    (Q:=fun c st2=>SG bE st2/\((∃ z,c.1=some z/\Rs κ a b z)\/(c.1=none/\At κ a b c.2.1 c.2.2.1 c.2.2.2.1/\ia+ib+1<=c.2.2.1+c.2.2.2.1))) ?_ ?_ ⟨sg,rfl,m',cq⟩) ?_)
   ·rintro x ⟨c0,o,i,j,g2,ac,bc⟩ st2 _ hx ⟨ck,rfl,m2,e2⟩;dsimp only at m2 e2 ⊢;have ui:kindOf st2=ks:=ck.kind.trans (sg.kind.symm.trans hk);have go:∀ g',wpS (model prog w) A E s (gl1 a b o i j g' ac bc) (G2 κ a b (ia+ib+1) bE) st2:=fun g'=>vA hL T L ui ck m2 (by lia);unfold gal;split
    ·refine wpS_mono (go _) fun r iq h3=>?_;obtain ⟨h3,h4⟩:=h3
     cases r with
     | done c=>exact ⟨h3,h4⟩
     | yield c=>exact ⟨h3,h4⟩
    ·refine wpS_mono (go _) fun r iq h3=>?_;obtain ⟨h3,h4⟩:=h3
     cases r with
     | done c=>exact ⟨h3,h4⟩
     | yield c=>exact ⟨h3,h4⟩
   ·rintro c st2 ⟨h0,h1,h2,h3⟩;exact ⟨h0,.inr ⟨h1,h2,h3⟩⟩
   ·rintro ⟨c0,o,i,j,g2,ac,bc⟩ st2 ⟨ck,h⟩;dsimp only at h ⊢;rcases h with ⟨z,rfl,hz⟩ | ⟨rfl,m2,uk⟩
    ·exact wpS_pure ⟨ck,z,rfl,hz⟩
    ·dsimp only;refine wpS_bind (jc fun iq oq=>wpS_pure ⟨⟨oq.kind.trans ck.kind,oq.arr.trans ck.arr,oq.pend.trans ck.pend,oq.fail.trans ck.fail⟩,rfl,m2,uk⟩)
theorem Ij (hL:LtAll prog w A E s κ ks)(T:Two κ a b)(L:jn κ a b)(ha:0 < a.size)(hb:0 < b.size)(F:∀ x∈a.toList,∀ y,b[0]?=some y->leK κ y x){st:SortSt}(hk:kindOf st=ks){Q:Array Keyed->SortSt->Prop}
  (h:∀ r st',SG st st'->Rs κ a b r->Q r st'):wpS (model prog w) A E s (jM a b) Q st:=by
 rw [Ih];obtain ⟨y,y1,y2,y3,y4⟩:=item T.kb hb;refine wpS_bind (wpS_lift (wpAny_rule ⟨rfl,?_⟩));refine wpS_bind (bx y1 ?_)
 have m0:MI (leK κ) a.toList b.toList ([]:List Keyed) 0 0:=⟨by simp,.nil,fun x hx=>absurd hx (by simp)⟩
 have m:MI (leK κ) a.toList b.toList (#[y]:Array Keyed).toList 0 1:=by
  have:=At.pushB (out:=#[]) T m0 y4 fun z hz=>F z hz y y1;exact this
 by_cases e1:1=b.size
 ·rw [if_pos (by simpa using e1)];exact wpS_pure (h _ st (SG.refl _) (wR T m e1))
 ·rw [if_neg (by simpa using e1)];by_cases e2:0+1=a.size
  ·rw [if_pos (by simpa using e2)];exact wpS_pure (h _ st (SG.refl _) (wU T L m e2))
  ·rw [if_neg (by simpa using e2)];refine wpS_bind (wpS_get ?_)
   refine wpS_bind (wpS_mono (wpS_forRange (I:=fun x c st'=>SG st st'/\c.1=none/\At κ a b c.2.1 c.2.2.1 c.2.2.2.1/\1+x<=c.2.2.1+c.2.2.2.1)
    (Q:=fun c st'=>SG st st'/\∃ z,c.1=some z/\Rs κ a b z) ?_ ?_ ⟨SG.refl _,rfl,⟨m,by dsimp only;lia,by dsimp only;lia⟩,by dsimp only;lia⟩) ?_)
   ·rintro x ⟨c0,o,i,j,g⟩ st' _ hx ⟨sg,rfl,m',e⟩;dsimp only at m' e ⊢;refine wpS_mono (oA hL T L (sg.kind.trans hk) sg m') fun r st2 h2=>?_;obtain ⟨ck,h2⟩:=h2
    cases r with
    | done c=>exact ⟨ck,h2⟩
    | yield c =>
     obtain ⟨h2,h3,h4⟩:=h2;exact ⟨ck,h2,h3,by lia⟩
   ·rintro c st' ⟨sg,h1,m',e⟩;have:=m'.ha;have:=m'.hb;exact absurd e (by lia)
   ·rintro ⟨c0,o,i,j,g⟩ st' ⟨sg,z,e,hz⟩;dsimp only at e;rw [e];exact wpS_pure (h z st' sg hz)
end
def jR:Array Keyed->Array Keyed->Sm (Array Keyed):=sortPriv% PySem.Builtin.mergeHi
namespace Hi
abbrev dn (a b out:Array Keyed)(na nb:Nat):Array Keyed:=a.extract 0 na++b.extract 0 nb++out.reverse
abbrev fb (a b out:Array Keyed)(na nb:Nat):Array Keyed:=b.extract 0 nb++a.extract 0 na++out.reverse
abbrev H1:=Option (Array Keyed)×Nat×Nat×Array Keyed×Nat×Nat
abbrev H2:=Option (Array Keyed)×Nat×Nat×Array Keyed×Nat×Nat×Nat
abbrev H0:=Option (Array Keyed)×Nat×Nat×Array Keyed×Nat
def one (a b:Array Keyed)(g:Nat)(na nb:Nat)(out:Array Keyed)(ac bc:Nat):Sm (ForInStep H1):=do
 let y <- elem' b (nb - 1)
 let x <- elem' a (na - 1)
 let r <- lt' y x
 match r with
 | some w =>
  if w=true then do
   let x <- elem' a (na - 1)
   if (na - 1 == 0)=true then pure (ForInStep.done (some (dn a b (out.push x) (na - 1) nb),na - 1,nb,out.push x,ac+1,0))
   else if ac+1 ≥ g then pure (ForInStep.done (none,na - 1,nb,out.push x,ac+1,0)) else pure (ForInStep.yield (none,na - 1,nb,out.push x,ac+1,0))
  else do
   let y <- elem' b (nb - 1)
   if (nb - 1 == 1)=true then pure (ForInStep.done (some (fb a b (out.push y) na (nb - 1)),na,nb - 1,out.push y,0,bc+1))
   else if bc+1 ≥ g then pure (ForInStep.done (none,na,nb - 1,out.push y,0,bc+1)) else pure (ForInStep.yield (none,na,nb - 1,out.push y,0,bc+1))
 | _=>pure (ForInStep.done (some (dn a b out na nb),na,nb,out,ac,bc))
def gl4 (a b:Array Keyed)(na nb:Nat)(out:Array Keyed)(g k k1:Nat):Sm (ForInStep H2):=do
 let x <- elem' a (na - 1)
 if (na - 1 == 0)=true then pure (ForInStep.done (some (dn a b (out.push x) (na - 1) nb),na - 1,nb,out.push x,g,k,k1))
 else if (decide (k < 7) && decide (k1 < 7))=true then pure (ForInStep.done (none,na - 1,nb,out.push x,g,k,k1)) else pure (ForInStep.yield (none,na - 1,nb,out.push x,g,k,k1))
def gl3 (a b:Array Keyed)(na nb:Nat)(out:Array Keyed)(g k bc:Nat):Sm (ForInStep H2):=do
 let x <- elem' a (na - 1)
 let r <- gq true x b 0 nb (nb - 1)
 match r with
 | some t =>
  if nb - t > 0 then
   if (t == 1)=true then pure (ForInStep.done (some (fb a b (out++(b.extract t nb).reverse) na t),na,t,out++(b.extract t nb).reverse,g,k,nb - t))
   else if (t == 0)=true then pure (ForInStep.done (some (dn a b (out++(b.extract t nb).reverse) na t),na,t,out++(b.extract t nb).reverse,g,k,nb - t))
   else gl4 a b na t (out++(b.extract t nb).reverse) g k (nb - t)
  else gl4 a b na nb out g k (nb - t)
 | _=>pure (ForInStep.done (some (dn a b out na nb),na,nb,out,g,k,bc))
def gl2 (a b:Array Keyed)(na nb:Nat)(out:Array Keyed)(g k bc:Nat):Sm (ForInStep H2):=do
 let y <- elem' b (nb - 1)
 if (nb - 1 == 1)=true then pure (ForInStep.done (some (fb a b (out.push y) na (nb - 1)),na,nb - 1,out.push y,g,k,bc))
 else gl3 a b na (nb - 1) (out.push y) g k bc
def gl1 (a b:Array Keyed)(na nb:Nat)(out:Array Keyed)(g ac bc:Nat):Sm (ForInStep H2):=do
 jN g
 let y <- elem' b (nb - 1)
 let r <- gq false y a 0 na (na - 1)
 match r with
 | some t =>
  if na - t > 0 then
   if (t == 0)=true then pure (ForInStep.done (some (dn a b (out++(a.extract t na).reverse) t nb),t,nb,out++(a.extract t na).reverse,g,na - t,bc))
   else gl2 a b t nb (out++(a.extract t na).reverse) g (na - t) bc
  else gl2 a b na nb out g (na - t) bc
 | _=>pure (ForInStep.done (some (dn a b out na nb),na,nb,out,g,ac,bc))
def gal (a b:Array Keyed)(na nb:Nat)(out:Array Keyed)(g ac bc:Nat):Sm (ForInStep H2):=if g > 1 then gl1 a b na nb out (g - 1) ac bc else gl1 a b na nb out g ac bc
def round (a b:Array Keyed)(na nb:Nat)(out:Array Keyed)(g:Nat):Sm (ForInStep H0):=do
 let c <- forIn [0:a.size+b.size] ((none,na,nb,out,0,0):H1) fun _ c=>one a b g c.2.1 c.2.2.1 c.2.2.2.1 c.2.2.2.2.1 c.2.2.2.2.2
 match c.1 with
 | some r=>pure (ForInStep.done (some r,c.2.1,c.2.2.1,c.2.2.2.1,g))
 | none=>do
  liftM (rule "list.sort.gallop")
  let d <- forIn [0:a.size+b.size] ((none,c.2.1,c.2.2.1,c.2.2.2.1,g+1,c.2.2.2.2.1,c.2.2.2.2.2):H2) fun _ d=>gal a b d.2.1 d.2.2.1 d.2.2.2.1 d.2.2.2.2.1 d.2.2.2.2.2.1 d.2.2.2.2.2.2
  match d.1 with
  | some r=>pure (ForInStep.done (some r,d.2.1,d.2.2.1,d.2.2.2.1,d.2.2.2.2.1))
  | none=>do
   jN (d.2.2.2.2.1+1)
   pure (ForInStep.yield (none,d.2.1,d.2.2.1,d.2.2.2.1,d.2.2.2.2.1+1))
theorem Ik (a b:Array Keyed):jR a b=(do
  liftM (rule "list.sort.merge-hi")
  let e <- elem' a (a.size - 1)
  if (a.size - 1 == 0)=true then pure (dn a b #[e] (a.size - 1) b.size)
  else if (b.size == 1)=true then pure (fb a b #[e] (a.size - 1) b.size)
  else do
   let s <- get
   let c <- forIn [0:a.size+b.size] ((none,a.size - 1,b.size,#[e],gallopOf s):H0) fun _ c=>round a b c.2.1 c.2.2.1 c.2.2.2.1 c.2.2.2.2
   match c.1 with
   | some r=>pure r
   | none=>liftM (unsupported "internal:list.sort.merge-bound")):=by
 delta jR
 refine bc rfl (funext fun u=>bc rfl (funext fun e=>ic rfl (ic rfl (bc rfl (funext fun s=>bc (fi (funext fun x=>funext fun c=>?_)) (funext fun c=>?_))))))
 ·unfold round;refine bc (fi (funext fun x=>funext fun c1=>?_)) (funext fun c1=>?_)
  ·unfold one;refine bc rfl (funext fun y=>bc rfl (funext fun x=>bc rfl (funext fun r=>?_)))
   cases r with
   | none=>rfl
   | some w=>exact ic (bc rfl (funext fun y=>ic rfl (ic rfl rfl))) (bc rfl (funext fun y=>ic rfl (ic rfl rfl)))
  ·obtain ⟨r,c1⟩:=c1
   cases r with
   | some r=>rfl
   | none =>
    refine bc rfl (funext fun u=>bc (fi (funext fun x=>funext fun d=>?_)) (funext fun d=>?_))
    ·unfold gal;refine ic ?_ ?_
     ·unfold gl1;exact bc rfl (funext fun u=>bc rfl (funext fun y=>bc rfl (funext fun r=>by cases r with | none=>rfl | some k=>exact ic (ic rfl (by unfold gl2;exact bc rfl (funext fun y=>ic rfl (by unfold gl3;exact bc rfl (funext fun x=>bc rfl (funext fun r=>by cases r with | none=>rfl | some k1=>exact ic (ic rfl (ic rfl (by unfold gl4;exact bc rfl (funext fun x=>ic rfl (ic rfl rfl))))) (by unfold gl4;exact bc rfl (funext fun x=>ic rfl (ic rfl rfl))))))))) (by unfold gl2;exact bc rfl (funext fun y=>ic rfl (by unfold gl3;exact bc rfl (funext fun x=>bc rfl (funext fun r=>by cases r with | none=>rfl | some k1=>exact ic (ic rfl (ic rfl (by unfold gl4;exact bc rfl (funext fun x=>ic rfl (ic rfl rfl))))) (by unfold gl4;exact bc rfl (funext fun x=>ic rfl (ic rfl rfl)))))))))))
     ·unfold gl1;exact bc rfl (funext fun u=>bc rfl (funext fun y=>bc rfl (funext fun r=>by cases r with | none=>rfl | some k=>exact ic (ic rfl (by unfold gl2;exact bc rfl (funext fun y=>ic rfl (by unfold gl3;exact bc rfl (funext fun x=>bc rfl (funext fun r=>by cases r with | none=>rfl | some k1=>exact ic (ic rfl (ic rfl (by unfold gl4;exact bc rfl (funext fun x=>ic rfl (ic rfl rfl))))) (by unfold gl4;exact bc rfl (funext fun x=>ic rfl (ic rfl rfl))))))))) (by unfold gl2;exact bc rfl (funext fun y=>ic rfl (by unfold gl3;exact bc rfl (funext fun x=>bc rfl (funext fun r=>by cases r with | none=>rfl | some k1=>exact ic (ic rfl (ic rfl (by unfold gl4;exact bc rfl (funext fun x=>ic rfl (ic rfl rfl))))) (by unfold gl4;exact bc rfl (funext fun x=>ic rfl (ic rfl rfl)))))))))))
    ·obtain ⟨r,d⟩:=d;cases r <;> rfl
 ·obtain ⟨r,c⟩:=c;cases r <;> rfl
section
variable {α:Type}{le:α->α->Prop}
structure MH (le:α->α->Prop)(la lb lo:List α)(na nb:Nat):Prop where
 pm:lo.Perm (la.drop na++lb.drop nb)
 sr:lo.Pairwise le
 be:∀ x∈lo,∀ y,y∈la.take na\/y∈lb.take nb->le y x
theorem wV {l:List α}{i j:Nat}{y:α}(h:i<=j)(hy:y∈l.take i):y∈l.take j:=by
 rw [show i=min i j by lia,<- List.take_take] at hy;exact List.mem_of_mem_take hy
theorem cut_drop {l:List α}{t n:Nat}(h:t<=n)(hn:n<=l.length):(l.take n).drop t++l.drop n=l.drop t:=by
 have e:=zBa n l;have:(l.take n++l.drop n).drop t=(l.take n).drop t++l.drop n:=List.drop_append_of_le_length (by rw [zAd];lia);rw [e] at this;exact this.symm
theorem Be {l:List α}(hp:l.Pairwise le){t n:Nat}(h:t<=n):∀ y∈l.take t,∀ x∈(l.take n).drop t,le y x:=by
 have h2:(l.take n).Pairwise le:=hp.sublist (List.take_sublist _ _);have e:=zBa t (l.take n);rw [<- e] at h2;rw [List.take_take,show min t n=t by lia] at h2;exact fun y hy x hx=>(List.pairwise_append.mp h2).2.2 y hy x hx
theorem MH.segA {la lb lo:List α}{na nb t:Nat}(m:MH le la lb lo na nb)(sa:la.Pairwise le)(ht:t<=na)(hn:na<=la.length)(h:∀ x∈(la.take na).drop t,∀ y∈lb.take nb,le y x):MH le la lb ((la.take na).drop t++lo) t nb:=by
 refine ⟨?_,List.pairwise_append.mpr ⟨(sa.sublist (List.take_sublist _ _)).sublist (List.drop_sublist _ _),m.sr,fun x hx y hy=>m.be y hy x (.inl (List.mem_of_mem_drop hx))⟩,fun x hx y hy=>?_⟩
 ·refine (List.Perm.append_left _ m.pm).trans ?_;rw [<- zAf,cut_drop ht hn]
 ·rcases zA6.mp hx with z | z
  ·rcases hy with hy | hy
   ·exact Be sa ht y hy x z
   ·exact h x z y hy
  ·exact m.be x z y (hy.imp (wV ht) id)
theorem MH.segB {la lb lo:List α}{na nb t:Nat}(m:MH le la lb lo na nb)(sb:lb.Pairwise le)(ht:t<=nb)(hn:nb<=lb.length)(h:∀ x∈(lb.take nb).drop t,∀ y∈la.take na,le y x):MH le la lb ((lb.take nb).drop t++lo) na t:=by
 refine ⟨?_,List.pairwise_append.mpr ⟨(sb.sublist (List.take_sublist _ _)).sublist (List.drop_sublist _ _),m.sr,fun x hx y hy=>m.be y hy x (.inr (List.mem_of_mem_drop hx))⟩,fun x hx y hy=>?_⟩
 ·refine (List.Perm.append_left _ m.pm).trans ?_;refine (List.perm_append_comm_assoc _ _ _).trans ?_;rw [cut_drop ht hn]
 ·rcases zA6.mp hx with z | z
  ·rcases hy with hy | hy
   ·exact h x z y hy
   ·exact Be sb ht y hy x z
  ·exact m.be x z y (hy.imp id (wV ht))
theorem MH.first {la lb lo:List α}{na nb:Nat}(m:MH le la lb lo na nb)(sa:la.Pairwise le)(sb:lb.Pairwise le)(h:∀ y∈lb.take nb,∀ x∈la.take na,le y x):Done le la lb (lb.take nb++la.take na++lo):=by
 refine ⟨?_,List.pairwise_append.mpr ⟨List.pairwise_append.mpr ⟨sb.sublist (List.take_sublist _ _),sa.sublist (List.take_sublist _ _),h⟩,m.sr,fun x hx y hy=>m.be y hy x ((zA6.mp hx).symm)⟩⟩;refine (List.Perm.append_left _ m.pm).trans ?_
 have e:lb.take nb++la.take na++(la.drop na++lb.drop nb)=lb.take nb++(la++lb.drop nb):=by
  rw [zAf,<- zAf (la.take na),zBa]
 rw [e];refine (List.perm_append_comm_assoc _ _ _).trans ?_;rw [zBa]
theorem MH.endA {la lb lo:List α}{nb:Nat}(m:MH le la lb lo 0 nb)(sa:la.Pairwise le)(sb:lb.Pairwise le):Done le la lb (la.take 0++lb.take nb++lo):=by
 have:=m.first sa sb fun y _ x hx=>absurd hx (by simp)
 rw [List.take_zero,zAn] at this;rw [List.take_zero,List.nil_append];exact this
theorem MH.endB {la lb lo:List α}{na:Nat}(m:MH le la lb lo na 0)(sa:la.Pairwise le)(sb:lb.Pairwise le):Done le la lb (la.take na++lb.take 0++lo):=by
 have:=m.first sa sb fun y hy x _=>absurd hy (by simp)
 rw [List.take_zero,List.nil_append] at this;rw [List.take_zero,zAn];exact this
end
section
variable {prog:Program}{w:World}{A:Around}{E:Value->Shared->Prop}{s:Shared}{κ:PyProof.Rows.KeyKind}{ks:SortKind}{a b:Array Keyed}
theorem yU (a:Array Keyed)(n:Nat):(a.extract 0 n).toList=a.toList.take n:=by
 rw [gG];simp
theorem ext_cut (a:Array Keyed)(t n:Nat):(a.extract t n).toList=(a.toList.take n).drop t:=by
 rw [gG,List.drop_take]
theorem uq (out:Array Keyed)(x:Keyed):(out.push x).reverse.toList=x::out.reverse.toList:=by simp
theorem wW (out seg:Array Keyed):(out++seg.reverse).reverse.toList=seg.toList++out.reverse.toList:=by simp
abbrev Mh (κ:PyProof.Rows.KeyKind)(a b out:Array Keyed)(na nb:Nat):Prop:=MH (leK κ) a.toList b.toList out.reverse.toList na nb
structure At (κ:PyProof.Rows.KeyKind)(a b out:Array Keyed)(na nb:Nat):Prop where
 mi:Mh κ a b out na nb
 a1:1<=na
 a2:na<=a.size
 b1:2<=nb
 b2:nb<=b.size
theorem ir {κ:PyProof.Rows.KeyKind}{a:Array Keyed}(ka:KeysOf κ a){n:Nat}(h1:1<=n)(h2:n<=a.size):∃ p,a[n - 1]?=some p/\κ.keyOf p.1=some (key κ p)/\KK κ a (n - 1)=key κ p/\(a.toList.take n).drop (n - 1)=[p]:=by
 obtain ⟨p,p1,p2,p3,p4⟩:=item ka (i:=n - 1) (by lia);refine ⟨p,p1,p2,p3,?_⟩;rw [List.drop_take,p4,show n - (n - 1)=1 by lia];rfl
theorem take_key {κ:PyProof.Rows.KeyKind}{a:Array Keyed}(ka:KeysOf κ a){n t:Nat}{x:Keyed}(h:x∈(a.toList.take n).drop t):∃ j,t<=j/\j < n/\j < a.size/\KK κ a j=key κ x:=by
 rw [List.drop_take] at h;obtain ⟨j,j1,j2,j3⟩:=jP ka h;exact ⟨t+j,by lia,by lia,j2,j3⟩
theorem take_key0 {κ:PyProof.Rows.KeyKind}{a:Array Keyed}(ka:KeysOf κ a){n:Nat}{x:Keyed}(h:x∈a.toList.take n):∃ j,j < n/\j < a.size/\KK κ a j=key κ x:=by
 have h':x∈(a.toList.take n).drop 0:=by rw [List.drop_zero];exact h
 obtain ⟨j,_,j1,j2,j3⟩:=take_key ka h';exact ⟨j,j1,j2,j3⟩
theorem wX {κ:PyProof.Rows.KeyKind}{a:Array Keyed}(ka:KeysOf κ a)(sa:a.toList.Pairwise (leK κ)){n:Nat}{p:Keyed}(h1:1<=n)(h2:n<=a.size)(e:KK κ a (n - 1)=key κ p):∀ y∈a.toList.take n,leK κ y p:=fun y hy=>by
 obtain ⟨j,j1,j2,j3⟩:=take_key0 ka hy;have:=jQ ka sa (i:=j) (j:=n - 1) (by lia) (by lia);rw [j3,e] at this;exact this
theorem pushA {out:Array Keyed}{na nb:Nat}{x:Keyed}(T:Two κ a b)(m:Mh κ a b out na nb)(h1:1<=na)(h2:na<=a.size)(e:(a.toList.take na).drop (na - 1)=[x])(h:∀ y∈b.toList.take nb,leK κ y x):Mh κ a b (out.push x) (na - 1) nb:=by
 have:=MH.segA (t:=na - 1) m T.sa (by lia) (by rw [zA9];exact h2) fun z hz y hy=>by
  rw [e] at hz;rw [List.mem_singleton.mp hz];exact h y hy
 rw [e] at this;unfold Mh;rw [uq];exact this
theorem pushB {out:Array Keyed}{na nb:Nat}{x:Keyed}(T:Two κ a b)(m:Mh κ a b out na nb)(h1:1<=nb)(h2:nb<=b.size)(e:(b.toList.take nb).drop (nb - 1)=[x])(h:∀ y∈a.toList.take na,leK κ y x):Mh κ a b (out.push x) na (nb - 1):=by
 have:=MH.segB (t:=nb - 1) m T.sb (by lia) (by rw [zA9];exact h2) fun z hz y hy=>by
  rw [e] at hz;rw [List.mem_singleton.mp hz];exact h y hy
 rw [e] at this;unfold Mh;rw [uq];exact this
theorem Il {out:Array Keyed}{na nb t:Nat}(T:Two κ a b)(m:Mh κ a b out na nb)(ht:t<=na)(h2:na<=a.size)(h:∀ x∈(a.toList.take na).drop t,∀ y∈b.toList.take nb,leK κ y x):Mh κ a b (out++(a.extract t na).reverse) t nb:=by
 have:=MH.segA m T.sa ht (by rw [zA9];exact h2) h;unfold Mh;rw [wW,ext_cut];exact this
theorem Im {out:Array Keyed}{na nb t:Nat}(T:Two κ a b)(m:Mh κ a b out na nb)(ht:t<=nb)(h2:nb<=b.size)(h:∀ x∈(b.toList.take nb).drop t,∀ y∈a.toList.take na,leK κ y x):Mh κ a b (out++(b.extract t nb).reverse) na t:=by
 have:=MH.segB m T.sb ht (by rw [zA9];exact h2) h;unfold Mh;rw [wW,ext_cut];exact this
def FirstB (κ:PyProof.Rows.KeyKind)(a b:Array Keyed):Prop:=∀ y∈b.toList.take 1,∀ x∈a.toList,leK κ y x
theorem e_a {out:Array Keyed}{na nb:Nat}(T:Two κ a b)(m:Mh κ a b out na nb)(h:na=0):Rs κ a b (dn a b out na nb):=by
 subst h;have:=MH.endA m T.sa T.sb;unfold Rs dn;rw [Array.toList_append,Array.toList_append,yU,yU];exact this
theorem e_b {out:Array Keyed}{na nb:Nat}(T:Two κ a b)(m:Mh κ a b out na nb)(h:nb=0):Rs κ a b (dn a b out na nb):=by
 subst h;have:=MH.endB m T.sa T.sb;unfold Rs dn;rw [Array.toList_append,Array.toList_append,yU,yU];exact this
theorem e_f {out:Array Keyed}{na nb:Nat}(T:Two κ a b)(F:FirstB κ a b)(m:Mh κ a b out na nb)(h:nb=1):Rs κ a b (fb a b out na nb):=by
 subst h
 have:=MH.first m T.sa T.sb fun y hy x hx=>F y hy x (List.mem_of_mem_take hx)
 unfold Rs fb;rw [Array.toList_append,Array.toList_append,yU,yU];exact this
theorem vy (hL:LtAll prog w A E s κ ks)(T:Two κ a b)(F:FirstB κ a b){g na nb ac bc:Nat}{out:Array Keyed}{st:SortSt}(hk:kindOf st=ks)(m:At κ a b out na nb) :
  wpS (model prog w) A E s (one a b g na nb out ac bc) (fun r st'=>st'=st/\match r with
   | .done c=>(∃ z,c.1=some z/\Rs κ a b z)\/(c.1=none/\At κ a b c.2.2.2.1 c.2.1 c.2.2.1/\c.2.1+c.2.2.1+1=na+nb)
   | .yield c=>c.1=none/\At κ a b c.2.2.2.1 c.2.1 c.2.2.1/\c.2.1+c.2.2.1+1=na+nb) st:=by
 obtain ⟨mi,a1,a2,b1,b2⟩:=m;obtain ⟨x,x1,x2,x3,x4⟩:=ir T.ka a1 a2;obtain ⟨y,y1,y2,y3,y4⟩:=ir T.kb (show 1<=nb by lia) b2;unfold one;refine wpS_bind (bx y1 (wpS_bind (bx x1 (wpS_bind (hL st hk _ _ _ _ _ y2 x2 ?_)))))
 cases e:κ.blt (key κ y) (key κ x) with
 | true =>
  dsimp only;rw [if_pos rfl];refine wpS_bind (bx x1 ?_);have m':=pushA T mi a1 a2 x4 fun z hz=>dM (wX T.kb T.sb (by lia) b2 y3 z hz) (KeyOrd.kle_of_klt e);by_cases h0:na - 1=0
  ·rw [if_pos (by simpa using h0)];exact wpS_pure ⟨rfl,.inl ⟨_,rfl,e_a T m' h0⟩⟩
  ·rw [if_neg (by simpa using h0)]
   have at':At κ a b (out.push x) (na - 1) nb:=⟨m',by lia,by lia,b1,b2⟩
   split
   ·exact wpS_pure ⟨rfl,.inr ⟨rfl,at',by dsimp only;lia⟩⟩
   ·exact wpS_pure ⟨rfl,rfl,at',by dsimp only;lia⟩
 | false =>
  dsimp only;rw [if_neg (by decide)];refine wpS_bind (bx y1 ?_);have m':=pushB T mi (by lia) b2 y4 fun z hz=>dM (wX T.ka T.sa a1 a2 x3 z hz) (show leK κ x y from e);by_cases h0:nb - 1=1
  ·rw [if_pos (by simpa using h0)];exact wpS_pure ⟨rfl,.inl ⟨_,rfl,e_f T F m' h0⟩⟩
  ·rw [if_neg (by simpa using h0)]
   have at':At κ a b (out.push y) na (nb - 1):=⟨m',a1,a2,by lia,by lia⟩
   split
   ·exact wpS_pure ⟨rfl,.inr ⟨rfl,at',by dsimp only;lia⟩⟩
   ·exact wpS_pure ⟨rfl,rfl,at',by dsimp only;lia⟩
def G2 (κ:PyProof.Rows.KeyKind)(a b:Array Keyed)(n:Nat)(st:SortSt)(r:ForInStep H2)(st':SortSt):Prop:=SG st st'/\match r with
 | .done c=>(∃ z,c.1=some z/\Rs κ a b z)\/(c.1=none/\At κ a b c.2.2.2.1 c.2.1 c.2.2.1/\c.2.1+c.2.2.1 < n)
 | .yield c=>c.1=none/\At κ a b c.2.2.2.1 c.2.1 c.2.2.1/\c.2.1+c.2.2.1 < n
theorem oh (T:Two κ a b){g na nb k k1 n:Nat}{out:Array Keyed}{bE st:SortSt}(sg:SG bE st)(m:At κ a b out na nb)(hn:na+nb<=n)(h:∀ y∈b.toList.take nb,∀ x,a[na - 1]?=some x->leK κ y x) :
  wpS (model prog w) A E s (gl4 a b na nb out g k k1) (G2 κ a b n bE) st:=by
 obtain ⟨mi,a1,a2,b1,b2⟩:=m;obtain ⟨x,x1,x2,x3,x4⟩:=ir T.ka a1 a2;unfold gl4;refine wpS_bind (bx x1 ?_);have m':=pushA T mi a1 a2 x4 fun z hz=>h z hz x x1;by_cases h0:na - 1=0
 ·rw [if_pos (by simpa using h0)];exact wpS_pure ⟨sg,.inl ⟨_,rfl,e_a T m' h0⟩⟩
 ·rw [if_neg (by simpa using h0)]
  have at':At κ a b (out.push x) (na - 1) nb:=⟨m',by lia,by lia,b1,b2⟩
  split
  ·exact wpS_pure ⟨sg,.inr ⟨rfl,at',by dsimp only;lia⟩⟩
  ·exact wpS_pure ⟨sg,rfl,at',by dsimp only;lia⟩
theorem vz (hL:LtAll prog w A E s κ ks)(T:Two κ a b)(F:FirstB κ a b){g na nb k bc n:Nat}{out:Array Keyed}{bE st:SortSt}(hk:kindOf st=ks)(sg:SG bE st)(m:At κ a b out na nb)(hn:na+nb<=n) :
  wpS (model prog w) A E s (gl3 a b na nb out g k bc) (G2 κ a b n bE) st:=by
 obtain ⟨mi,a1,a2,b1,b2⟩:=id m;obtain ⟨x,x1,x2,x3,x4⟩:=ir T.ka a1 a2;unfold gl3;refine wpS_bind (bx x1 ?_);refine wpS_bind (dU (κ:=κ) (kk:=key κ x) (hL st hk) x2 (by lia) (fun i hi=>?_) (fun i j cq hj kc=>?_) fun t kn kt kf=>?_)
 ·obtain ⟨p,p1,p2,p3,_⟩:=item T.kb (i:=0+i) (by lia);exact ⟨p,_,p1,p2,p3⟩
 ·have mono:=jQ T.kb T.sb (i:=0+i) (j:=0+j) (by lia) (by lia);exact KeyOrd.klt_of_kle_of_klt mono kc
 ·have early:∀ y∈b.toList.take t,∀ z,a[na - 1]?=some z->leK κ y z:=fun y hy z hz=>by
   rw [x1] at hz;cases hz;obtain ⟨j,j1,j2,j3⟩:=take_key0 T.kb hy;have:=kt j j1;rw [Nat.zero_add,j3] at this;exact KeyOrd.kle_of_klt this
  by_cases h0:nb - t > 0
  ·dsimp only;rw [if_pos h0]
   have m':=Im T mi (show t<=nb by lia) b2 fun z hz y hy=>by
    obtain ⟨j,j1,j2,j3,j4⟩:=take_key T.kb hz;have:=kf j j1 j2;rw [Nat.zero_add,j4] at this;exact dM (wX T.ka T.sa a1 a2 x3 y hy) (show leK κ x z from this)
   by_cases e:t=1
   ·rw [if_pos (by simpa using e)];exact wpS_pure ⟨sg,.inl ⟨_,rfl,e_f T F m' e⟩⟩
   ·rw [if_neg (by simpa using e)];by_cases e2:t=0
    ·rw [if_pos (by simpa using e2)];exact wpS_pure ⟨sg,.inl ⟨_,rfl,e_b T m' e2⟩⟩
    ·rw [if_neg (by simpa using e2)];exact oh T sg ⟨m',a1,a2,by lia,by lia⟩ (by lia) early
  ·dsimp only;rw [if_neg h0];have e:t=nb:=by lia
   rw [e] at early;exact oh T sg m hn early
theorem ou (hL:LtAll prog w A E s κ ks)(T:Two κ a b)(F:FirstB κ a b){g na nb k bc n:Nat}{out:Array Keyed}{bE st:SortSt}(hk:kindOf st=ks)(sg:SG bE st)(m:At κ a b out na nb)(hn:na+nb<=n)(h:∀ x∈a.toList.take na,∀ y,b[nb - 1]?=some y->leK κ x y) :
  wpS (model prog w) A E s (gl2 a b na nb out g k bc) (G2 κ a b n bE) st:=by
 obtain ⟨mi,a1,a2,b1,b2⟩:=m;obtain ⟨y,y1,y2,y3,y4⟩:=ir T.kb (show 1<=nb by lia) b2;unfold gl2;refine wpS_bind (bx y1 ?_);have m':=pushB T mi (by lia) b2 y4 fun z hz=>h z hz y y1;by_cases h0:nb - 1=1
 ·rw [if_pos (by simpa using h0)];exact wpS_pure ⟨sg,.inl ⟨_,rfl,e_f T F m' h0⟩⟩
 ·rw [if_neg (by simpa using h0)];exact vz hL T F hk sg ⟨m',a1,a2,by lia,by lia⟩ (by lia)
theorem vA (hL:LtAll prog w A E s κ ks)(T:Two κ a b)(F:FirstB κ a b){g na nb ac bc n:Nat}{out:Array Keyed}{bE st:SortSt}(hk:kindOf st=ks)(sg:SG bE st)(m:At κ a b out na nb)(hn:na+nb<=n) :
  wpS (model prog w) A E s (gl1 a b na nb out g ac bc) (G2 κ a b n bE) st:=by
 obtain ⟨mi,a1,a2,b1,b2⟩:=id m;obtain ⟨y,y1,y2,y3,y4⟩:=ir T.kb (show 1<=nb by lia) b2;unfold gl1;refine wpS_bind (jc fun st' f7=>?_);have eI:kindOf st'=ks:=f7.kind.trans hk
 have ck:SG bE st':=⟨f7.kind.trans sg.kind,f7.arr.trans sg.arr,f7.pend.trans sg.pend,f7.fail.trans sg.fail⟩
 refine wpS_bind (bx y1 ?_);refine wpS_bind (dU (κ:=κ) (kk:=key κ y) (hL st' eI) y2 (by lia) (fun i hi=>?_) (fun i j cq hj kc=>?_) fun t kn kt kf=>?_)
 ·obtain ⟨p,p1,p2,p3,_⟩:=item T.ka (i:=0+i) (by lia);exact ⟨p,_,p1,p2,p3⟩
 ·have mono:=jQ T.ka T.sa (i:=0+i) (j:=0+j) (by lia) (by lia);have kc:(!κ.blt (key κ y) (KK κ a (0+j)))=true:=kc;show (!κ.blt (key κ y) (KK κ a (0+i)))=true;rw [Bool.not_eq_true'] at kc ⊢;exact KeyOrd.kle_trans mono kc
 ·have early:∀ x∈a.toList.take t,∀ z,b[nb - 1]?=some z->leK κ x z:=fun x hx z hz=>by
   rw [y1] at hz;cases hz;obtain ⟨j,j1,j2,j3⟩:=take_key0 T.ka hx;have:=kt j j1;rw [Nat.zero_add,j3] at this;have this:(!κ.blt (key κ y) (key κ x))=true:=this;rw [Bool.not_eq_true'] at this;exact this
  by_cases h0:na - t > 0
  ·dsimp only;rw [if_pos h0]
   have m':=Il T mi (show t<=na by lia) a2 fun z hz x hx=>by
    obtain ⟨j,j1,j2,j3,j4⟩:=take_key T.ka hz;have:=kf j j1 j2;rw [Nat.zero_add,j4] at this;have this:(!κ.blt (key κ y) (key κ z))=false:=this;rw [Bool.not_eq_false'] at this;exact dM (wX T.kb T.sb (by lia) b2 y3 x hx) (KeyOrd.kle_of_klt this)
   by_cases e:t=0
   ·rw [if_pos (by simpa using e)];exact wpS_pure ⟨ck,.inl ⟨_,rfl,e_a T m' e⟩⟩
   ·rw [if_neg (by simpa using e)];exact ou hL T F eI ck ⟨m',by lia,by lia,b1,b2⟩ (by lia) early
  ·dsimp only;rw [if_neg h0];have e:t=na:=by lia
   rw [e] at early;exact ou hL T F eI ck m hn early
theorem oA (hL:LtAll prog w A E s κ ks)(T:Two κ a b)(F:FirstB κ a b){g na nb:Nat}{out:Array Keyed}{bE st:SortSt}(hk:kindOf st=ks)(sg:SG bE st)(m:At κ a b out na nb) :
  wpS (model prog w) A E s (round a b na nb out g) (fun r st'=>SG bE st'/\match r with
   | .done c=>∃ z,c.1=some z/\Rs κ a b z
   | .yield c=>c.1=none/\At κ a b c.2.2.2.1 c.2.1 c.2.2.1/\c.2.1+c.2.2.1 < na+nb) st:=by
 unfold round
 have PM:0 < a.size+b.size:=by
  have:=m.a1;have:=m.a2;lia
 refine wpS_bind (wpS_mono (wpS_forRange (I:=fun x c st'=>st'=st/\c.1=none/\At κ a b c.2.2.2.1 c.2.1 c.2.2.1/\c.2.1+c.2.2.1+x=na+nb)
  (Q:=fun c st'=>st'=st/\((∃ z,c.1=some z/\Rs κ a b z)\/(c.1=none/\At κ a b c.2.2.2.1 c.2.1 c.2.2.1/\c.2.1+c.2.2.1 < na+nb))) ?_ ?_ ⟨rfl,rfl,m,rfl⟩) ?_)
 ·rintro x ⟨c0,i,j,o,ac,bc⟩ st' _ hx ⟨rfl,rfl,m',e⟩;dsimp only at m' e ⊢;refine wpS_mono (vy hL T F hk m') fun r st2 h2=>?_;obtain ⟨rfl,h2⟩:=h2
  cases r with
  | done c =>
   rcases h2 with h2 | ⟨h2,h3,h4⟩
   ·exact ⟨rfl,.inl h2⟩
   ·exact ⟨rfl,.inr ⟨h2,h3,by lia⟩⟩
  | yield c =>
   obtain ⟨h2,h3,h4⟩:=h2;exact ⟨rfl,h2,h3,by lia⟩
 ·rintro c st' ⟨rfl,h1,h2,h3⟩;exact ⟨rfl,.inr ⟨h1,h2,by lia⟩⟩
 ·rintro ⟨c0,i,j,o,ac,bc⟩ st' ⟨rfl,h⟩;dsimp only at h ⊢;rcases h with ⟨z,rfl,hz⟩ | ⟨rfl,m',cq⟩
  ·exact wpS_pure ⟨sg,z,rfl,hz⟩
  ·dsimp only;refine wpS_bind (wpS_lift (wpAny_rule ⟨rfl,?_⟩))
   refine wpS_bind (wpS_mono (wpS_forRange (I:=fun x c st2=>SG bE st2/\c.1=none/\At κ a b c.2.2.2.1 c.2.1 c.2.2.1/\c.2.1+c.2.2.1 < na+nb)
    (Q:=fun c st2=>SG bE st2/\((∃ z,c.1=some z/\Rs κ a b z)\/(c.1=none/\At κ a b c.2.2.2.1 c.2.1 c.2.2.1/\c.2.1+c.2.2.1 < na+nb))) ?_ ?_ ⟨sg,rfl,m',cq⟩) ?_)
   ·rintro x ⟨c0,i,j,o,g2,ac,bc⟩ st2 _ hx ⟨ck,rfl,m2,e2⟩;dsimp only at m2 e2 ⊢;have ui:kindOf st2=ks:=ck.kind.trans (sg.kind.symm.trans hk);have go:∀ g',wpS (model prog w) A E s (gl1 a b i j o g' ac bc) (G2 κ a b (na+nb) bE) st2:=fun g'=>vA hL T F ui ck m2 (by lia);unfold gal;split
    ·refine wpS_mono (go _) fun r iq h3=>?_;obtain ⟨h3,h4⟩:=h3
     cases r with
     | done c=>exact ⟨h3,h4⟩
     | yield c=>exact ⟨h3,h4⟩
    ·refine wpS_mono (go _) fun r iq h3=>?_;obtain ⟨h3,h4⟩:=h3
     cases r with
     | done c=>exact ⟨h3,h4⟩
     | yield c=>exact ⟨h3,h4⟩
   ·rintro c st2 ⟨h0,h1,h2,h3⟩;exact ⟨h0,.inr ⟨h1,h2,h3⟩⟩
   ·rintro ⟨c0,i,j,o,g2,ac,bc⟩ st2 ⟨ck,h⟩;dsimp only at h ⊢;rcases h with ⟨z,rfl,hz⟩ | ⟨rfl,m2,uk⟩
    ·exact wpS_pure ⟨ck,z,rfl,hz⟩
    ·dsimp only;refine wpS_bind (jc fun iq oq=>wpS_pure ⟨⟨oq.kind.trans ck.kind,oq.arr.trans ck.arr,oq.pend.trans ck.pend,oq.fail.trans ck.fail⟩,rfl,m2,uk⟩)
theorem hi_wp (hL:LtAll prog w A E s κ ks)(T:Two κ a b)(L:jn κ a b)(F:FirstB κ a b)(ha:0 < a.size)(hb:0 < b.size){st:SortSt}(hk:kindOf st=ks){Q:Array Keyed->SortSt->Prop}
  (h:∀ r st',SG st st'->Rs κ a b r->Q r st'):wpS (model prog w) A E s (jR a b) Q st:=by
 rw [Ik];obtain ⟨x,x1,x2,x3,x4⟩:=ir T.ka (n:=a.size) ha (zA3 _);refine wpS_bind (wpS_lift (wpAny_rule ⟨rfl,?_⟩));refine wpS_bind (bx x1 ?_)
 have m0:Mh κ a b #[] a.size b.size:=by
  refine ⟨?_,List.Pairwise.nil,fun x hx=>absurd hx (by simp)⟩;rw [List.drop_of_length_le (by rw [zA9];exact zA3 _),List.drop_of_length_le (by rw [zA9];exact zA3 _)];exact List.Perm.nil
 have m:Mh κ a b #[x] (a.size - 1) b.size:=pushA (out:=#[]) T m0 ha (zA3 _) x4 fun y hy=>L y (List.mem_of_mem_take hy) x (by
  rw [<- zA9,zAm,zA9] at x4;rw [x4]
  exact List.mem_cons_self)
 by_cases e1:a.size - 1=0
 ·rw [if_pos (by simpa using e1)];exact wpS_pure (h _ st (SG.refl _) (e_a T m e1))
 ·rw [if_neg (by simpa using e1)];by_cases e2:b.size=1
  ·rw [if_pos (by simpa using e2)];exact wpS_pure (h _ st (SG.refl _) (e_f T F m e2))
  ·rw [if_neg (by simpa using e2)];refine wpS_bind (wpS_get ?_)
   refine wpS_bind (wpS_mono (wpS_forRange (I:=fun x c st'=>SG st st'/\c.1=none/\At κ a b c.2.2.2.1 c.2.1 c.2.2.1/\c.2.1+c.2.2.1+x < a.size+b.size)
    (Q:=fun c st'=>SG st st'/\∃ z,c.1=some z/\Rs κ a b z) ?_ ?_ ⟨SG.refl _,rfl,⟨m,by dsimp only;lia,by dsimp only;lia,by dsimp only;lia,Nat.le_refl _⟩,by dsimp only;lia⟩) ?_)
   ·rintro x ⟨c0,i,j,o,g⟩ st' _ hx ⟨sg,rfl,m',e⟩;dsimp only at m' e ⊢;refine wpS_mono (oA hL T F (sg.kind.trans hk) sg m') fun r st2 h2=>?_;obtain ⟨ck,h2⟩:=h2
    cases r with
    | done c=>exact ⟨ck,h2⟩
    | yield c =>
     obtain ⟨h2,h3,h4⟩:=h2;exact ⟨ck,h2,h3,by lia⟩
   ·rintro c st' ⟨sg,h1,m',e⟩;exact absurd e (by lia)
   ·rintro ⟨c0,i,j,o,g⟩ st' ⟨sg,z,e,hz⟩;dsimp only at e;rw [e];exact wpS_pure (h z st' sg hz)
end
end Hi
open PySem PyProof.Rows
def over (arr:Array Keyed)(n:Nat)(l:List Keyed):Array Keyed:=l.zipIdx.foldl (fun a p=>a.setIfInBounds (n+p.2) p.1) arr
theorem rW:∀ (l:List Keyed) (j n:Nat) (arr:Array Keyed),n+j+l.length<=arr.size ->
  (((l.zipIdx j).foldl (fun a p=>a.setIfInBounds (n+p.2) p.1) arr).size=arr.size/\∀ i,((l.zipIdx j).foldl (fun a p=>a.setIfInBounds (n+p.2) p.1) arr)[i]?=if n+j<=i/\i < n+j+l.length then l[i - (n+j)]? else arr[i]?)
 | [],j,n,arr,_=>by
  refine ⟨rfl,fun i=>?_⟩;rw [zAw (by rw [List.length_nil];lia)];rfl
 | p::l,j,n,arr,h=>by
  rw [zAe] at h;rw [List.zipIdx_cons,List.foldl_cons];obtain ⟨h1,h2⟩:=rW l (j+1) n (arr.setIfInBounds (n+j) p) (by rw [Array.size_setIfInBounds];lia);refine ⟨by rw [h1,Array.size_setIfInBounds],fun i=>?_⟩;rw [h2 i,zAe,Array.getElem?_setIfInBounds];by_cases e:n+j=i
  ·subst e;rw [if_neg (by lia),if_pos rfl,if_pos (by lia),if_pos (by lia)];simp
  ·rw [zAw e];by_cases e2:n+(j+1)<=i/\i < n+(j+1)+l.length
   ·rw [zAx e2,zAx (by lia),show i - (n+j)=(i - (n+(j+1)))+1 by lia];rfl
   ·rw [zAw e2,zAw (by lia)]
theorem yV {arr:Array Keyed}{n:Nat}{l:List Keyed}(h:n+l.length<=arr.size):(over arr n l).toList=arr.toList.take n++l++arr.toList.drop (n+l.length):=by
 obtain ⟨h1,h2⟩:=rW l 0 n arr (by lia);refine List.ext_getElem? fun i=>?_;rw [Array.getElem?_toList];show ((l.zipIdx 0).foldl (fun a p=>a.setIfInBounds (n+p.2) p.1) arr)[i]?=_;have hl:arr.toList.length=arr.size:=zA9;rw [h2 i,zAf,List.getElem?_append,zAd,hl,show min n arr.size=n by lia,List.getElem?_append];by_cases e1:i < n
 ·rw [zAw (by lia),zAx e1,List.getElem?_take,zAx e1,Array.getElem?_toList]
 ·rw [zAw e1];by_cases e2:i < n+l.length
  ·rw [zAx (by lia),zAx (by lia)];rfl
  ·rw [zAw (by lia),zAw (by lia),List.getElem?_drop,Array.getElem?_toList];congr 1;lia
theorem pw_of_seg {κ:PyProof.Rows.KeyKind}{arr:Array Keyed}(ka:KeysOf κ arr){lo hi:Nat}(hh:hi<=arr.size)(h:Seg κ arr lo hi):((arr.toList.take hi).drop lo).Pairwise (leK κ):=by
 rw [List.pairwise_iff_getElem];intro i j fx mT cq;rw [List.length_drop,zAd,zA9] at fx mT;rw [List.getElem_drop,List.getElem_drop,List.getElem_take,List.getElem_take]
 have eW:∀ k,(hk:k < arr.toList.length)->k < arr.size->key κ arr.toList[k]=KK κ arr k:=fun k hk eI=>by
  obtain ⟨p,p1,p2,p3,p4⟩:=item ka eI;rw [p3]
  have e:arr.toList[k]?=some p:=by
   rw [Array.getElem?_toList];exact p1
  rw [zA0 hk] at e;rw [zAl e]
 unfold leK;rw [eW _ _ (by lia),eW _ _ (by lia)];exact h _ _ (by lia) (by lia) (by lia)
theorem yW {κ:PyProof.Rows.KeyKind}{arr:Array Keyed}(ka:KeysOf κ arr){lo hi:Nat}(hh:hi<=arr.size)(h:((arr.toList.take hi).drop lo).Pairwise (leK κ)):Seg κ arr lo hi:=by
 intro i j h1 h2 h3;by_cases e:i=j
 ·rw [e];exact KeyOrd.kle_refl _
 ·rw [List.pairwise_iff_getElem] at h
  have eW:∀ k,(hk:k < arr.toList.length)->k < arr.size->key κ arr.toList[k]=KK κ arr k:=fun k hk eI=>by
   obtain ⟨p,p1,p2,p3,p4⟩:=item ka eI;rw [p3]
   have e:arr.toList[k]?=some p:=by
    rw [Array.getElem?_toList];exact p1
   rw [zA0 hk] at e;rw [zAl e]
  have:=h (i - lo) (j - lo) (by rw [List.length_drop,zAd,zA9];lia) (by rw [List.length_drop,zAd,zA9];lia) (by lia);rw [List.getElem_drop,List.getElem_drop,List.getElem_take,List.getElem_take] at this;unfold leK at this;rw [eW _ _ (by lia),eW _ _ (by lia)] at this;rw [show lo+(i - lo)=i by lia,show lo+(j - lo)=j by lia] at this;exact this
theorem Io (i:Nat):mergeAt' i=(do
  let s <- get
  match (pendingOf s)[i]?,(pendingOf s)[i+1]? with
  | some p,some q=>do
   set (setPending s (((pendingOf s).setIfInBounds i (p.1,p.2.1+q.2.1,p.2.2)).eraseIdxIfInBounds (i+1)))
   let y <- elem' (arrOf s) q.1
   let r <- gq false y (arrOf s) p.1 p.2.1 0
   match r with
   | some k =>
    if (p.2.1 - k == 0)=true then pure true
    else do
     let x <- elem' (arrOf s) (p.1+k+(p.2.1 - k) - 1)
     let r <- gq true x (arrOf s) q.1 q.2.1 (q.2.1 - 1)
     match r with
     | some n =>
      if (n == 0)=true then pure true
      else do
       let m <- if p.2.1 - k<=n then jM ((arrOf s).extract (p.1+k) q.1) ((arrOf s).extract q.1 (q.1+n)) else jR ((arrOf s).extract (p.1+k) q.1) ((arrOf s).extract q.1 (q.1+n))
       modify fun s'=>setArr s' (over (arrOf s') (p.1+k) m.toList)
       let s' <- get
       pure (failedOf s').isNone
     | _=>pure false
   | _=>pure false
  | _,_=>liftM (unsupported "internal:list.sort.pending")):=by
 delta mergeAt'
 refine bc rfl (funext fun s=>?_);generalize e1:(pendingOf s)[i]?=o1;generalize e2:(pendingOf s)[i+1]?=o2
 cases o1 with
 | none=>cases o2 <;> rfl
 | some p =>
  obtain ⟨sa,na,pw⟩:=p
  cases o2 with
  | none=>rfl
  | some q =>
   obtain ⟨sb,nb,HE⟩:=q;refine bc rfl (funext fun u=>bc rfl (funext fun y=>bc rfl (funext fun r=>?_)))
   cases r with
   | none=>rfl
   | some k =>
    refine ic rfl (bc rfl (funext fun x=>bc rfl (funext fun r=>?_)))
    cases r with
    | none=>rfl
    | some n=>exact ic rfl (ic (bc rfl (funext fun m=>rfl)) (bc rfl (funext fun m=>rfl)))
theorem keys_perm {κ:PyProof.Rows.KeyKind}{ab xs:Array Keyed}(h0:KeysOf κ ab)(h:xs.Perm ab):KeysOf κ xs:=fun p hp=>h0 p ((Array.perm_iff_toList_perm.mp h).mem_iff.mp hp)
theorem ur {κ:PyProof.Rows.KeyKind}{xs:Array Keyed}(h0:KeysOf κ xs)(i j:Nat):KeysOf κ (xs.extract i j):=fun p hp=>by
 rw [gG] at hp;exact h0 p (List.mem_of_mem_drop (List.mem_of_mem_take hp))
section
variable {prog:Program}{w:World}{A:Around}{E:Value->Shared->Prop}{s:Shared}{κ:PyProof.Rows.KeyKind}{ks:SortKind}{ab:Array Keyed}
structure Mg (κ:PyProof.Rows.KeyKind)(ks:SortKind)(ab:Array Keyed)(st st':SortSt)(sa hi:Nat)(pend:Array (Nat×Nat×Nat)):Prop where
 base:SB ks ab st'
 out:∀ k,(k < sa\/hi<=k)->(arrOf st')[k]?=(arrOf st)[k]?
 seg:Seg κ (arrOf st') sa hi
 pend:pendingOf st'=pend
theorem Bf {l:List Keyed}{i j k m:Nat}(h1:i<=j)(h2:j<=k)(h3:k<=m)(h4:m<=l.length):(l.take m).drop i=(l.take j).drop i++((l.take k).drop j++(l.take m).drop k):=by
 have c:∀ {x y z:Nat},x<=y->y<=z->z<=l.length->(l.take z).drop x=(l.take y).drop x++(l.take z).drop y:=fun {x y z} a b d=>by
  have:=Hi.cut_drop (l:=l.take z) (t:=x) (n:=y) a (by rw [zAd];lia);rw [List.take_take,show min y z=y by lia] at this;exact this.symm
 rw [c h1 (by lia) h4,c h2 h3 h4]
theorem Ip (hL:LtAll prog w A E s κ ks)(h0:KeysOf κ ab){st:SortSt}(B:SB ks ab st){i sa na pw nb HE:Nat}(e1:(pendingOf st)[i]?=some (sa,na,pw))(e2:(pendingOf st)[i+1]?=some (sa+na,nb,HE))
  (n1:1<=na) (n2:1<=nb) (hz:sa+na+nb<=ab.size) (s1:Seg κ (arrOf st) sa (sa+na)) (s2:Seg κ (arrOf st) (sa+na) (sa+na+nb)) {Q:Bool->SortSt->Prop}
  (h:∀ st',Mg κ ks ab st st' sa (sa+na+nb) (((pendingOf st).setIfInBounds i (sa,na+nb,pw)).eraseIdxIfInBounds (i+1))->Q true st'):wpS (model prog w) A E s (mergeAt' i) Q st:=by
 rw [Io];refine wpS_bind (wpS_get ?_);rw [e1,e2];dsimp only;have kA:KeysOf κ (arrOf st):=keys_perm h0 B.pm;have hsz:(arrOf st).size=ab.size:=B.size;have fk:(arrOf st).toList.length=ab.size:=by rw [zA9,hsz]
 obtain ⟨P,eP⟩:∃ P,P=((pendingOf st).setIfInBounds i (sa,na+nb,pw)).eraseIdxIfInBounds (i+1):=⟨_,rfl⟩
 rw [<- eP] at h ⊢
 have HG:∀ {R:PUnit->SortSt->Prop},R ⟨⟩ (setPending st P)->wpS (model prog w) A E s (set (setPending st P):Sm PUnit) R st:=fun hR=>by
  unfold wpS;rw [StateT.run_set];exact zB1 ⟨rfl,hR⟩
 refine wpS_bind (HG ?_)
 obtain ⟨f6,kg⟩:∃ f6,f6=setPending st P:=⟨_,rfl⟩
 have k1:kindOf f6=ks:=by rw [kg];exact B.kind
 have a1:arrOf f6=arrOf st:=by rw [kg]
 have p1:pendingOf f6=P:=by rw [kg]
 have f1:failedOf f6=none:=by rw [kg];exact B.ok
 rw [<- kg]
 have all:Seg κ (arrOf st) sa (sa+na+nb)->Mg κ ks ab st f6 sa (sa+na+nb) P:=fun sg=>⟨⟨k1,f1,by rw [a1];exact B.pm⟩,fun k _=>by rw [a1],by rw [a1];exact sg,p1⟩
 obtain ⟨y,y1,y2,y3,y4⟩:=item kA (i:=sa+na) (by lia);refine wpS_bind (bx y1 ?_);refine wpS_bind (dU (κ:=κ) (kk:=key κ y) (hL f6 k1) y2 (by lia) (fun j hj=>?_) (fun j j' PN mT hb=>?_) fun k kn kt kf=>?_)
 ·obtain ⟨p,q1,q2,q3,_⟩:=item kA (i:=sa+j) (by lia);exact ⟨p,_,q1,q2,q3⟩
 ·have mono:=s1 (sa+j) (sa+j') (by lia) (by lia) (by lia);have hb:(!κ.blt (key κ y) (KK κ (arrOf st) (sa+j')))=true:=hb;show (!κ.blt (key κ y) (KK κ (arrOf st) (sa+j)))=true;rw [Bool.not_eq_true'] at hb ⊢;exact KeyOrd.kle_trans mono hb
 ·have HI:∀ j,sa<=j->j < sa+k->κ.kle (KK κ (arrOf st) j) (KK κ (arrOf st) (sa+na)):=fun j j1 j2=>by
   have:=kt (j - sa) (by lia);rw [show sa+(j - sa)=j by lia] at this;have this:(!κ.blt (key κ y) (KK κ (arrOf st) j))=true:=this;rw [Bool.not_eq_true'] at this;rw [y3];exact this
  have PQ:∀ j,sa+k<=j->j < sa+na->κ.kle (KK κ (arrOf st) (sa+na)) (KK κ (arrOf st) j):=fun j j1 j2=>by
   have:=kf (j - sa) (by lia) (by lia);rw [show sa+(j - sa)=j by lia] at this;have this:(!κ.blt (key κ y) (KK κ (arrOf st) j))=false:=this;rw [Bool.not_eq_false'] at this;rw [y3];exact KeyOrd.kle_of_klt this
  dsimp only;by_cases xS:na - k=0
  ·rw [if_pos (by simpa using xS)];refine wpS_pure (h f6 (all fun u v hu AY hv=>?_));by_cases c1:v < sa+na
   ·exact s1 u v hu AY c1
   ·by_cases c2:u < sa+na
    ·exact KeyOrd.kle_trans (HI u hu (by lia)) (s2 (sa+na) v (zA3 _) (by lia) hv)
    ·exact s2 u v (by lia) AY hv
  ·rw [if_neg (by simpa using xS)];rw [show sa+k+(na - k) - 1=sa+na - 1 by lia];obtain ⟨x,x1,x2,x3,x4⟩:=item kA (i:=sa+na - 1) (by lia);refine wpS_bind (bx x1 ?_);refine wpS_bind (dU (κ:=κ) (kk:=key κ x) (hL f6 k1) x2 (by lia) (fun j hj=>?_) (fun j j' PN mT hb=>?_) fun n nn nt nf=>?_)
   ·obtain ⟨p,q1,q2,q3,_⟩:=item kA (i:=sa+na+j) (by lia);exact ⟨p,_,q1,q2,q3⟩
   ·exact KeyOrd.klt_of_kle_of_klt (s2 (sa+na+j) (sa+na+j') (by lia) (by lia) (by lia)) hb
   ·have PR:∀ j,sa+na<=j->j < sa+na+n->κ.kle (KK κ (arrOf st) j) (KK κ (arrOf st) (sa+na - 1)):=fun j j1 j2=>by
     have:=nt (j - (sa+na)) (by lia);rw [show sa+na+(j - (sa+na))=j by lia] at this;rw [x3];exact KeyOrd.kle_of_klt this
    have MM:∀ j,sa+na+n<=j->j < sa+na+nb->κ.kle (KK κ (arrOf st) (sa+na - 1)) (KK κ (arrOf st) j):=fun j j1 j2=>by
     have:=nf (j - (sa+na)) (by lia) (by lia);rw [show sa+na+(j - (sa+na))=j by lia] at this;rw [x3];exact this
    dsimp only;by_cases MN:n=0
    ·rw [if_pos (by simpa using MN)];refine wpS_pure (h f6 (all fun u v hu AY hv=>?_));by_cases c1:v < sa+na
     ·exact s1 u v hu AY c1
     ·by_cases c2:u < sa+na
      ·exact KeyOrd.kle_trans (s1 u (sa+na - 1) hu (by lia) (by lia)) (MM v (by lia) hv)
      ·exact s2 u v (by lia) AY hv
    ·rw [if_neg (by simpa using MN)]
     obtain ⟨X,eX⟩:∃ X,X=(arrOf st).extract (sa+k) (sa+na):=⟨_,rfl⟩
     obtain ⟨Y,eY⟩:∃ Y,Y=(arrOf st).extract (sa+na) (sa+na+n):=⟨_,rfl⟩
     rw [<- eX,<- eY];have lX:X.toList=((arrOf st).toList.take (sa+na)).drop (sa+k):=by rw [eX,Hi.ext_cut]
     have lY:Y.toList=((arrOf st).toList.take (sa+na+n)).drop (sa+na):=by rw [eY,Hi.ext_cut]
     have zX:X.size=na - k:=by rw [<- zA9,lX,List.length_drop,zAd,fk];lia
     have zY:Y.size=n:=by rw [<- zA9,lY,List.length_drop,zAd,fk];lia
     have pA:=pw_of_seg kA (by lia) s1;have pB:=pw_of_seg kA (by lia) s2;have eA:=Bf (l:=(arrOf st).toList) (i:=sa) (j:=sa+k) (k:=sa+na) (m:=sa+na) (by lia) (by lia) (zA3 _) (by rw [fk];lia);have eB:=Bf (l:=(arrOf st).toList) (i:=sa+na) (j:=sa+na+n) (k:=sa+na+nb) (m:=sa+na+nb) (by lia) (by lia) (zA3 _) (by rw [fk];lia);have HM:((arrOf st).toList.take (sa+na)).drop (sa+na)=[]:=List.drop_of_length_le (by rw [zAd];lia);have HP:((arrOf st).toList.take (sa+na+nb)).drop (sa+na+nb)=[]:=List.drop_of_length_le (by rw [zAd];lia);rw [HM,zAn,<- lX] at eA;rw [HP,zAn,<- lY] at eB
     obtain ⟨A1,HU⟩:∃ A1,A1=((arrOf st).toList.take (sa+k)).drop sa:=⟨_,rfl⟩
     obtain ⟨B2,HV⟩:∃ B2,B2=((arrOf st).toList.take (sa+na+nb)).drop (sa+na+n):=⟨_,rfl⟩
     rw [<- HU] at eA;rw [<- HV] at eB;rw [eA] at pA;rw [eB] at pB;obtain ⟨PU,pX,PV⟩:=List.pairwise_append.mp pA;obtain ⟨pY,PX,PY⟩:=List.pairwise_append.mp pB
     have MO:∀ z∈X.toList,∃ j,sa+k<=j/\j < sa+na/\KK κ (arrOf st) j=key κ z:=fun z df=>by
      rw [lX] at df;obtain ⟨j,j1,j2,_,j4⟩:=Hi.take_key kA df;exact ⟨j,j1,j2,j4⟩
     have MP:∀ z∈Y.toList,∃ j,sa+na<=j/\j < sa+na+n/\KK κ (arrOf st) j=key κ z:=fun z df=>by
      rw [lY] at df;obtain ⟨j,j1,j2,_,j4⟩:=Hi.take_key kA df;exact ⟨j,j1,j2,j4⟩
     have PZ:∀ z∈A1,∃ j,sa<=j/\j < sa+k/\KK κ (arrOf st) j=key κ z:=fun z df=>by
      rw [HU] at df;obtain ⟨j,j1,j2,_,j4⟩:=Hi.take_key kA df;exact ⟨j,j1,j2,j4⟩
     have MQ:∀ z∈B2,∃ j,sa+na+n<=j/\j < sa+na+nb/\KK κ (arrOf st) j=key κ z:=fun z df=>by
      rw [HV] at df;obtain ⟨j,j1,j2,_,j4⟩:=Hi.take_key kA df;exact ⟨j,j1,j2,j4⟩
     have TT:Two κ X Y:=⟨by rw [eX];exact ur kA _ _,by rw [eY];exact ur kA _ _,pX,pY⟩
     have LL:jn κ X Y:=fun z df v hv=>by
      obtain ⟨j,j1,j2,j3⟩:=MP z df;obtain ⟨j',AZ,A0,uu⟩:=o9 TT.ka hv;have ej:j'=X.size - 1:=by lia
      have e:KK κ X j'=KK κ (arrOf st) (sa+na - 1):=by
       refine KK_congr ?_;rw [eX,Array.getElem?_extract,zAx (by lia)];congr 1;lia
      show κ.kle (key κ z) (key κ v);rw [<- j3,<- uu,e];exact PR j j1 j2
     have F0:∀ v∈X.toList,∀ z,Y[0]?=some z->leK κ z v:=fun v hv z df=>by
      obtain ⟨j,j1,j2,j3⟩:=MO v hv
      have ez:z=y:=by
       rw [eY,Array.getElem?_extract,zAx (by lia),Nat.add_zero,y1] at df;exact (zAl df).symm
      show κ.kle (key κ z) (key κ v);rw [ez,<- y3,<- j3];exact PQ j j1 j2
     have FB:Hi.FirstB κ X Y:=fun z df v hv=>by
      obtain ⟨j,j1,j2,j3⟩:=Hi.take_key0 TT.kb df;obtain ⟨q,q1,q2,q3,_⟩:=item TT.kb (i:=0) (by lia);have e0:j=0:=by lia
      rw [e0,q3] at j3;have:=F0 v hv q q1;unfold leK at this ⊢;rw [<- j3];exact this
     have fin:∀ m st2,SG f6 st2->Rs κ X Y m->wpS (model prog w) A E s (do
       modify fun s'=>setArr s' (over (arrOf s') (sa+k) m.toList)
       let s' <- get
       pure (failedOf s').isNone) Q st2:=fun m st2 sg D=>by
      refine wpS_bind (wpS_modify (wpS_bind (wpS_get (wpS_pure ?_))))
      have ft:(failedOf (setArr st2 (over (arrOf st2) (sa+k) m.toList))).isNone=true:=by
       show (failedOf st2).isNone=true;rw [sg.fail,f1];rfl
      rw [ft];have am:arrOf st2=arrOf st:=sg.arr.trans a1
      have lm:m.toList.length=na - k+n:=by
       rw [D.pm.length_eq,zA2,zA9,zA9,zX,zY]
      have ol:(over (arrOf st) (sa+k) m.toList).toList=(arrOf st).toList.take (sa+k)++m.toList++(arrOf st).toList.drop (sa+na+n):=by
       rw [yV (by rw [lm,hsz];lia),lm,show sa+k+(na - k+n)=sa+na+n by lia]
      have A3:(over (arrOf st) (sa+k) m.toList).toList.Perm (arrOf st).toList:=by
       rw [ol]
       have e:(arrOf st).toList=(arrOf st).toList.take (sa+k)++(X.toList++Y.toList)++(arrOf st).toList.drop (sa+na+n):=by
        rw [lX,lY];have c1:=Hi.cut_drop (l:=(arrOf st).toList) (t:=sa+na) (n:=sa+na+n) (by lia) (by rw [fk];lia);have c2:=Hi.cut_drop (l:=(arrOf st).toList) (t:=sa+k) (n:=sa+na) (by lia) (by rw [fk];lia);rw [zAf,zAf,c1,c2,zBa]
       conv=>rhs;rw [e]
       exact List.Perm.append_right _ (List.Perm.append_left _ D.pm)
      have lP:(over (arrOf st) (sa+k) m.toList).Perm (arrOf st):=Array.perm_iff_toList_perm.mpr A3;have kO:KeysOf κ (over (arrOf st) (sa+k) m.toList):=keys_perm kA lP;have zO:(over (arrOf st) (sa+k) m.toList).size=ab.size:=lP.size_eq.trans hsz;have og:∀ j,(over (arrOf st) (sa+k) m.toList)[j]?=if sa+k+0<=j/\j < sa+k+0+m.toList.length then m.toList[j - (sa+k+0)]? else (arrOf st)[j]?:=(rW m.toList 0 (sa+k) (arrOf st) (by rw [lm,hsz];lia)).2;refine h _ ⟨⟨sg.kind.trans k1,by show failedOf st2=none;rw [sg.fail,f1],?_⟩,fun j hj=>?_,?_,?_⟩
      ·show (over (arrOf st2) (sa+k) m.toList).Perm ab;rw [am];exact lP.trans B.pm
      ·show (over (arrOf st2) (sa+k) m.toList)[j]?=_;rw [am,og j,zAw (by rw [lm];lia)]
      ·show Seg κ (over (arrOf st2) (sa+k) m.toList) sa (sa+na+nb);rw [am];refine yW kO (by rw [zO];exact hz) ?_
       have cut:((over (arrOf st) (sa+k) m.toList).toList.take (sa+na+nb)).drop sa=A1++(m.toList++B2):=by
        rw [ol,HU,HV];have tl:((arrOf st).toList.take (sa+k)).length=sa+k:=by rw [zAd,fk];lia
        rw [zAf,List.take_append,tl,List.take_of_length_le (l:=(arrOf st).toList.take (sa+k)) (by rw [tl];lia),List.take_append,lm,List.take_of_length_le (l:=m.toList) (by rw [lm];lia)];rw [List.drop_append_of_le_length (by rw [tl];lia)];congr 2;rw [List.drop_take];congr 1;lia
       rw [cut];refine List.pairwise_append.mpr ⟨PU,List.pairwise_append.mpr ⟨D.sr,PX,fun u hu v hv=>?_⟩,fun u hu v hv=>?_⟩
       ·rcases zA6.mp (D.pm.mem_iff.mp hu) with c | c
        ·obtain ⟨j,j1,j2,j3⟩:=MO u c;obtain ⟨j',AZ,A0,uu⟩:=MQ v hv;show κ.kle (key κ u) (key κ v);rw [<- j3,<- uu];exact KeyOrd.kle_trans (s1 j (sa+na - 1) (by lia) (by lia) (by lia)) (MM j' AZ A0)
        ·exact PY u c v hv
       ·obtain ⟨j,j1,j2,j3⟩:=PZ u hu;rcases zA6.mp hv with c | c
        ·rcases zA6.mp (D.pm.mem_iff.mp c) with c | c
         ·exact PV u hu v c
         ·obtain ⟨j',AZ,A0,uu⟩:=MP v c;show κ.kle (key κ u) (key κ v);rw [<- j3,<- uu];exact KeyOrd.kle_trans (HI j j1 j2) (s2 (sa+na) j' (zA3 _) AZ (by lia))
        ·obtain ⟨j',AZ,A0,uu⟩:=MQ v c;show κ.kle (key κ u) (key κ v);rw [<- j3,<- uu];exact KeyOrd.kle_trans (HI j j1 j2) (s2 (sa+na) j' (zA3 _) (by lia) A0)
      ·show pendingOf st2=P;rw [sg.pend,p1]
     by_cases hc:na - k<=n
     ·rw [zAx hc];exact wpS_bind (Ij hL TT LL (by lia) (by lia) F0 k1 fun m st2 sg D=>fin m st2 sg D)
     ·rw [zAw hc];exact wpS_bind (Hi.hi_wp hL TT LL FB (by lia) (by lia) k1 fun m st2 sg D=>fin m st2 sg D)
end
abbrev Run:=Nat×Nat×Nat
def Ch (κ:PyProof.Rows.KeyKind)(arr:Array Keyed):List Run->Nat->Nat->Prop
 | [],a,b=>a=b
 | r::l,a,b=>r.1=a/\1<=r.2.1/\Seg κ arr a (a+r.2.1)/\Ch κ arr l (a+r.2.1) b
theorem Ch.le {κ:PyProof.Rows.KeyKind}{arr:Array Keyed}:∀ {l:List Run} {a b:Nat},Ch κ arr l a b->a+l.length<=b
 | [],a,b,h=>by
  have h:a=b:=h;simp [h]
 | r::l,a,b,h=>by
  have:=Ch.le h.2.2.2;have:=h.2.1;rw [zAe];lia
theorem Ch.split {κ:PyProof.Rows.KeyKind}{arr:Array Keyed}:∀ {l1 l2:List Run} {a b:Nat},Ch κ arr (l1++l2) a b↔∃ m,Ch κ arr l1 a m/\Ch κ arr l2 m b
 | [],l2,a,b=>⟨fun h=>⟨a,rfl,h⟩,fun ⟨m,h1,h2⟩=>by
  have h1:a=m:=h1;rw [h1]
  exact h2⟩
 | r::l1,l2,a,b=>by
  constructor
  ·intro h;obtain ⟨m,h1,h2⟩:=Ch.split.mp h.2.2.2;exact ⟨m,⟨h.1,h.2.1,h.2.2.1,h1⟩,h2⟩
  ·rintro ⟨m,h1,h2⟩;exact ⟨h1.1,h1.2.1,h1.2.2.1,Ch.split.mpr ⟨m,h1.2.2.2,h2⟩⟩
theorem ut {κ:PyProof.Rows.KeyKind}{arr lS:Array Keyed}{a b:Nat}(h:Seg κ arr a b)(e:∀ k,a<=k->k < b->lS[k]?=arr[k]?):Seg κ lS a b:=fun i j h1 h2 h3=>by
 rw [KK_congr (e i h1 (by lia)),KK_congr (e j (by lia) h3)];exact h i j h1 h2 h3
theorem Ch.same {κ:PyProof.Rows.KeyKind}{arr lS:Array Keyed}:∀ {l:List Run} {a b:Nat},Ch κ arr l a b->(∀ k,a<=k->k < b->lS[k]?=arr[k]?)->Ch κ lS l a b
 | [],_,_,h,_=>h
 | r::l,a,b,h,e=>by
  have:=Ch.le h.2.2.2;exact ⟨h.1,h.2.1,ut h.2.2.1 fun k k1 k2=>e k k1 (by lia),h.2.2.2.same fun k k1 k2=>e k (by lia) k2⟩
theorem yX {p:Array Run}{i:Nat}{v:Run}(h:i+1 < p.size):((p.setIfInBounds i v).eraseIdxIfInBounds (i+1)).toList=p.toList.take i++v::p.toList.drop (i+2):=by
 have hl:p.toList.length=p.size:=zA9
 have e1:(p.setIfInBounds i v).eraseIdxIfInBounds (i+1)=(p.setIfInBounds i v).eraseIdx (i+1) (by rw [Array.size_setIfInBounds];exact h):=by
  rw [Array.eraseIdxIfInBounds,dif_pos (by rw [Array.size_setIfInBounds];exact h)]
 rw [e1,Array.toList_eraseIdx,Array.toList_setIfInBounds,List.eraseIdx_eq_take_drop_succ,List.take_set,List.drop_set,zAx (by lia)]
 have e2:p.toList.take (i+1)=p.toList.take i++[p.toList[i]'(by lia)]:=by
  rw [zAj,zA0 (by lia)];rfl
 rw [e2,List.set_append_right _ _ (by rw [zAd];lia)];rw [zAd,show i - min i p.toList.length=0 by lia];simp
section
variable {prog:Program}{w:World}{A:Around}{E:Value->Shared->Prop}{s:Shared}{κ:PyProof.Rows.KeyKind}{ks:SortKind}{ab:Array Keyed}
structure St (κ:PyProof.Rows.KeyKind)(ks:SortKind)(ab:Array Keyed)(st:SortSt)(lo:Nat):Prop where
 base:SB ks ab st
 ch:Ch κ (arrOf st) (pendingOf st).toList 0 lo
 le:lo<=ab.size
theorem uv (hL:LtAll prog w A E s κ ks)(h0:KeysOf κ ab){st:SortSt}{lo i:Nat}(S:St κ ks ab st lo)(hi:i+1 < (pendingOf st).size){Q:Bool->SortSt->Prop}
  (h:∀ st',St κ ks ab st' lo->(pendingOf st').size+1=(pendingOf st).size->(∀ k,lo<=k->(arrOf st')[k]?=(arrOf st)[k]?)->Q true st'):wpS (model prog w) A E s (mergeAt' i) Q st:=by
 have hl:(pendingOf st).toList.length=(pendingOf st).size:=zA9;have d1:(pendingOf st).toList.drop i=(pendingOf st).toList[i]'(by lia)::(pendingOf st).toList.drop (i+1):=List.drop_eq_getElem_cons (by lia);have d2:(pendingOf st).toList.drop (i+1)=(pendingOf st).toList[i+1]'(by lia)::(pendingOf st).toList.drop (i+2):=List.drop_eq_getElem_cons (by lia);have g1:(pendingOf st)[i]?=some ((pendingOf st).toList[i]'(by lia)):=by rw [<- Array.getElem?_toList,zA0 (by lia)]
 have g2:(pendingOf st)[i+1]?=some ((pendingOf st).toList[i+1]'(by lia)):=by rw [<- Array.getElem?_toList,zA0 (by lia)]
 obtain ⟨⟨sa,na,pw⟩,ep⟩:∃ r,r=(pendingOf st).toList[i]'(by lia):=⟨_,rfl⟩
 obtain ⟨⟨sb,nb,HE⟩,eq⟩:∃ r,r=(pendingOf st).toList[i+1]'(by lia):=⟨_,rfl⟩
 rw [<- ep] at d1 g1;rw [<- eq] at d2 g2;have c:=S.ch;rw [<- List.take_append_drop i (pendingOf st).toList,d1,d2] at c;obtain ⟨m,c1,c2⟩:=Ch.split.mp c;obtain ⟨q1,q2,q3,q4,q5,q6,q7⟩:=c2;dsimp only at q1 q2 q3 q4 q5 q6 q7;subst q1;subst q4;have lb:=Ch.le q7;have lm:=Ch.le c1;refine Ip hL h0 S.base g1 g2 q2 q5 (by have:=S.le;lia) q3 q6 fun st' M=>?_;have pl:(pendingOf st').toList=(pendingOf st).toList.take i++(sa,na+nb,pw)::(pendingOf st).toList.drop (i+2):=by rw [M.pend,yX hi]
 refine h st' ⟨M.base,?_,S.le⟩ ?_ fun k hk=>M.out k (.inr (by lia))
 ·rw [pl];refine Ch.split.mpr ⟨sa,c1.same fun k _ k2=>M.out k (.inl k2),rfl,by dsimp only;lia,?_,?_⟩
  ·dsimp only;rw [<- Nat.add_assoc];exact M.seg
  ·dsimp only;rw [<- Nat.add_assoc];exact q7.same fun k k1 _=>M.out k (.inr k1)
 ·rw [<- zA9,pl,zA2,zAe,zAd,List.length_drop];lia
def rest (z lo n:Nat):Sm (ForInStep (Option Unit×Nat)):=do
 let s <- get
 match (pendingOf s).back? with
 | some (s1,n1,_)=>do
  let c <- forIn [0:z] ((none,()):Option Unit×Unit) fun _ _=>do
    let s <- get
    match (if (pendingOf s).size > 1 then (pendingOf s)[(pendingOf s).size - 2]? else none) with
    | some (_,_,rq) =>
     if rq<=power' z (2 * s1+n1) (2 * s1+n1+n1+n) z then pure (ForInStep.done (none,()))
     else do
      let b <- mergeAt' ((pendingOf s).size - 2)
      if (!b)=true then pure (ForInStep.done (some (),())) else pure (ForInStep.yield (none,()))
    | _=>pure (ForInStep.done (none,()))
  match c.1 with
  | some r=>pure (ForInStep.done (some r,lo))
  | none=>do
   modify fun s=>setPending s ((pendingOf s).modify ((pendingOf s).size - 1) fun x=>(x.1,x.2.1,power' z (2 * s1+n1) (2 * s1+n1+n1+n) z))
   modify fun s=>setPending s ((pendingOf s).push (lo,n,0))
   pure (ForInStep.yield (none,lo+n))
 | _=>do
  modify fun s=>setPending s ((pendingOf s).push (lo,n,0))
  pure (ForInStep.yield (none,lo+n))
theorem Ch.pw {κ:PyProof.Rows.KeyKind}{arr:Array Keyed}(f:Run->Run)(hf:∀ r,(f r).1=r.1/\(f r).2.1=r.2.1):∀ {l:List Run} {a b i:Nat},Ch κ arr l a b->Ch κ arr (l.modify i f) a b
 | [],a,b,i,h=>by
  cases i <;> exact h
 | r::l,a,b,0,h=>by
  obtain ⟨e1,e2⟩:=hf r;refine ⟨e1.trans h.1,by rw [e2];exact h.2.1,by rw [e2];exact h.2.2.1,?_⟩;rw [e2];exact h.2.2.2
 | r::l,a,b,i+1,h=>⟨h.1,h.2.1,h.2.2.1,Ch.pw f hf h.2.2.2⟩
theorem St.push {st:SortSt}{lo n:Nat}(S:St κ ks ab st lo)(n1:1<=n)(hn:lo+n<=ab.size)(sg:Seg κ (arrOf st) lo (lo+n)):St κ ks ab (setPending st ((pendingOf st).push (lo,n,0))) (lo+n):=by
 refine ⟨⟨S.base.kind,S.base.ok,S.base.pm⟩,?_,hn⟩;show Ch κ (arrOf st) ((pendingOf st).push (lo,n,0)).toList 0 (lo+n);rw [Array.toList_push];exact Ch.split.mpr ⟨lo,S.ch,rfl,n1,sg,rfl⟩
theorem St.pw {st:SortSt}{lo i:Nat}(S:St κ ks ab st lo)(f:Run->Run)(hf:∀ r,(f r).1=r.1/\(f r).2.1=r.2.1):St κ ks ab (setPending st ((pendingOf st).modify i f)) lo:=by
 refine ⟨⟨S.base.kind,S.base.ok,S.base.pm⟩,?_,S.le⟩;show Ch κ (arrOf st) ((pendingOf st).modify i f).toList 0 lo;rw [Array.toList_modify];exact S.ch.pw f hf
theorem wY (hL:LtAll prog w A E s κ ks)(h0:KeysOf κ ab){st:SortSt}{lo n x:Nat}(S:St κ ks ab st lo)(n1:1<=n)(hn:lo+n<=ab.size)(sg:Seg κ (arrOf st) lo (lo+n))(hx:x<=lo){Q:ForInStep (Option Unit×Nat)->SortSt->Prop}
  (h:∀ st',St κ ks ab st' (lo+n)->Q (.yield (none,lo+n)) st'):wpS (model prog w) A E s (rest ab.size lo n) Q st:=by
 unfold rest;refine wpS_bind (wpS_get ?_)
 cases (pendingOf st).back? with
 | none=>exact wpS_bind (wpS_modify (wpS_pure (h _ (S.push n1 hn sg))))
 | some q =>
  obtain ⟨s1,HZ,p1⟩:=q;dsimp only;refine wpS_bind (wpS_mono (wpS_forRange (I:=fun _ c st'=>c=(none,())/\St κ ks ab st' lo/\Seg κ (arrOf st') lo (lo+n)) (Q:=fun c st'=>c=(none,())/\St κ ks ab st' lo/\Seg κ (arrOf st') lo (lo+n)) ?_ (fun _ _ z=>z) ⟨rfl,S,sg⟩) ?_)
  ·rintro y c st' _ _ ⟨rfl,S',f7⟩;refine wpS_bind (wpS_get ?_);by_cases h1:(pendingOf st').size > 1
   ·rw [zAx h1];have hl:(pendingOf st').size - 2 < (pendingOf st').size:=by lia
    rw [Array.getElem?_eq_getElem hl]
    obtain ⟨⟨a1,a2,rq⟩,eo⟩:∃ r,r=(pendingOf st')[(pendingOf st').size - 2]:=⟨_,rfl⟩
    rw [<- eo];dsimp only;split
    ·exact wpS_pure ⟨rfl,S',f7⟩
    ·refine wpS_bind (uv hL h0 S' (by lia) fun st2 S2 _ o2=>?_);rw [zAw (by decide)];exact wpS_pure ⟨rfl,S2,ut f7 fun k k1 _=>o2 k k1⟩
   ·rw [zAw h1];exact wpS_pure ⟨rfl,S',f7⟩
  ·rintro c st' ⟨rfl,S',f7⟩;dsimp only;refine wpS_bind (wpS_modify (wpS_bind (wpS_modify (wpS_pure (h _ ?_)))));exact (S'.pw (fun x=>(x.1,x.2.1,power' ab.size (2 * s1+HZ) (2 * s1+HZ+HZ+n) ab.size)) fun _=>⟨rfl,rfl⟩).push n1 hn f7
theorem ifl (c:Prop)[Decidable c](n:Nat):(if c then n - 1 else n)<=n:=by split <;> lia
theorem runs_wp (hL:LtAll prog w A E s κ ks)(h0:KeysOf κ ab){st:SortSt}(B:SB ks ab st)(hp:pendingOf st=#[]){Q:Unit->SortSt->Prop}
  (h:∀ st',SB ks ab st'->Seg κ (arrOf st') 0 ab.size->Q () st'):wpS (model prog w) A E s sortRuns' Q st:=by
 rw [sortRuns'_eq];refine wpS_bind (wpS_get ?_);dsimp only;rw [B.size];generalize minRun' ab.size ab.size 0=mr;refine wpS_bind (wpS_mono (wpS_forRange (I:=fun x c st'=>c.1=none/\St κ ks ab st' c.2/\x<=c.2) (Q:=fun c st'=>c.1=none/\St κ ks ab st' ab.size) ?_ ?_ ⟨rfl,⟨B,by rw [hp];rfl,zAp _⟩,zA3 _⟩) ?_)
 ·rintro x ⟨c0,lo⟩ st' _ hx ⟨rfl,S,cE⟩;dsimp only at S cE ⊢;by_cases uj:lo ≥ ab.size
  ·rw [zAx uj]
   have e:lo=ab.size:=by
    have:=S.le;lia
   refine wpS_pure ⟨rfl,?_⟩;rw [<- e];exact S
  ·rw [if_neg uj];refine wpS_bind (Bd hL h0 (by lia) (by lia) S.base fun n f6 B1 O1 n1 n2 MR=>?_);dsimp only
   have S1:St κ ks ab f6 lo:=⟨B1,by rw [O1.pend];exact S.ch.same fun k _ k2=>O1.out k (.inl k2),S.le⟩
   have tr:∀ {m m':Sm (ForInStep (Option Unit×Nat))} {R:ForInStep (Option Unit×Nat)->SortSt->Prop} {st2:SortSt},m=m'->wpS (model prog w) A E s m' R st2->wpS (model prog w) A E s m R st2:=fun e h=>e ▸ h;by_cases hm:n < mr
   ·rw [if_pos hm];refine wpS_bind (wpS_lift (wpAny_rule ⟨rfl,?_⟩));refine wpS_bind (Gw hL h0 (by lia) (by lia) B1 MR fun st2 B2 O2 ck=>?_);rw [if_neg (by decide)];refine tr ?_ (wY hL h0 ⟨B2,by rw [O2.pend];exact S1.ch.same fun k _ k2=>O2.out k (.inl k2),S.le⟩ (by lia) (by lia) ck cE fun iq S3=>⟨rfl,S3,by dsimp only;lia⟩)
    ·skip
     unfold rest;refine bc rfl (funext fun s=>?_)
     cases (pendingOf s).back? with
     | none=>rfl
     | some q =>
      obtain ⟨s1,n1,p⟩:=q;refine bc (fi (funext fun x=>funext fun c=>bc rfl (funext fun s=>?_))) (funext fun c=>?_)
      ·generalize (if (pendingOf s).size > 1 then (pendingOf s)[(pendingOf s).size - 2]? else none)=o
       cases o with
       | none=>rfl
       | some r =>
        obtain ⟨r1,r2,r3⟩:=r;exact ic rfl (bc rfl (funext fun b=>rfl))
      ·obtain ⟨r,u⟩:=c;cases r <;> rfl
   ·rw [if_neg hm];refine tr ?_ (wY hL h0 S1 n1 (by lia) MR cE fun iq S3=>⟨rfl,S3,by dsimp only;lia⟩)
    ·skip
     unfold rest;refine bc rfl (funext fun s=>?_)
     cases (pendingOf s).back? with
     | none=>rfl
     | some q =>
      obtain ⟨s1,n1,p⟩:=q;refine bc (fi (funext fun x=>funext fun c=>bc rfl (funext fun s=>?_))) (funext fun c=>?_)
      ·generalize (if (pendingOf s).size > 1 then (pendingOf s)[(pendingOf s).size - 2]? else none)=o
       cases o with
       | none=>rfl
       | some r =>
        obtain ⟨r1,r2,r3⟩:=r;exact ic rfl (bc rfl (funext fun b=>rfl))
      ·obtain ⟨r,u⟩:=c;cases r <;> rfl
 ·rintro ⟨c0,lo⟩ st' ⟨h1,S,h2⟩;dsimp only at h1 S h2 ⊢
  have e:lo=ab.size:=by
   have:=S.le;lia
  rw [<- e];exact ⟨h1,S⟩
 ·rintro ⟨c0,lo⟩ st' ⟨h1,S⟩;dsimp only at h1;subst h1;dsimp only
  have one:∀ {st':SortSt},St κ ks ab st' ab.size->(pendingOf st').size<=1->Seg κ (arrOf st') 0 ab.size:=fun {st'} S hs=>by
   have c:=S.ch;rw [<- zA9] at hs
   cases e:(pendingOf st').toList with
   | nil =>
    rw [e] at c;have c:0=ab.size:=c;intro i j _ _ h3;lia
   | cons r l =>
    rw [e] at c hs
    have l0:l=[]:=by
     cases l with
     | nil=>rfl
     | cons _ _=>rw [zAe,zAe] at hs;lia
    rw [l0] at c;obtain ⟨_,_,sg,c4⟩:=c;have c4:0+r.2.1=ab.size:=c4;rw [c4] at sg;exact sg
  have p0:(pendingOf st').size<=ab.size:=by
   have:=Ch.le S.ch;rw [zA9] at this;lia
  refine wpS_bind (wpS_mono (wpS_forRange (I:=fun x c st2=>c=(none,())/\St κ ks ab st2 ab.size/\(pendingOf st2).size+x<=ab.size) (Q:=fun c st2=>c=(none,())/\St κ ks ab st2 ab.size/\(pendingOf st2).size<=1) ?_ ?_ ⟨rfl,S,by lia⟩) ?_)
  ·rintro x c st2 _ hx ⟨rfl,S2,rl⟩;refine wpS_bind (wpS_get ?_);by_cases h1:(pendingOf st2).size<=1
   ·rw [zAx h1];exact wpS_pure ⟨rfl,S2,h1⟩
   ·rw [zAw h1];have hz:2<=(pendingOf st2).size:=by lia
    refine wpS_bind (uv hL h0 S2 (Nat.lt_of_le_of_lt (Nat.succ_le_succ (ifl _ _)) (show (pendingOf st2).size - 2+1 < (pendingOf st2).size by lia)) fun iq S3 z3 _=>?_);rw [zAw (by decide)];exact wpS_pure ⟨rfl,S3,by lia⟩
  ·rintro c st2 ⟨rfl,S2,rl⟩;exact ⟨rfl,S2,by lia⟩
  ·rintro c st2 ⟨rfl,S2,rl⟩;exact wpS_pure (h st2 S2.base (one S2 rl))
end
end Srt
namespace L2
open PySem PySem.Spec PyProof.Rows PySem.Calls
theorem rY:∀ a:List Int,HT.lexLt a a=false
 | []=>rfl
 | x::xs=>by
  rw [HT.lexLt_cons,zAx rfl];exact rY xs
theorem mO:∀ a b:List Int,HT.lexLt a b=false->HT.lexLt b a=false->a=b
 | [],[],_,_=>rfl
 | [],_::_,h,_=>by cases h
 | _::_,[],_,h=>by cases h
 | x::xs,y::ys,h1,h2=>by
  rw [HT.lexLt_cons] at h1 h2;by_cases e:x=y
  ·subst e;rw [zAx rfl] at h1 h2;rw [mO xs ys h1 h2]
  ·rw [zAw e] at h1;rw [zAw (Ne.symm e)] at h2;have h1:=of_decide_eq_false h1;have h2:=of_decide_eq_false h2;lia
theorem rZ:∀ a b c:List Int,HT.lexLt a b=true->HT.lexLt b c=true->HT.lexLt a c=true
 | [],[],_,h,_=>by cases h
 | [],_::_,[],_,h=>by cases h
 | [],_::_,_::_,_,_=>rfl
 | _::_,[],_,h,_=>by cases h
 | _::_,_::_,[],_,h=>by cases h
 | x::xs,y::ys,z::zs,h1,h2=>by
  rw [HT.lexLt_cons] at h1 h2 ⊢;by_cases e1:x=y
  ·subst e1;rw [zAx rfl] at h1;by_cases e2:x=z
   ·subst e2;rw [zAx rfl] at h2 ⊢;exact rZ xs ys zs h1 h2
   ·rw [zAw e2] at h2 ⊢;exact h2
  ·rw [zAw e1] at h1;have h1:=zB5 h1;by_cases e2:y=z
   ·subst e2;rw [zAw e1];exact zAt h1
   ·rw [zAw e2] at h2;have h2:=zB5 h2;rw [zAw (by lia)];exact zAt (by lia)
theorem wZ (a b c:List Int)(h:HT.lexLt a c=true):HT.lexLt a b=true\/HT.lexLt b c=true:=by
 cases e1:HT.lexLt a b with
 | true=>exact .inl rfl
 | false =>
  cases e2:HT.lexLt b a with
  | true=>exact .inr (rZ b a c e2 h)
  | false=>exact .inr (by rw [<- mO a b e1 e2];exact h)
def Eg (ads:List Addr)(row:Addr->List Int):PyProof.Rows.KeyKind where
 α:=List Int
 blt:=HT.lexLt
 irrefl:=rY
 trans:=rZ
 negTrans:=wZ
 total:=mO
 keyOf:=fun u=>match u with
  | .ref a=>if ads.contains a=true then some (row a) else none
  | _=>none
 dflt:=[]
section
open PySem.W
variable {prog:Program}{w:World}{A:Around}{E:Value->Shared->Prop}{s:Shared}
theorem Bg {Q:Bool->Shared->Prop}:∀ {ns ms:List Int} {us vs:List Value} {i:Nat},Vals (ns.map V.int) us->Vals (ms.map V.int) vs->Q (HT.lexLt ns ms) s->KatLex prog w A true (decide (ns.length < ms.length)) Q (us.zip vs) i s
 | [],[],_,_,_,.nil,.nil,h=>h
 | [],_::_,_,_,_,.nil,.cons _ _,h=>by
  refine kat_nil ?_;rw [decide_eq_true (by simp)];exact h
 | _::_,[],_,_,_,.cons _ _,.nil,h=>by
  refine kat_nil ?_;rw [decide_eq_false (by simp)];exact h
 | x::ns,y::ms,_,_,i,.cons r1 t1,.cons r2 t2,h=>by
  obtain ⟨k1,rfl⟩:=r1;obtain ⟨k2,rfl⟩:=r2;rw [HT.lexLt_cons] at h;refine kat_cons (wpAny_eqBool_int ?_);by_cases e:x=y
  ·subst e;rw [zAx rfl] at h;rw [show (x == x)=true from beq_self_eq_true x];refine kat_yes ?_;have:=Bg (i:=i+1) t1 t2 h;rw [show decide ((x::ns).length < (x::ms).length)=decide (ns.length < ms.length) by rw [zAe,zAe];exact decide_eq_decide.mpr (by lia)];exact this
  ·rw [zAw e] at h;rw [show (x == y)=false from beq_false_of_ne e];refine kat_no ?_
   cases hi:(true && i == 0) with
   | true=>exact oneLt_int h
   | false=>exact kat_one _ _ (lt_int h)
theorem Eh {x y:Addr}{ox oy:Obj}{nx ny:Nat}{ns ms:List Int}{us vs:List Value}{Q:Bool->Shared->Prop}(hx:s.heap.get? x=some ox)(dx:ox.data=.seq us.toArray nx)(hy:s.heap.get? y=some oy)(dy:oy.data=.seq vs.toArray ny)
  (r1:Vals (ns.map V.int) us) (r2:Vals (ms.map V.int) vs) (h:Q (HT.lexLt ns ms) s):wpAny (model prog w) A (keyLt' (tuples' true) (.ref x) (.ref y)) Q E s:=by
 refine kat_lt hx dx hy dy ?_;have l1:=r1.length;have l2:=r2.length;rw [zA1] at l1 l2;have:=Bg (prog:=prog) (w:=w) (A:=A) (s:=s) (Q:=Q) (i:=0) r1 r2 h;rw [zA8,zA8,<- l1,<- l2];exact this
theorem Ei {l:Addr}{vs:List Value}{Q:Value->Shared->Prop}{R:List Value->Prop}(lst:s.heap.IsList l vs.toArray)(fits:vs.length<=sizeLine)(small:vs.length < 2->R vs)
  (big:2<=vs.length->∀ g,(∀ b o,s.heap.get? b=some o->g.get? b=some o)->wpAny (model prog w) A.in1.in1 (keyKind' vs.toArray) (fun κ s1=>s1={ s with heap:=g } /\
    wpS (model prog w) A.in1.in1 (fun _ _=>False) { s with heap:=g } sortRuns' (fun _ st=>failedOf st=none/\∃ out,(arrOf st).map (·.2)=List.toArray out/\R out) (SortSt.mk' κ (vs.toArray.zip vs.toArray) #[] 7 none)) (fun _ _=>False) { s with heap:=g })
  (len:∀ out,R out->out.length=vs.length)
  (fin:∀ out,R out->∀ h2 c,(∀ b o,s.heap.get? b=some o->h2.get? b=some o)->h2.get? (s.heap.objs.size+1)=some (seqObj "list" out.toArray c)->Q (.ref (s.heap.objs.size+1)) { s with heap:=h2 }) :
  wpAny (model prog w) A (call (.builtin "sorted") [.ref l]) Q E s:=by
 refine call_function_entry kind_sorted plain_sorted entry_sorted (args_sorted1 _) ?_;unfold Builtin.«sorted»;refine zAv (m:=checkCount "sorted" 1 1 _) (zB1 (zAv (collect_list lst ?_ fits)));refine zAv (wpAny_newList ?_ fits);have lT:((s.heap.push (seqObj "list" #[] 0)).update s.heap.objs.size (Obj.mapSeq (·++vs.toArray))).objs.size=s.heap.objs.size+1:=by rw [Heap.size_update,Heap.size_push]
 obtain ⟨g1,ot⟩:∃ g1,g1=((s.heap.push (seqObj "list" #[] 0)).update s.heap.objs.size (Obj.mapSeq (·++vs.toArray))).push (seqObj "list" vs.toArray 0):=⟨_,rfl⟩
 have nc:g1.get? (s.heap.objs.size+1)=some (seqObj "list" vs.toArray 0):=by rw [ot,<- lT];exact zB2 _ rfl
 have Ic:∀ b o,s.heap.get? b=some o->g1.get? b=some o:=fun b o q=>by
  have lt:b < s.heap.objs.size:=zB0 q;rw [ot,Heap.get?_push_ne _ _ _ (by rw [lT];exact zB6 (Nat.lt_succ_of_lt lt)),Heap.get?_update_ne _ _ _ _ (zB6 lt),Heap.get?_push_ne _ _ _ (zB6 lt)];exact q
 show wpAny _ _ _ _ _ { s with heap:=_ };rw [lT,show ((s.heap.push (seqObj "list" #[] 0)).update s.heap.objs.size (Obj.mapSeq (·++vs.toArray))).push (seqObj "list" vs.toArray 0)=g1 from ot.symm];refine zAv (wpAny_holding (wpAny_call_entry slot_list_sort ⟨_,nc,rfl⟩ entry_list_sort ?body (args_list_sort _)))
 obtain ⟨D,eD⟩:∃ D,D=s.heap.objs.size+1:=⟨_,rfl⟩
 rw [<- eD] at nc fin ⊢
 have apart:∀ b o,s.heap.get? b=some o->b≠D:=fun b o q e=>by
  have lt:b < s.heap.objs.size:=zB0 q;rw [e,eD] at lt;exact absurd lt (Nat.not_lt_of_le (Nat.le_succ _))
 obtain ⟨g2,uS⟩:∃ g2,g2=g1.update D (Obj.mapSeq fun _=>(#[]:Array Value)):=⟨_,rfl⟩
 have Iq:Heap.SameBut D g1 g2:=uS ▸ Heap.SameBut.update g1 D _
 obtain ⟨e1,at2⟩:∃ e1,g2.get? D=some (seqObj "list" #[] e1):=⟨_,uS ▸ get?_update_seq nc fun _=>#[]⟩
 obtain ⟨g3,u7⟩:∃ g3,g3=(g2.push (seqObj "tuple" vs.toArray 0)).push (seqObj "list" #[] 0):=⟨_,rfl⟩
 have ki:g3.get? D=some (seqObj "list" #[] e1):=u7 ▸ Heap.get?_push_of_some _ (Heap.get?_push_of_some _ at2);have va:∀ b o,s.heap.get? b=some o->g3.get? b=some o:=fun b o q=>u7 ▸ Heap.get?_push_of_some _ (Heap.get?_push_of_some _ ((Iq.2 b (apart b o q)).trans (Ic b o q)));rw [list_sort_plain];refine wpAny_bind (listItems_at nc rfl (wpAny_bind (listUpdate_at nc rfl ?_ (by rw [zA8];exact fits) (zAp _))));rw [<- uS];refine wpAny_bind (seqEpoch_at at2 rfl (wpAny_bind (wpAny_newTuple (wpAny_bind (wpAny_newList (wpAny_holding ?_) (zAp _))) fits)));show wpAny (model prog w) A.in1.in1 _ _ _ { s with heap:=(g2.push (seqObj "tuple" vs.toArray 0)).push (seqObj "list" #[] 0) };rw [<- u7];dsimp only;by_cases two:vs.toArray.size < 2
 ·have hU:vs.length < 2:=by rw [zA8] at two;exact two
  rw [if_pos two,if_pos two];refine wpAny_bind (wpAny_pure ?_);show wpAny _ _ (do let r <- (pure ((),SortSt.mk' general' (vs.toArray.zip vs.toArray) #[] 7 none):Sem (Unit×SortSt));_) _ _ _;refine wpAny_bind (wpAny_pure ?_);dsimp only
  have em:(vs.toArray.zip vs.toArray).map (·.2)=vs.toArray:=by
   apply Array.toList_inj.mp;simp only [Array.toList_map,Array.toList_zip];exact List.map_snd_zip (zA3 _)
  rw [em];refine wpAny_bind (seqEpoch_at ki rfl (wpAny_bind (listUpdate_at ki rfl ?_ (zAp _) (by rw [zA8];lia))));simp only [bne_self_eq_false,Bool.false_eq_true,if_false];have vb:=Heap.SameBut.update g3 D (Obj.mapSeq fun _=>vs.toArray);exact wpAny_pure ⟨_,rfl,wpAny_pure ⟨_,rfl,fin vs (small hU) _ _ (fun b o z=>(vb.2 b (apart b o z)).trans (va b o z)) (get?_update_seq ki _)⟩⟩
 ·have hU:2<=vs.length:=by rw [zA8] at two;lia
  rw [if_neg two,if_neg two];refine wpAny_bind (wpAny_mono (big hU g3 va) (fun κ s1 ⟨kg,run⟩=>?_) fun _ _ x=>x.elim);subst kg;refine wpAny_bind (wpAny_mono run ?_ fun _ _ x=>x.elim);rintro ⟨⟨⟩,st⟩ s2 ⟨Iy,A4,out,l7,hR⟩;subst Iy;dsimp only at A4 l7 ⊢;rw [l7];refine wpAny_bind (seqEpoch_at ki rfl (wpAny_bind (listUpdate_at ki rfl ?_ (zAp _) (by rw [zA8,len out hR];lia))));rw [A4];simp only [bne_self_eq_false,Bool.false_eq_true,if_false];have vb:=Heap.SameBut.update g3 D (Obj.mapSeq fun _=>out.toArray);exact wpAny_pure ⟨_,rfl,wpAny_pure ⟨_,rfl,fin out hR _ _ (fun b o z=>(vb.2 b (apart b o z)).trans (va b o z)) (get?_update_seq ki _)⟩⟩
theorem oE {g:Heap}{ads:List Addr}{row:Addr->List Int}:∀ {l:List Addr},(∀ a∈l,∃ (us:List Value) (o:Obj) (n:Nat),g.get? a=some o/\o.cls=.type "tuple" /\ o.data=.seq us.toArray n/\Vals ((row a).map V.int) us/\row a≠[])->∃ fs,KatTups g (l.map Value.ref) fs/\fs.length=l.length/\∀ v∈fs,∃ i t,v=.int i t
 | [],_=>⟨[],.nil,rfl,fun _ h=>absurd h (by simp)⟩
 | a::l,h=>by
  obtain ⟨us,o,n,h1,h2,h3,h4,h5⟩:=h a (.head _);obtain ⟨fs,k,hl,hi⟩:=oE (ads:=ads) (row:=row) (l:=l) fun b hb=>h b (.tail _ hb)
  cases er:row a with
  | nil=>exact absurd er h5
  | cons i r =>
   rw [er] at h4
   cases h4 with
   | cons r1 t1 =>
    obtain ⟨t,rfl⟩:=r1;refine ⟨_,.cons h1 h2 h3 (f:=.int i t) (by simp) k,by rw [List.length_cons,List.length_cons,hl],fun v hv=>?_⟩;rcases zAo.mp hv with z | z
    ·exact ⟨i,t,z⟩
    ·exact hi v z
theorem xj {l:List Addr}{row:Addr->List Int}{Q:SortKind->Shared->Prop}(obj:∀ a∈l,∃ (us:List Value) (o:Obj) (n:Nat),s.heap.get? a=some o/\o.cls=.type "tuple" /\ o.data=.seq us.toArray n/\Vals ((row a).map V.int) us/\row a≠[])(hl:0 < l.length)(h:Q (tuples' true) s) :
  wpAny (model prog w) A (keyKind' (l.map Value.ref).toArray) Q E s:=by
 obtain ⟨fs,kt,fl,fi⟩:=oE (ads:=l) (row:=row) obj;refine PySem.W.kat_kind (T:=.type "int") kt (by rw [fl];exact hl) (fun v hv=>?_) (by decide) h;obtain ⟨i,t,rfl⟩:=fi v hv;exact .now
theorem vB {l:List Addr}{row:Addr->List Int}(obj:∀ a∈l,∃ (us:List Value) (o:Obj) (n:Nat),s.heap.get? a=some o/\o.cls=.type "tuple" /\ o.data=.seq us.toArray n/\Vals ((row a).map V.int) us/\row a≠[]) :
  Srt.LtAll prog w A E s (Eg l row) (tuples' true):=fun st hk x y a b Q' ka kb hQ=>by
 obtain ⟨x1,x2⟩:=x;obtain ⟨y1,y2⟩:=y
 cases x1 with
 | ref xa =>
  cases y1 with
  | ref ya =>
   have ka:(if l.contains xa=true then some (row xa) else none)=some a:=ka;have kb:(if l.contains ya=true then some (row ya) else none)=some b:=kb;by_cases c1:l.contains xa=true
   ·rw [zAx c1] at ka;by_cases c2:l.contains ya=true
    ·rw [if_pos c2] at kb;cases ka;cases kb;obtain ⟨V7,o1,n1,g1,_,d1,r1,_⟩:=obj xa (by simpa using c1);obtain ⟨V8,o2,n2,g2,_,d2,r2,_⟩:=obj ya (by simpa using c2);rw [lt'_eq];refine wpS_bind (wpS_get ?_);rw [hk];refine wpS_bind (wpS_lift (wpAny_attempt (Eh g1 d1 g2 d2 r1 r2 ⟨rfl,?_⟩)));exact wpS_pure hQ
    ·rw [zAw c2] at kb;cases kb
   ·rw [zAw c1] at ka;cases ka
  | _=>cases kb
 | _=>cases ka
theorem uw (l:List Addr):((l.map Value.ref).toArray.zip (l.map Value.ref).toArray).toList=l.map fun a=>(Value.ref a,Value.ref a):=by
 rw [Array.toList_zip];show (l.map Value.ref).zip (l.map Value.ref)=_;rw [List.zip_map']
theorem qC (l:List Addr)(row:Addr->List Int):KeysOf (Eg l row) ((l.map Value.ref).toArray.zip (l.map Value.ref).toArray):=fun z df=>by
 rw [uw] at df;obtain ⟨a,ha,rfl⟩:=zA5.mp df;refine ⟨row a,?_⟩;show (if l.contains a=true then some (row a) else none)=some (row a);rw [if_pos (by simpa using ha)]
def Bh (p:Keyed):Addr:=match p.1 with
 | .ref a=>a
 | _=>0
theorem uz {l:List Addr}{row:Addr->List Int}{a:Addr}(h:a∈l):Srt.key (Eg l row) (Value.ref a,Value.ref a)=row a:=by
 show (if l.contains a=true then some (row a) else none).getD []=row a;rw [if_pos (by simpa using h)];rfl
theorem qD {l:List Addr}{row:Addr->List Int}(obj:∀ a∈l,∃ (us:List Value) (o:Obj) (n:Nat),s.heap.get? a=some o/\o.cls=.type "tuple" /\ o.data=.seq us.toArray n/\Vals ((row a).map V.int) us/\row a≠[]){Q:Unit->SortSt->Prop}
  (h:∀ st (l':List Addr),failedOf st=none->(arrOf st).map (·.2)=List.toArray (l'.map Value.ref)->l'.Perm l->l'.Pairwise (fun a b=>HT.lexLt (row b) (row a)=false)->Q () st) :
  wpS (model prog w) A E s sortRuns' Q (SortSt.mk' (tuples' true) ((l.map Value.ref).toArray.zip (l.map Value.ref).toArray) #[] 7 none):=by
 refine Srt.runs_wp (κ:=Eg l row) (ks:=tuples' true) (vB obj) (qC l row) ⟨rfl,rfl,.refl _⟩ rfl fun st' B sg=>?_;have yi:=Array.perm_iff_toList_perm.mp B.pm;rw [uw] at yi
 have e:(arrOf st').toList=((arrOf st').toList.map Bh).map (fun a=>(Value.ref a,Value.ref a)):=by
  rw [zAr]
  conv=>lhs;rw [<- List.map_id (arrOf st').toList]
  refine List.map_congr_left fun z df=>?_;obtain ⟨a,ha,rfl⟩:=zA5.mp (yi.mem_iff.mp df);rfl
 have pm:((arrOf st').toList.map Bh).Perm l:=by
  have:=yi.map Bh;rw [zAr] at this;rw [show (Bh ∘ fun a=>(Value.ref a,Value.ref a))=id from rfl,List.map_id] at this;exact this
 generalize (arrOf st').toList.map Bh=l' at e pm;refine h st' l' B.ok ?_ pm ?_
 ·apply Array.toList_inj.mp;rw [Array.toList_map,e,zAr];rfl
 ·have ka:=Srt.keys_perm (qC l row) B.pm;have:=Srt.pw_of_seg ka (by rw [B.size];exact zA3 _) sg;rw [List.drop_zero,<- B.size,<- zA9,zAm,e,List.pairwise_map] at this;refine this.imp_of_mem fun {a b} ha hb hle=>?_;unfold Srt.leK at hle;rw [uz (pm.mem_iff.mp ha),uz (pm.mem_iff.mp hb)] at hle;exact hle
end
section
variable {X:Cx}
theorem qF:∀ {l:List Addr} {us:List Value},Vals (l.map V.ref) us->us=l.map Value.ref
 | [],_,.nil=>rfl
 | a::l,_,.cons r t=>by
  rw [qF t,show _=Value.ref a from r];rfl
theorem su:∀ (l:List Addr),Vals (l.map V.ref) (l.map Value.ref)
 | []=>.nil
 | _::l=>.cons rfl (su l)
theorem uA {α:Type}{R:α->α->Prop}:∀ {l:List α},l.length < 2->l.Pairwise R
 | [],_=>.nil
 | [_],_=>List.pairwise_singleton _ _
 | _::_::_,h=>absurd h (by simp)
theorem dB:dJ X (.builtin "sorted") (fun xs H Q=>∃ (p:Addr) (l:List Addr) (row:Addr->List Int),xs=[.ref p]/\SqL X.K H p (l.map V.ref)/\(∀ a∈l,SqT X.K H a ((row a).map V.int)/\row a≠[]) /\
  ∀ (q:Addr) (l':List Addr),H q=none->q≠sysModules->l'.Perm l->l'.Pairwise (fun a b=>HT.lexLt (row b) (row a)=false)->Q (.ref q) (upd H q (.lst (l'.map V.ref)))):=by
 intro pins s σ H xs us Q I r h;obtain ⟨p,l,row,rfl,hp,vc,q⟩:=h;obtain ⟨u,rfl,ru⟩:=vals1 r;cases ru;obtain ⟨its,rv,pl,hz⟩:=I.list hp;have ei:=qF rv;subst ei
 have hlen:(l.map Value.ref).length<=sizeLine:=by
  rw [zA1] at hz ⊢;exact hz
 have obj:∀ a∈l,∃ (us:List Value) (o:Obj) (n:Nat),s.heap.get? a=some o/\o.cls=.type "tuple" /\ o.data=.seq us.toArray n/\Vals ((row a).map V.int) us/\row a≠[]:=fun a ha=>by
  obtain ⟨ht,fA⟩:=vc a ha;obtain ⟨as,ra,pa,_⟩:=I.tuple ht;obtain ⟨oa,ga,ca,na,da⟩:=pa;exact ⟨as,oa,na,ga,ca,da,ra,fA⟩
 refine Ei (R:=fun out=>∃ l':List Addr,out=l'.map Value.ref/\l'.Perm l/\l'.Pairwise fun a b=>HT.lexLt (row b) (row a)=false) pl.isList hlen (fun hs=>⟨l,rfl,.refl _,?_⟩) (fun hb g kp=>?_) (fun out ⟨l',e,pm,_⟩=>by rw [e,zA1,zA1,pm.length_eq]) fun out ⟨l',e,pm,pw⟩ h2 c kp2 at2=>?_
 ·rw [zA1] at hs;exact uA hs
 ·have l9:∀ a∈l,∃ (us:List Value) (o:Obj) (n:Nat),g.get? a=some o/\o.cls=.type "tuple" /\ o.data=.seq us.toArray n/\Vals ((row a).map V.int) us/\row a≠[]:=fun a ha=>by
   obtain ⟨us,o,n,h1,h2⟩:=obj a ha;exact ⟨us,o,n,kp _ _ h1,h2⟩
  refine xj (s:={ s with heap:=g }) l9 (by rw [zA1] at hb;lia) ?_;refine ⟨rfl,qD (s:={ s with heap:=g }) l9 fun st l' e1 e2 e3 e4=>⟨e1,l'.map Value.ref,e2,l',rfl,e3,e4⟩⟩
 ·subst e;exact ⟨.ref (s.heap.objs.size+1),_,I.laid (t':=s.toks) kp2 (Nat.le_succ _) (show ObjOk X.prog X.w _ h2 _ (.lst (l'.map V.ref)) from ⟨by rw [zA1,pm.length_eq];rw [zA1] at hz;exact hz,_,c,su l',at2⟩),rfl,q _ l' (I.hok.fresh (Nat.le_succ _)) (Nat.ne_of_gt (zB4 I.big (Nat.le_succ _))) pm pw⟩
theorem sy:dJ X (.builtin "sorted") (fun xs H Q=>∃ (p:Addr) (l:List Addr) (row:Addr->List Int),xs=[.ref p]/\SqL X.K H p (l.map V.ref)/\(∀ a∈l,SqT X.K H a ((row a).map V.int)/\row a≠[]) /\
  ∀ (q:Addr) (l':List Addr),H q=none->l'.Perm l->l'.Pairwise (fun a b=>HT.lexLt (row b) (row a)=false)->Q (.ref q) (upd H q (.lst (l'.map V.ref)))):=by
 intro pins s σ H xs us Q I r h;obtain ⟨p,l,row,e,hp,vc,q⟩:=h;exact dB pins s σ H xs us Q I r ⟨p,l,row,e,hp,vc,fun q' l' a _ b c=>q q' l' a b c⟩
end
section
variable {X:Cx}
theorem pN (hc:X.calm=true):dJ X (.builtin "max") (fun xs H Q=>∃ (p:Addr) (ns:List Int),xs=[.ref p]/\SqL X.K H p (ns.map V.int)/\ns≠[]/\∀ M,M∈ns->(∀ a∈ns,a<=M)->Q (.int M) H):=by
 intro pins s σ H xs us Q I r h;obtain ⟨p,ns,rfl,hq,fA,q⟩:=h;obtain ⟨u,rfl,ru⟩:=vals1 r;cases ru;obtain ⟨its,rv,pl,hz⟩:=I.list hq;have hi:IntsAre its ns:=intsAre_of rv;obtain ⟨zs,ez⟩:=(hi.allInts:AllInts its.toArray).items;have en:numsOf its=ns:=hi.numsOf;have hl:s.heap.IsList p (intItems zs):=ez ▸ pl.isList
 have aE:0 < zs.size:=by
  have e1:(intItems zs).size=its.length:=by rw [<- ez,zA8]
  have e2:=rv.length;rw [zA1] at e2;have e3:0 < ns.length:=List.length_pos_iff.mpr fA;simp only [intItems,Array.size_map] at e1;lia
 have hn:numsOf (intItems zs).toList=ns:=by rw [<- ez];exact en
 refine max_intList (I.ok.hd hc) hl aE fun v h' tk hv hk=>?_;obtain ⟨t,rfl⟩:=intItems_at hv;obtain ⟨h1,h2⟩:=argBest_gt (numAt zs) (zs.size - 1);rw [nums_intItems] at hn;refine ⟨.int _,H,I.kept (t':=tk) hk,⟨t,rfl⟩,q _ ?_ fun a ha=>?_⟩
 ·rw [<- hn,numAt_eq];exact getD_mem (by rw [zA1,zA9];lia)
 ·rw [<- hn] at ha;obtain ⟨j,hj,rfl⟩:=mem_getD ha;rw [zA1,zA9] at hj;rw [<- numAt_eq];exact h2 j (by lia)
def isK (k:Int):Value->Bool
 | .int n _=>n == k
 | _=>false
theorem mQ:∀ {ns:List Int} {us:List Value} {i:Nat} {u:Value},Vals (ns.map V.int) us->us[i]?=some u->∃ n t,ns[i]?=some n/\u=.int n t
 | [],_,i,u,.nil,h=>by simp at h
 | n::ns,_,0,u,.cons r t,h=>by
  obtain ⟨k,rfl⟩:=r;simp at h;exact ⟨n,k,rfl,h.symm⟩
 | n::ns,_,i+1,u,.cons r t,h=>mQ (i:=i) t (by simpa using h)
inductive RIndexI (x:V)(vs:List V)(H:Hp)(Q:VK):Prop
 | mk:∀ (l:Addr) (ns:List Int) (k:Int) (j:Nat),(x=.ref l)->(vs=[.int k])->(H l=some (.lst (ns.map V.int)))->(ns[j]?=some k)->((∀ i,i < j->ns[i]?≠some k))->(Q (.int j) H)->RIndexI  x vs H Q
def Gx:V->List V->Hp->VK->Prop:=fun x vs H Q=>RIndexI  x vs H Q
theorem Bj:MtM X "list.index" Gx:=by
 intro pins s σ H x vs v us Q I rx rv h;obtain ⟨l,ns,k,j,rfl,rfl,hH,hj,FR,q⟩:=h;cases rx;obtain ⟨u,rfl,t,rfl⟩:=vals1 rv;obtain ⟨z,its,n,r,hl,e⟩:=I.lstM hH;have hlen:=r.length;rw [zA1] at hlen
 have IA:j < its.length:=by
  have:=(zAa.mp hj).1;lia
 have hz:its.length<=sizeLine:=by
  rw [zA1] at z;lia
 rw [sizeLine_eq] at hz;refine call_meets F.slot_list_index ⟨_,e,rfl⟩ F.entry_list_index (F.args_list_index_2 _ _) (MeetsSeq.list_index l its.toArray n (.int k t) (isK k) (fun y hy=>?_) j (by rw [zA8];exact IA) (by lia) ?_ fun m hm ax=>?_) ⟨e,?_⟩
 ·obtain ⟨i,hi,rfl⟩:=Array.getElem_of_mem hy;obtain ⟨n',t',e1,e2⟩:=mQ r (i:=i) (u:=its.toArray[i]) (by rw [List.size_toArray] at hi;simp [hi]);rw [e2];exact MeetsSeq.EqGives.int n' k t' t
 ·obtain ⟨n',t',e1,e2⟩:=mQ r (i:=j) (u:=its.toArray[j]'(by rw [List.size_toArray];exact IA)) (by simp [IA]);rw [e2];rw [hj] at e1;cases e1;exact beq_self_eq_true k
 ·obtain ⟨n',t',e1,e2⟩:=mQ r (i:=m) (u:=its.toArray[m]) (by rw [List.size_toArray] at hm;simp [hm]);rw [e2];refine beq_false_of_ne fun c=>FR m ax ?_;rw [e1,c]
 ·exact ⟨.int j,H,I.tok _,⟨_,rfl⟩,q⟩
end
end L2
namespace L2.ZL
open PySem PySem.Spec PyProof.Rows
def Itz (K:Frag)(a b:Addr):It :=
 ⟨fun i H=>∃ xs ys x y,SqL K H a xs/\SqL K H b ys/\xs[i]?=some x/\ys[i]?=some y,
  fun i H v H'=>∃ T,H T=none/\v=.ref T/\∀ xs ys,SqL K H a xs->SqL K H b ys->∃ x y,xs[i]?=some x/\ys[i]?=some y/\H'=upd H T (.tup [x,y]),
  fun i H=>∃ xs ys,SqL K H a xs/\SqL K H b ys/\(xs.length<=i\/ys.length<=i)⟩
def tnz (z TI TO i1 i2 a b:Addr)(i:Nat)(h:Heap):Prop:=IsZip h z TI TO .none/\IsPair h TI (.ref i1) (.ref i2)/\(∃ u v,IsPair h TO u v)/\h.IsListIter i1 a i/\h.IsListIter i2 b i
theorem oF {P:Program}{w:World}{K:Frag}{es:List Expr}{k:Nat}{pos:Pos}{z TI TO i1 i2 a b:Addr}(D:ZipApart z TI TO i1 i2 a b) :
  Turn P w K (.Tuple es k pos) (Itz K a b) [z,TI,TO,i1,i2] z (tnz z TI TO i1 i2 a b) where
 mem:=by simp
 obj:=fun i h st c hc=>by
  obtain ⟨s1,s2,⟨u,v,s3⟩,⟨o4,s4,c4,d4⟩,⟨o5,s5,c5,d5⟩⟩:=st;simp only [List.mem_cons,List.not_mem_nil,or_false] at hc;rcases hc with e | e | e | e | e <;> subst e
  ·exact ⟨_,s1,fun v q=>by cases q⟩
  ·exact ⟨_,s2,fun v q=>by cases q⟩
  ·exact ⟨_,s3,fun v q=>by cases q⟩
  ·exact ⟨_,s4,fun v q=>by rw [d4] at q;cases q⟩
  ·exact ⟨_,s5,fun v q=>by rw [d5] at q;cases q⟩
 keep:=fun i h h' st kp=>by
  obtain ⟨s1,s2,⟨u,v,s3⟩,s4,s5⟩:=st;exact ⟨kp z (by simp) _ s1,kp TI (by simp) _ s2,⟨u,v,kp TO (by simp) _ s3⟩,s4.at fun o e=>kp i1 (by simp) o e,s5.at fun o e=>kp i2 (by simp) o e⟩
 item:=by
  intro X hP hw hK hc i pins s σ H E I hf st hg;subst hP hw hK;obtain ⟨s1,s2,⟨u,v,s3⟩,s4,s5⟩:=st;obtain ⟨xs,ys,x,y,fE,oz,hx,hy⟩:=hg;obtain ⟨its,rv,p,_⟩:=I.list fE;obtain ⟨ve,fq,q,_⟩:=I.list oz;obtain ⟨ux,om,rx⟩:=rv.get hx;obtain ⟨uy,IB,ry⟩:=fq.get hy;refine wpAny_pyNext_zip_item D s1 s2 s3 s4 s5 p.isList q.isList (x:=ux) (y:=uy) (by simpa using om) (by simpa using IB) fun h1 g1 g2 g3 g4 g5 g6 kp=>?_;refine ⟨_,rfl,?_⟩;refine wpAny_letOwnedTupleGo_zip g1 fun h2 e1 sb=>?_
  have ne:∀ c,c∈[z,TI,TO,i1,i2]->c≠s.heap.objs.size:=fun c ah e=>by
   obtain ⟨f0,f1,f2,f3,f4,f5⟩:=hf c ah
   have:∃ o,s.heap.get? c=some o:=by
    simp only [List.mem_cons,List.not_mem_nil,or_false] at ah;rcases ah with q | q | q | q | q <;> subst q
    ·exact ⟨_,s1⟩
    ·exact ⟨_,s2⟩
    ·exact ⟨_,s3⟩
    ·exact let ⟨o,h,_⟩:=s4;⟨o,h⟩
    ·exact let ⟨o,h,_⟩:=s5;⟨o,h⟩
   obtain ⟨o,ho⟩:=this;exact absurd (zB0 ho) (by rw [e];exact Nat.lt_irrefl _)
  have hT:H s.heap.objs.size=none:=I.hok.fresh (zA3 _)
  have kept:∀ c o,c ∉ [z,TO,i1,i2]->s.heap.get? c=some o->h2.get? c=some o:=fun c o ah e =>
   sb.extBut _ _ (fun q=>ah (by simp [q])) (kp c o (fun q=>ah (by simp [q])) (fun q=>ah (by simp [q])) (fun q=>ah (by simp [q])) (fun q=>ah (by simp [q])) e)
  have vi:∀ c,c∈[z,TO,i1,i2]->c∈[z,TI,TO,i1,i2]:=fun c ah=>by
   simp only [List.mem_cons,List.not_mem_nil,or_false] at ah ⊢;rcases ah with q | q | q | q <;> simp [q]
  have trk:∀ c o,H c=some o->c ∉ [z,TO,i1,i2]:=fun c o e ah=>by
   have:=(hf c (vi c ah)).1;rw [e] at this;cases this
  have gT:h2.get? s.heap.objs.size=some { cls:=.type "tuple",data:=.seq #[ux,uy] }:=sb.extBut _ _ (Ne.symm (ne z (by simp))) g5
  have gX:HOk X.prog X.w (upd H s.heap.objs.size (.tup [x,y])) h2:=fun c o e=>by
   by_cases hb:c=s.heap.objs.size
   ·subst hb;rw [aa] at e;cases e;exact ⟨by show 2<=sizeLine;decide,[ux,uy],.cons rx (.cons ry .nil),_,gT,rfl,_,rfl⟩
   ·rw [az hb] at e
    refine (I.hok c o e).stay (fun d v hd q=>kept d v ?_ q) (fun d q=>by rw [az (au q hT)];exact q) fun d l q=>by rw [az (au q hT)];exact q
    rcases hd with e' | e'
    ·rw [e'];exact trk c o e
    ·exact trk d _ e'
  have I2:Inv X pins σ (upd H s.heap.objs.size (.tup [x,y])) { s with heap:=h2 }:=by
   refine I.step (g':=s.gens) (d':=s.drawn) (t':=s.toks) (ch:=[z,TO,i1,i2]) (fun c ah=>?_) (fun c o _ _ hn e _=>kept c o hn e) (fun c o _ _ hn e _=>⟨o.slots,kept c o hn e⟩)
    (fun c o _ e n=>by rw [az (zB6 (zB0 e))];exact n) (fun c o hn e=>⟨o,kept c o hn e⟩) (fun c l e=>by rw [az (au e hT)];exact e) (fun c o l e=>by rw [az (au e hT)];exact e)
    (fun c l e=>⟨#[],by rw [az (au e hT),e];simp⟩) (fun m hm=>?_) gX I.bare
   ·obtain ⟨f0,f1,f2,f3,f4,f5⟩:=hf c (vi c ah);exact ⟨f3,f1,f4,f5⟩
   ·obtain ⟨o,dQ,ep,ho,r⟩:=hm;refine ⟨o,dQ,ep,kept _ o (fun ah=>?_) ho,r⟩;exact (hf _ (vi _ ah)).2.1 rfl
  refine ⟨.ref s.heap.objs.size,_,I2,rfl,⟨s.heap.objs.size,hT,rfl,fun GV oB mP A5=>⟨x,y,?_,?_,rfl⟩⟩,⟨e1,?_,?_,?_,?_⟩,fun c ah=>?_⟩
  ·rw [I.list_inj mP fE];exact hx
  ·rw [I.list_inj A5 oz];exact hy
  ·exact sb.extBut _ _ D.TIz (kp _ _ D.TIz D.TITO D.TIi1 D.TIi2 s2)
  ·exact ⟨_,_,sb.extBut _ _ D.TOz g2⟩
  ·exact g3.extBut sb.extBut D.i1z
  ·exact g4.extBut sb.extBut D.i2z
  ·rw [az (ne c ah)];exact (hf c ah).1
 done:=by
  intro X hP hw hK hc i pins s σ H E I hf st hg;subst hP hw hK;obtain ⟨s1,s2,⟨u,v,s3⟩,s4,s5⟩:=st;obtain ⟨xs,ys,fE,oz,hlen⟩:=hg;obtain ⟨its,rv,p,_⟩:=I.list fE;obtain ⟨ve,fq,q,_⟩:=I.list oz;have hl:=rv.length;have fy:=fq.length
  refine wpAny_pyNext_zip_end (I.ok.hd hc) D s1 s2 s3 s4 s5 p.isList q.isList (by simp;lia) fun h' kp=>⟨rfl,?_⟩
  refine I.step (h':=h') (H':=H) (g':=s.gens) (d':=s.drawn) (t':=s.toks) (ch:=[z,TO,i1,i2]) (fun c ah=>?_) (fun c o _ _ hn e _=>kp c o (fun q=>hn (by simp [q])) (fun q=>hn (by simp [q])) (fun q=>hn (by simp [q])) (fun q=>hn (by simp [q])) e)
   (fun c o _ _ hn e _=>⟨o.slots,kp c o (fun q=>hn (by simp [q])) (fun q=>hn (by simp [q])) (fun q=>hn (by simp [q])) (fun q=>hn (by simp [q])) e⟩) (fun c o _ e n=>n) (fun c o hn e=>⟨o,kp c o (fun q=>hn (by simp [q])) (fun q=>hn (by simp [q])) (fun q=>hn (by simp [q])) (fun q=>hn (by simp [q])) e⟩)
   (fun _ _ e=>e) (fun _ _ _ e=>e) (fun c l e=>⟨#[],by rw [e];simp⟩) (fun m hm=>?_) (fun c o e=>?_) I.bare
  ·have:c∈[z,TI,TO,i1,i2]:=by
    simp only [List.mem_cons,List.not_mem_nil,or_false] at ah ⊢;rcases ah with q | q | q | q <;> simp [q]
   obtain ⟨f0,f1,f2,f3,f4,f5⟩:=hf c this;exact ⟨f3,f1,f4,f5⟩
  ·obtain ⟨o,dQ,ep,ho,r⟩:=hm;exact ⟨o,dQ,ep,kp _ o (Ne.symm (hf z (by simp)).2.1) (Ne.symm (hf TO (by simp)).2.1) (Ne.symm (hf i1 (by simp)).2.1) (Ne.symm (hf i2 (by simp)).2.1) ho,r⟩
  ·have nn:∀ d v c',c'∈[z,TI,TO,i1,i2]->H d=some v->d≠c':=fun d v c' ah q e'=>by
    have:=(hf c' ah).1;rw [<- e',q] at this;cases this
   have nz:∀ d v,H d=some v->d≠z/\d≠TO/\d≠i1/\d≠i2:=fun d v q=>⟨nn d v z (by simp) q,nn d v TO (by simp) q,nn d v i1 (by simp) q,nn d v i2 (by simp) q⟩
   refine (I.hok c o e).stay (fun d v hd q=>?_) (fun _ q=>q) fun _ _ q=>q;rcases hd with e' | e'
   ·rw [e'] at q ⊢;exact kp c v (nz c o e).1 (nz c o e).2.1 (nz c o e).2.2.1 (nz c o e).2.2.2 q
   ·exact kp d v (nz d _ e').1 (nz d _ e').2.1 (nz d _ e').2.2.1 (nz d _ e').2.2.2 q
 self:=fun _ _ _ _ _ st h=>wpAny_pyIter_zip st.1 h
section
variable {X:Cx}
def Gy (K:Frag)(t:TA):TI:=fun σ H R=>t σ H fun vs H1=>∃ a b xs ys,vs=[.ref a,.ref b]/\SqL K H1 a xs/\SqL K H1 b ys/\R (Itz K a b) H1
theorem pi_zip {es:List Expr}{k:Nat}{tp:Pos}{a b:Expr}{ta:TA}{p pos:Pos}(hg:Gl X "zip")(hm:X.mg "zip" = none)(ha:PA X [a,b] ta)(hs:starEach [a,b] X.env=[(false,eval a X.env),(false,eval b X.env)]:=by rfl)(qv:starEach [b] X.env=[(false,eval b X.env)]:=by rfl) :
  PI X (.Tuple es k tp) (.Call (.Name "zip" p) [a,b] [] pos) (Gy X.K ta):=by
 intro pins s σ H R I h;refine Call_ (gU I hg hm boot_zip (PyProof.Rows.callWith_type1 (thn (ha pos pins s σ H _ I h) fun us s1 ⟨vs,H1,I1,r1,q1⟩=>?_) (by rw [hs,qv]) (by rw [qv];rfl)));obtain ⟨x,y,xs,ys,e,hx,hy,q⟩:=q1;subst e;obtain ⟨u,v,rfl,ru,rv⟩:=vals2 r1;cases ru;cases rv;obtain ⟨its,_,p1,_⟩:=I1.list hx;obtain ⟨ve,_,p2,_⟩:=I1.list hy;refine call_zip_2 p1.isList p2.isList fun h' z1 z2 z3 z4 z5 _ kp=>?_;refine wpAny_pyIter_zip z1 ?_;have lx:x < s1.heap.objs.size:=by obtain ⟨_,e,_⟩:=p1.isList;exact zB0 e
 have ly:y < s1.heap.objs.size:=by obtain ⟨_,e,_⟩:=p2.isList;exact zB0 e
 refine ⟨_,_,_,_,H1,rfl,I1.kept (t':=s1.toks) kp,oF (zipApart_new lx ly),⟨z1,z2,⟨_,_,z3⟩,z4,z5⟩,fun c hc=>?_,q⟩
 have hle:s1.heap.objs.size<=c:=by
  simp only [List.mem_cons,List.not_mem_nil,or_false] at hc;rcases hc with q | q | q | q | q <;> subst q
  ·exact Nat.le_add_right _ 4
  ·exact Nat.le_add_right _ 2
  ·exact Nat.le_add_right _ 3
  ·exact zA3 _
  ·exact Nat.le_add_right _ 1
 exact I1.fpOk hle (I1.hok.fresh hle)
end
end L2.ZL
namespace L2
open PySem PySem.Spec PyProof.Rows
theorem yZ {M:Model}{A:Around}{E:Value->Shared->Prop}{s:Shared}{a b:Value}{Q:Value->Shared->Prop}(ha:s.TypeIs a "list")(hb:s.TypeIs b "list")(hc:wpAny M A (call (.builtin "list.__iadd__") [a,b]) Q E s):wpAny M A (inplaceOp .Add a b) Q E s:=by
 unfold inplaceOp;refine wpAny_holding ?_;have hl:typeLookup (.type "list") (dunderI "add")=pure (some (.builtin "list.__iadd__")):=F.slot_list_iadd.lookup
 have P0:fillsInplaceSlot (.type "list") "add" (Operator.Add == .Add)=pure false:=by
  unfold fillsInplaceSlot;show (typeLookup (.type "list") (dunderI "add") >>= fun fi=>pure (fi.isSome && !isSeqSlot fi))=pure false;rw [hl];have:isSeqSlot (some (.builtin "list.__iadd__"))=true:=by decide +kernel
  show (pure (true && !isSeqSlot (some (.builtin "list.__iadd__"))):Sem Bool)=_;rw [this];rfl
 have MT:seqSlot? (.type "list") (dunderI "add")=pure (some (.builtin "list.__iadd__")):=PySem.seqSlot_of F.slot_list_iadd.lookup (by decide +kernel);refine zAv (wpAny_typeOf ha (zAv (wpAny_of_eq P0 ?_)));show wpAny M A (if false=true then _ else _) Q E s;rw [zAw zAg];refine zAv (wpAny_binaryOp1_none (nm:="add") ha hb noFill_list_add ?_);refine zAv (wpAny_of_eq MT ?_);exact zAv (wpAny_rule hc)
inductive RICatI (x:V)(y:V)(H:Hp)(Q:VK):Prop
 | mk:∀ l b xs zs,(x=.ref l)->(y=.ref b)->(H l=some (.lst xs))->(H b=some (.lst zs))->(xs.length+zs.length<=sizeLine)->(Q (.ref l) (upd H l (.lst (xs++zs))))->RICatI  x y H Q
def Ir:TIp:=fun x y H Q=>RICatI  x y H Q
theorem sE {X:Cx}:PIp X .Add Ir:=by
 intro pins s σ H x y v u Q I rx ru h;obtain ⟨l,b,xs,zs,rfl,rfl,hH,hB,hz,q⟩:=h;cases rx;cases ru;obtain ⟨z,its,n,r,hl,e⟩:=I.lstM hH;obtain ⟨z2,cb,n2,r2,fy,e2⟩:=I.lstM hB;have hsz:its.toArray.size+cb.toArray.size<=sizeLine:=by rw [zA8,zA8];lia
 have dS:¬ (!its.toArray.isEmpty && Builtin.List.listTooLong (its.toArray.size+cb.toArray.size))=true:=by
  rw [jG hsz,Bool.and_false];exact zAg
 refine yZ ⟨_,e,rfl⟩ ⟨_,e2,rfl⟩ (call_meets F.slot_list_iadd ⟨_,e,rfl⟩ F.entry_list_iadd (F.args_list_iadd_2 _ _)
  (AutoSeq1.list___iadd___list_list_0 l its.toArray n b cb.toArray n2 dS (by rw [zA8];lia) (by lia)) ⟨e,e2,?_⟩)
 refine ⟨.ref l,_,I.lset (its':=its++cb) hH e (by simp) (r.append r2) ?_,rfl,q⟩;rw [zA2];lia
section
variable {prog:Program}{w:World}{A:Around}{E:Value->Shared->Prop}{s:Shared}{d it:Addr}{o:Obj}{es:Array DictEntry}{ep i:Nat}
theorem xm {R:Value->Shared->Prop}(n1:(d == sysModules)=false)(g1:s.heap.get? d=some o)(g2:o.ExactDict)(g3:o.data=.dict es ep)
  (q:R (.ref s.heap.objs.size) { s with heap:=s.heap.push { cls:=.type "dict_keyiterator",data:=.fields #[.ref d,.int 0 0,.int es.size 0,.int ep 0] } }):wpAny (model prog w) A (pyIter (.ref d)) R E s:=by
 have ty:s.TypeIs (.ref d) "dict" := ⟨o,g1,g2.1⟩
 refine wpAny_pyIter_slot ty F.slot_dict_iter (wpAny_call_entry F.slot_dict_iter ty F.entry_dict_iter ?_ (F.args_dict_iter_1 _));unfold Builtin.«dict.__iter__»;refine zAv ?_;unfold Builtin.Dict.dictSlotNone;refine zAv (wpAny_notOrdered_dict ty (show wpAny _ _ (pure (Value.ref d)) _ _ s from zB1 ?_));show wpAny (model prog w) _ (Builtin.Dict.showsAll d >>= _) _ E s;unfold Builtin.Dict.showsAll;rw [n1,zAw zAg];refine zAv (zB1 (zAv (wpAny_dictEntries g1 g3 (zAv (wpAny_dictEpoch g1 g3 ?_)))));refine zAv (wpAny_newObj_type (zB1 ⟨_,rfl,"dict_keyiterator",_,⟨_,zB2 _ rfl,rfl⟩,F.slot_dict_keyiterator_next.lookup,?_⟩));exact q
theorem xn {e:DictEntry}{R:Option Value->Shared->Prop}(st:s.heap.IsKeyIter it d i es.size ep)(g1:s.heap.get? d=some o)(g3:o.data=.dict es ep)(hx:es[i]?=some e)
  (q:∀ h',h'.IsKeyIter it d (i+1) es.size ep->Heap.SameBut it s.heap h'->R (some e.key) { s with heap:=h' }):wpAny (model prog w) A (pyNext (.ref it)) R E s:=by
 obtain ⟨oi,i1,i2,i3⟩:=id st;have hb:i < es.size:=(Array.getElem?_eq_some_iff.mp hx).1;unfold pyNext;refine zAv (wpAny_attempt (wpAny_callSpecial?_slot (name:=Str.ofString "__next__") st.typeIs F.slot_dict_keyiterator_next (wpAny_call_entry F.slot_dict_keyiterator_next st.typeIs F.entry_dict_keyiterator_next ?_ (F.args_dict_keyiterator_next_1 _))));refine zAv (zB1 (zAv (zAv ?_)));refine zAv (wpAny_typeNameOfWhole_keyiter st.typeIs (zB1 (zAv (wpAny_fieldsOf i1 i3 ?_))));have ow:Builtin.Dict_items.ownsTuple "dict_keyiterator" = false:=by decide
 simp only [ow,Bool.false_eq_true,if_false];show wpAny (model prog w) _ (if (Value.ref d == Value.none)=true then _ else _) _ _ s;rw [if_neg (show ¬ (Value.ref d == Value.none)=true from zAg)];refine wpAny_bind (wpAny_pure (wpAny_bind (wpAny_dictEntries g1 g3 ?_)));rw [if_neg (by simp)];refine wpAny_bind (wpAny_pure (wpAny_bind (wpAny_dictEpoch g1 g3 ?_)));rw [if_neg (by simp)];refine wpAny_pure ?_;simp only [show ¬ ((i:Int) < 0) from by lia,if_false,Int.toNat_natCast,hx];refine wpAny_bind (wpAny_bind (wpAny_typeNameOfWhole_keyiter st.typeIs (wpAny_pure ?_)));refine wpAny_bind (wpAny_isOneOf_keyiter st.typeIs ?_);show wpAny (model prog w) _ (setField (.ref it) 1 (rawInt ((i:Int)+1)) >>= _) _ _ s;refine wpAny_bind (wpAny_setField i1 i3 (by simp) ?_)
 have st':(s.heap.update it (Obj.mapFields (·.setIfInBounds 1 (rawInt ((i:Int)+1))))).IsKeyIter it d (i+1) es.size ep :=
  ⟨_,Heap.get?_update_self _ i1 (Obj.isFreed_of_fields (Obj.data_mapFields i3 _)),(Obj.cls_mapFields ..).trans i2,by rw [Obj.data_mapFields i3];simp [rawInt]⟩
 refine zAv (wpAny_holding (zAv (wpAny_isOneOf_keyiter (s:={ s with heap:=s.heap.update it (Obj.mapFields (·.setIfInBounds 1 (rawInt ((i:Int)+1)))) }) st'.typeIs ?_)));show wpAny (model prog w) _ (pure e.key) _ _ _;exact zB1 (zB1 ⟨_,rfl,zB1 (q _ st' (Heap.SameBut.update ..))⟩)
theorem Bk {R:Option Value->Shared->Prop}(hh:A.handled=none)(st:s.heap.IsKeyIter it d i es.size ep)(g1:s.heap.get? d=some o)(g3:o.data=.dict es ep)(hx:es.size<=i)
  (q:∀ h',Heap.ExtBut it s.heap h'->R none { s with heap:=h' }):wpAny (model prog w) A (pyNext (.ref it)) R E s:=by
 obtain ⟨oi,i1,i2,i3⟩:=id st;unfold pyNext;refine zAv (wpAny_attempt (wpAny_callSpecial?_slot (name:=Str.ofString "__next__") st.typeIs F.slot_dict_keyiterator_next (wpAny_call_entry F.slot_dict_keyiterator_next st.typeIs F.entry_dict_keyiterator_next ?_ (F.args_dict_keyiterator_next_1 _))));refine zAv (zB1 (zAv (zAv ?_)));refine zAv (wpAny_typeNameOfWhole_keyiter st.typeIs (zB1 (zAv (wpAny_fieldsOf i1 i3 ?_))));have ow:Builtin.Dict_items.ownsTuple "dict_keyiterator" = false:=by decide
 simp only [ow,Bool.false_eq_true,if_false];show wpAny (model prog w) _ (if (Value.ref d == Value.none)=true then _ else _) _ _ s;rw [if_neg (show ¬ (Value.ref d == Value.none)=true from zAg)];refine wpAny_bind (wpAny_pure (wpAny_bind (wpAny_dictEntries g1 g3 ?_)));rw [if_neg (by simp)];refine wpAny_bind (wpAny_pure (wpAny_bind (wpAny_dictEpoch g1 g3 ?_)));rw [if_neg (by simp)];refine wpAny_pure ?_;simp only [show ¬ ((i:Int) < 0) from by lia,if_false,Int.toNat_natCast,Array.getElem?_eq_none hx];refine wpAny_bind (wpAny_bind (wpAny_typeNameOfWhole_keyiter st.typeIs (wpAny_pure ?_)));show wpAny (model prog w) _ (setField (.ref it) 0 .none >>= _) _ _ s;refine wpAny_bind (wpAny_setField i1 i3 (by simp) ?_);show wpAny (model prog w) _ (newExc (.type "StopIteration") [] >>= _) _ _ _;refine wpAny_bind ?_;simp only [newExc,newTuple];refine wpAny_bind (wpAny_newObj_type (wpAny_bind (m:=firstArgMember _ _) (wpAny_of_eq (a:=Value.none) (by first | rfl | (simp only [firstArgMember];rfl)) ?_)) (by size_fits));refine wpAny_newObj_type ?_ (by size_fits);simp only [raiseNew];refine wpAny_bind (wpAny_handled ?_);rw [show A.in1.handled=none from hh];refine wpAny_bind (wpAny_pure (wpAny_throw ?_));refine wpAny_bind (wpAny_isInstance (b:=true) (T:="StopIteration") ⟨_,Heap.get?_push_size _ rfl,rfl⟩ isSubtype_stop ?_);exact wpAny_pure (q _ (((Heap.SameBut.update ..).extBut.push _).push _))
end
def Itd (d:Addr)(o:Obj)(kvs:List (List Key×V)):It :=
 ⟨fun i H=>H d=some (.frz o (.dT kvs))/\i < kvs.length,fun i H x H'=>H'=H/\∃ b k v,x=.ref b/\kvs[i]?=some (k,v)/\H b=some (.tup (k.map kV)),fun i H=>H d=some (.frz o (.dT kvs))/\kvs.length<=i⟩
theorem KT.get {H:Hp}:∀ {kvs:List (List Key×V)} {xs:List (List Key×Addr×Value)} {i:Nat} {k:List Key} {v:V},KT H kvs xs->kvs[i]?=some (k,v)->∃ b u,xs[i]?=some (k,b,u)/\H b=some (.tup (k.map kV))
 | _,_,_,_,_,.nil,e=>by simp at e
 | p::_,q::_,0,k,v,.cons r t,e=>by
  rw [List.getElem?_cons_zero] at e;cases e;obtain ⟨h1,h2,_⟩:=r;refine ⟨q.2.1,q.2.2,?_,h2⟩;rw [List.getElem?_cons_zero];show some q=some (k,q.2.1,q.2.2);rw [show k=q.1 from h1]
 | p::_,q::_,i+1,k,v,.cons r t,e=>by
  rw [List.getElem?_cons_succ] at e;obtain ⟨b,u,e1,e2⟩:=KT.get t e;exact ⟨b,u,by rw [List.getElem?_cons_succ];exact e1,e2⟩
theorem KT.len {H:Hp}:∀ {kvs:List (List Key×V)} {xs:List (List Key×Addr×Value)},KT H kvs xs->xs.length=kvs.length
 | _,_,.nil=>rfl
 | _,_,.cons _ t=>by rw [zAe,zAe,KT.len t]
theorem Inv.frzT {X:Cx}{pins:List (Addr×Obj)}{σ:St}{H:Hp}{s:Shared}{d:Addr}{o:Obj}{kvs:List (List Key×V)}(I:Inv X pins σ H s)(e:H d=some (.frz o (.dT kvs))):s.heap.get? d=some o/\o.ExactDict/\(d == sysModules)=false /\
  ∃ es ep xs,o.data=.dict es ep/\KT H kvs xs/\es.toList=xs.map (entryOfKey (tupleKind (cA X.prog X.w))):=by
 obtain ⟨e0,_,hs,xs,kt,o',es,ep,g1,g2,g3,g4,_⟩:=(show ObjOk X.prog X.w H s.heap d (.frz o (.dT kvs)) from I.hok _ _ e)
 rw [e0] at g1;cases g1;exact ⟨e0,g2,hs,es,ep,xs,g3,kt,g4⟩
theorem qG {P:Program}{w:World}{H:Hp}{kvs:List (List Key×V)}{xs:List (List Key×Addr×Value)}{es:Array DictEntry}(kt:KT H kvs xs)(e:es.toList=xs.map (entryOfKey (tupleKind (cA P w)))):es.size=kvs.length:=by
 rw [<- zA9,e,zA1,kt.len]
theorem za {P:Program}{w:World}{K:Frag}{tg:Expr}(d it:Addr)(o:Obj)(kvs:List (List Key×V))(es:Array DictEntry)(ep:Nat)(od:o.data=.dict es ep)(hz:es.size=kvs.length):Turn P w K tg (Itd d o kvs) [it] it (fun i h=>h.IsKeyIter it d i es.size ep) where
 mem:=by simp
 obj:=fun i h st b hb=>by
  have e:b=it:=by simpa using hb
  subst e;obtain ⟨o,e,c,d⟩:=st;exact ⟨o,e,fun v z=>by rw [d] at z;cases z⟩
 keep:=fun i h h' st k=>st.at fun o e=>k it (by simp) o e
 item:=by
  intro X hP hw hK hc i pins s σ H E I hf st hg;subst hP hw hK;obtain ⟨hq,hx⟩:=hg;obtain ⟨e0,g2,hs,dQ,AF,xs,g3,kt,g4⟩:=I.frzT hq;rw [od] at g3;cases g3;obtain ⟨b,u,ex,eb⟩:=kt.get (k:=kvs[i].1) (v:=kvs[i].2) (zA0 hx);have ee:es[i]?=some (entryOfKey (tupleKind (cA X.prog X.w)) (kvs[i].1,b,u)):=by rw [entry_at g4,ex];rfl
  obtain ⟨f0,f1,f2,f3,f4,f5⟩:=hf it (by simp);refine xn st e0 od ee fun h' st' sb=>?_;have I1:Inv X pins σ H { s with heap:=h' }:=I.turned (t':=s.toks) (fun b o hb e=>(sb.2 b hb).trans e) f0 f1 f3 f4 f5;obtain ⟨o2,e2,c2,d2⟩:=id st';exact ⟨.ref b,rfl,wk (s:={ s with heap:=h' }) e2 c2 d2 (by decide) ⟨.ref b,H,I1,rfl,⟨rfl,b,kvs[i].1,kvs[i].2,rfl,zA0 hx,eb⟩,st',fun b hb=>(hf b hb).1⟩⟩
 done:=by
  intro X hP hw hK hc i pins s σ H E I hf st hg;subst hP hw hK;obtain ⟨hq,hx⟩:=hg;obtain ⟨e0,g2,hs,dQ,AF,xs,g3,kt,g4⟩:=I.frzT hq;rw [od] at g3;cases g3;obtain ⟨f0,f1,f2,f3,f4,f5⟩:=hf it (by simp)
  exact Bk (I.ok.hd hc) st e0 od (by lia) fun h' eb=>⟨rfl,I.turned (t':=s.toks) (fun b o hb e=>eb b o hb e) f0 f1 f3 f4 f5⟩
 self:=fun _ _ _ _ _ st h=>wpAny_pyIter_keyiter st h
section
variable {X:Cx}{tg:Expr}
def Iu (tl:TE):TI:=fun σ H R=>tl σ H fun x H1=>∃ d o kvs,x=.ref d/\H1 d=some (.frz o (.dT kvs))/\R (Itd d o kvs) H1
theorem xu {l:Expr}{tl:TE}(hl:PE X l tl):PI X tg l (Iu tl):=by
 intro pins s σ H R I h;refine thn (hl pins s σ H _ I h) fun v s1 ⟨x,H1,I1,r1,q1⟩=>?_;obtain ⟨d,o,kvs,e,hq,q⟩:=q1;subst e;cases r1;obtain ⟨e0,g2,hs,es,ep,xs,g3,kt,g4⟩:=I1.frzT hq;refine xm hs e0 g2 g3 ?_;refine ⟨s1.heap.objs.size,[s1.heap.objs.size],_,_,H1,rfl,I1.kept (t':=s1.toks) fun b o e=>Heap.get?_push_of_some _ e,za d _ o kvs es ep g3 (qG kt g4),⟨_,Heap.get?_push_size _ rfl,rfl,rfl⟩,fun b hb=>?_,q⟩;have e:b=s1.heap.objs.size:=by simpa using hb
 subst e;exact I1.fpOk (zA3 _) (I1.hok.fresh (zA3 _))
inductive TFrzI (t:TE)(σ:St)(H:Hp)(Q:VK):Prop
 | mk:∀ d kvs,(H d=some (.dT kvs))->(∀ o,t σ (upd H d (.frz o (.dT kvs))) fun v H'=>H' d=some (.frz o (.dT kvs))/\Q v (upd H' d (.dT kvs)))->TFrzI t σ H Q
def JQ (t:TE):TE:=fun σ H Q=>TFrzI t σ H Q
theorem Gz {e:Expr}{t:TE}(h:PE X e t):PE X e (JQ t):=by
 intro pins s σ H Q I hq;obtain ⟨d,kvs,ed,hq⟩:=hq
 obtain ⟨hz,hs,xs,kt,o,es,ep,g1,g⟩:=(show ObjOk X.prog X.w H s.heap d (.dT kvs) from I.hok _ _ ed)
 have nt:∀ {b:Addr} {u:HO},H b=some u->u≠.dT kvs->b≠d:=fun {b u} e n z=>by
  rw [z,ed] at e;exact n (zAl e).symm
 have I1:Inv X pins σ (upd H d (.frz o (.dT kvs))) { s with heap:=s.heap,toks:=s.toks }:=by
  refine I.un ⟨fun b ob q _ _ _=>q,fun b ob q _ _ _=>⟨ob.slots,q⟩,fun b ob q n _=>?_,fun b ob q _=>⟨ob,q⟩,fun b xs q=>?_,fun b ob u q=>?_,fun b ps q=>⟨#[],?_⟩⟩ fun b u e=>?_
  ·rw [az fun z=>by rw [z,ed] at n;cases n];exact n
  ·rw [az (nt q fun z=>by cases z)];exact q
  ·rw [az (nt q fun z=>by cases z)];exact q
  ·rw [az (nt q fun z=>by cases z),q];simp
  ·have aI:∀ c xs,H c=some (.tup xs)->upd H d (.frz o (.dT kvs)) c=some (.tup xs):=fun c xs q=>by
    rw [az (nt q fun z=>by cases z)];exact q
   by_cases hb:b=d
   ·subst hb;rw [aa] at e;cases e;exact ⟨g1,(show ObjOk X.prog X.w H s.heap b (.dT kvs) from I.hok _ _ ed).stay (fun _ _ _ q=>q) (fun c q=>by rw [az (nt q fun z=>by cases z)];exact q) aI⟩
   ·rw [az hb] at e;exact (I.hok b u e).stay (fun _ _ _ q=>q) (fun c q=>by rw [az (nt q fun z=>by cases z)];exact q) aI
 refine thn (h pins s σ _ _ I1 (hq o)) fun v s1 ⟨x,H1,J,r1,e1,q1⟩=>?_
 have oC:∀ {b:Addr} {u:HO},H1 b=some u->u≠.frz o (.dT kvs)->b≠d:=fun {b u} e n z=>by
  rw [z,e1] at e;exact n (zAl e).symm
 have fr:∀ b,H1 b=none->upd H1 d (.dT kvs) b=none:=fun b n=>by
  rw [az fun z=>by rw [z,e1] at n;cases n];exact n
 refine ⟨x,upd H1 d (.dT kvs),⟨J.ok,J.os,J.bare,⟨J.base.keep,J.base.slot,fun b ob q n hx=>fr b (J.base.free b ob q n hx),J.base.there,fun b xs q=>?_,fun b ob u q=>?_,fun b ps q=>?_⟩,J.loc,J.cell,fr _ J.free,fun y c e=>fr _ (J.freeC y c e),fun p hp=>?_,fun b u e=>?_,J.len⟩,r1,q1⟩
 ·have:=J.base.tups b xs q;rw [az (oC this fun z=>by cases z)];exact this
 ·have h0:=I.base.frzs b ob u q;have:=J.base.frzs b ob u q;rw [az (nt h0 fun z=>by cases z)];exact this
 ·obtain ⟨m,e⟩:=J.base.tbls b ps q;exact ⟨m,by rw [az (oC e fun z=>by cases z)];exact e⟩
 ·obtain ⟨a,n,c⟩:=J.pin p hp;exact ⟨a,fr _ n,c⟩
 ·have aI:∀ c xs,H1 c=some (.tup xs)->upd H1 d (.dT kvs) c=some (.tup xs):=fun c xs q=>by
   rw [az (oC q fun z=>by cases z)];exact q
  have gc:∀ a c,H1 c=some (.own a)->upd H1 d (.dT kvs) c=some (.own a):=fun a c q=>by
   rw [az (oC q fun z=>by cases z)];exact q
  by_cases hb:b=d
  ·subst hb;rw [aa] at e;cases e;exact ObjOk.stay (show ObjOk X.prog X.w H1 s1.heap b (.dT kvs) from (show ObjOk X.prog X.w H1 s1.heap b (.frz o (.dT kvs)) from J.hok _ _ e1).2) (fun _ _ _ q=>q) (gc b) aI
  ·rw [az hb] at e;exact (J.hok b u e).stay (fun _ _ _ q=>q) (gc b) aI
end
open PySem PyProof.Rows HT
section
variable {X:Cx}{tg:Expr}
inductive TFrzSI (t:TS)(D:Ends)(σ:St)(H:Hp):Prop
 | mk:∀ d kvs,(H d=some (.dT kvs))->(∀ o,t { D with nx:=fun ai H'=>H' d=some (.frz o (.dT kvs))/\D.nx ai (upd H' d (.dT kvs)),bk:=fun _ _=>False,ct:=fun _ _=>False,rt:=fun _ _=>False } σ (upd H d (.frz o (.dT kvs))))->TFrzSI t D σ H
def Iv (t:TS):TS:=fun D σ H=>TFrzSI t D σ H
theorem GC {e:Stmt}{t:TS}(h:PS X e t):PS X e (Iv t):=by
 intro pins s σ H D I hq;obtain ⟨d,kvs,ed,hq⟩:=hq
 obtain ⟨hz,hs,xs,kt,o,es,ep,g1,g⟩:=(show ObjOk X.prog X.w H s.heap d (.dT kvs) from I.hok _ _ ed)
 have nt:∀ {b:Addr} {u:HO},H b=some u->u≠.dT kvs->b≠d:=fun {b u} e n z=>by
  rw [z,ed] at e;exact n (zAl e).symm
 have I1:Inv X pins σ (upd H d (.frz o (.dT kvs))) { s with heap:=s.heap,toks:=s.toks }:=by
  refine I.un ⟨fun b ob q _ _ _=>q,fun b ob q _ _ _=>⟨ob.slots,q⟩,fun b ob q n _=>?_,fun b ob q _=>⟨ob,q⟩,fun b xs q=>?_,fun b ob u q=>?_,fun b ps q=>⟨#[],?_⟩⟩ fun b u e=>?_
  ·rw [az fun z=>by rw [z,ed] at n;cases n];exact n
  ·rw [az (nt q fun z=>by cases z)];exact q
  ·rw [az (nt q fun z=>by cases z)];exact q
  ·rw [az (nt q fun z=>by cases z),q];simp
  ·have aI:∀ c xs,H c=some (.tup xs)->upd H d (.frz o (.dT kvs)) c=some (.tup xs):=fun c xs q=>by
    rw [az (nt q fun z=>by cases z)];exact q
   by_cases hb:b=d
   ·subst hb;rw [aa] at e;cases e;exact ⟨g1,(show ObjOk X.prog X.w H s.heap b (.dT kvs) from I.hok _ _ ed).stay (fun _ _ _ q=>q) (fun c q=>by rw [az (nt q fun z=>by cases z)];exact q) aI⟩
   ·rw [az hb] at e;exact (I.hok b u e).stay (fun _ _ _ q=>q) (fun c q=>by rw [az (nt q fun z=>by cases z)];exact q) aI
 refine thn (h pins s σ _ _ I1 (hq o)) fun fl s1 EC=>?_
 cases fl with
 | brk=>obtain ⟨_,_,_,z⟩:=EC;exact z.elim
 | cont=>obtain ⟨_,_,_,z⟩:=EC;exact z.elim
 | ret u=>obtain ⟨_,_,_,_,_,z⟩:=EC;exact z.elim
 | next =>
 obtain ⟨FF,H1,J,e1,q1⟩:=EC
 have oC:∀ {b:Addr} {u:HO},H1 b=some u->u≠.frz o (.dT kvs)->b≠d:=fun {b u} e n z=>by
  rw [z,e1] at e;exact n (zAl e).symm
 have fr:∀ b,H1 b=none->upd H1 d (.dT kvs) b=none:=fun b n=>by
  rw [az fun z=>by rw [z,e1] at n;cases n];exact n
 refine ⟨FF,upd H1 d (.dT kvs),⟨J.ok,J.os,J.bare,⟨J.base.keep,J.base.slot,fun b ob q n hx=>fr b (J.base.free b ob q n hx),J.base.there,fun b xs q=>?_,fun b ob u q=>?_,fun b ps q=>?_⟩,J.loc,J.cell,fr _ J.free,fun y c e=>fr _ (J.freeC y c e),fun p hp=>?_,fun b u e=>?_,J.len⟩,q1⟩
 ·have:=J.base.tups b xs q;rw [az (oC this fun z=>by cases z)];exact this
 ·have h0:=I.base.frzs b ob u q;have:=J.base.frzs b ob u q;rw [az (nt h0 fun z=>by cases z)];exact this
 ·obtain ⟨m,e⟩:=J.base.tbls b ps q;exact ⟨m,by rw [az (oC e fun z=>by cases z)];exact e⟩
 ·obtain ⟨a,n,c⟩:=J.pin p hp;exact ⟨a,fr _ n,c⟩
 ·have aI:∀ c xs,H1 c=some (.tup xs)->upd H1 d (.dT kvs) c=some (.tup xs):=fun c xs q=>by
   rw [az (oC q fun z=>by cases z)];exact q
  have gc:∀ a c,H1 c=some (.own a)->upd H1 d (.dT kvs) c=some (.own a):=fun a c q=>by
   rw [az (oC q fun z=>by cases z)];exact q
  by_cases hb:b=d
  ·subst hb;rw [aa] at e;cases e;exact ObjOk.stay (show ObjOk X.prog X.w H1 s1.heap b (.dT kvs) from (show ObjOk X.prog X.w H1 s1.heap b (.frz o (.dT kvs)) from J.hok _ _ e1).2) (fun _ _ _ q=>q) (gc b) aI
  ·rw [az hb] at e;exact (J.hok b u e).stay (fun _ _ _ q=>q) (gc b) aI
end
section
variable {X:Cx}
inductive RSetDI (o:V)(i:V)(v:V)(H:Hp)(Q:Hp->Prop):Prop
 | mk:∀ a H',(o=.ref a)->(DPut H a i v H')->(Q H')->RSetDI  o i v H Q
def Iw:yx:=fun o i v H Q=>RSetDI  o i v H Q
theorem set_dict (hu:X.A.units+1 < cLine):Dt X Iw:=by
 intro pins s σ H o i v ov iv u Q I ro ri rv h;obtain ⟨a,H',rfl,g,q⟩:=h;cases ro
 exact qu hu I g ri rv fun s' I'=>⟨H',I',q⟩
end
end L2
namespace L2.ZM
open PySem PySem.Spec PyProof.Rows L2
section
variable {prog:Program}{w:World}{A:Around}{E:Value->Shared->Prop}{s:Shared}
theorem uB {z TI TO i1 i2 l1 l2:Addr}{k:Nat}{xs ys:Array Value}{x y a b:Value}{Q:Option Value->Shared->Prop}(D:ZipApart z TI TO i1 i2 l1 l2)
  (hz:IsZip s.heap z TI TO .none) (IC:IsPair s.heap TI (.ref i1) (.ref i2)) (MU:IsPair s.heap TO a b)
  (h1:s.heap.IsListIter i1 l1 k) (h2:s.heap.IsTupleIter i2 l2 k) (dv:s.heap.IsList l1 xs) (fy:s.heap.IsTuple l2 ys) (hx:xs[k]?=some x) (hy:ys[k]?=some y)
  (hQ:∀ h',IsZip h' z TI TO (rawInt s.heap.objs.size)->IsPair h' TO x y->h'.IsListIter i1 l1 (k+1)->h'.IsTupleIter i2 l2 (k+1)->IsPair h' s.heap.objs.size x y->h'.objs.size=s.heap.objs.size+1 ->
   (∀ c o,c≠z->c≠TO->c≠i1->c≠i2->s.heap.get? c=some o->h'.get? c=some o)->Q (some (.ref s.heap.objs.size)) { s with heap:=h' }) :
  wpAny (model prog w) A (pyNext (.ref z)) Q E s:=by
 have hT:s.TypeIs (.ref z) "zip" := ⟨_,hz,rfl⟩
 unfold pyNext;refine wpAny_bind (wpAny_attempt (wpAny_callSpecial?_slot (name:=Str.ofString "__next__") hT F.slot_zip_next (wpAny_call_entry F.slot_zip_next hT F.entry_zip_next ?_ (F.args_zip_next_1 _))));show wpAny _ _ (field (.ref z) 2 >>= _) _ _ _;refine wpAny_bind (wpAny_field hz rfl (x:=.bool false) rfl ?_);show wpAny _ _ (field (.ref z) 3 >>= _) _ _ _;refine wpAny_bind (wpAny_field hz rfl (x:=.ref TI) rfl (wpAny_bind (wpAny_seqItems IC rfl ?_)));show wpAny _ _ (Builtin.SmallTypes.ownedTupleIsFree (.ref z) >>= _) _ _ _;refine wpAny_bind ?_;unfold Builtin.SmallTypes.ownedTupleIsFree;refine wpAny_bind (wpAny_field hz rfl (x:=.none) rfl (wpAny_pure ?_));simp only [if_true];refine wpAny_bind (wpAny_rule (wpAny_bind (wpAny_field hz rfl (x:=.ref TO) rfl (wpAny_bind (wpAny_setField_rec hz (by simp) fun g1 z1 s1=>?_)))))
 replace z1:IsZip g1 z TI TO .ellipsis:=z1
 refine wpAny_bind ?_;simp only [List.zipIdx_cons,List.zipIdx_nil,List.forIn_cons,List.forIn_nil];refine wpAny_bind (wpAny_bind (wpAny_onRaise ?_));show wpAny _ _ (Builtin.SmallTypes.nextOf (.ref i1) >>= _) _ _ _;refine wpAny_bind (wpAny_nextOf_list_item (h1.extBut s1.extBut D.i1z) (dv.extBut s1.extBut D.l1z) hx fun g2 q1 s2=>wpAny_pure ?_);have o2:IsPair g2 TO a b:=s2.extBut _ _ D.TOi1 (s1.extBut _ _ D.TOz MU);refine wpAny_bind (wpAny_seqItems o2 rfl (wpAny_bind (wpAny_updateSeq_pair o2 fun g3 o3 s3=>?_)))
 replace o3:IsPair g3 TO x b:=o3
 refine zAv (wpAny_letGo (zB1 (zAv (zAv (wpAny_onRaise ?_)))));show wpAny _ _ (Builtin.SmallTypes.nextOf (.ref i2) >>= _) _ _ _;refine zAv (Ar (((h2.extBut s1.extBut D.i2z).extBut s2.extBut D.i12.symm).extBut s3.extBut D.TOi2.symm) (((fy.extBut s1.extBut D.l2z).extBut s2.extBut D.l2i1).extBut s3.extBut D.l2TO) hy fun g4 q2 s4=>zB1 ?_);have o4:IsPair g4 TO x b:=s4.extBut _ _ D.TOi2 o3;refine zAv (wpAny_seqItems o4 rfl (zAv (wpAny_updateSeq_pair o4 fun g5 o5 s5=>?_)))
 replace o5:IsPair g5 TO x y:=o5
 refine zAv (wpAny_letGo (zB1 (zB1 (zAv (wpAny_seqItems o5 rfl (zAv (wpAny_newTuple ?_)))))));have hsz:g5.objs.size=s.heap.objs.size:=by rw [s5.1,s4.1,s3.1,s2.1,s1.1]
 have z5:IsZip g5 z TI TO .ellipsis:=s5.extBut _ _ D.TOz.symm (s4.extBut _ _ D.i2z.symm (s3.extBut _ _ D.TOz.symm (s2.extBut _ _ D.i1z.symm z1)));have k5:∀ c o,c≠z->c≠TO->c≠i1->c≠i2->s.heap.get? c=some o->g5.get? c=some o:=fun c o c1 c2 c3 c4 e=>s5.extBut _ _ c2 (s4.extBut _ _ c4 (s3.extBut _ _ c2 (s2.extBut _ _ c3 (s1.extBut _ _ c1 e))));have p1:g5.IsListIter i1 l1 (k+1):=((q1.extBut s3.extBut D.TOi1.symm).extBut s4.extBut D.i12).extBut s5.extBut D.TOi1.symm;have p2:g5.IsTupleIter i2 l2 (k+1):=q2.extBut s5.extBut D.TOi2.symm;have MV:z < g5.objs.size:=Heap.lt_size z5;show wpAny _ _ (Builtin.SmallTypes.ownedTupleHandOut (.ref z) (.ref g5.objs.size) >>= _) _ _ _;refine wpAny_bind ?_;unfold Builtin.SmallTypes.ownedTupleHandOut;have z6:IsZip (g5.push { cls:=.type "tuple",data:=.seq #[x,y] }) z TI TO .ellipsis:=Heap.get?_push_of_some _ z5;refine wpAny_bind (wpAny_setField_rec z6 (by simp) fun g7 z7 s7=>?_)
 replace z7:IsZip g7 z TI TO (rawInt g5.objs.size):=z7
 refine wpAny_setField_rec z7 (by simp) fun g8 z8 s8=>?_
 replace z8:IsZip g8 z TI TO (rawInt g5.objs.size):=z8
 have up:∀ c o,c≠z->g5.get? c=some o->g8.get? c=some o:=fun c o c1 e=>s8.extBut _ _ c1 (s7.extBut _ _ c1 (zAy _ e));have t8:IsPair g8 g5.objs.size x y:=s8.extBut _ _ (Nat.ne_of_gt MV) (s7.extBut _ _ (Nat.ne_of_gt MV) (zB2 _ rfl));have n8:g8.objs.size=g5.objs.size+1:=by rw [s8.1,s7.1,Heap.size_push]
 rw [hsz] at z8 t8 n8;refine zB1 ⟨_,rfl,zB1 ?_⟩;show Q (some (.ref g5.objs.size)) _;rw [hsz];exact hQ g8 z8 (up _ _ D.TOz o5) (p1.at fun o e=>up _ o D.i1z e) (p2.at fun o e=>up _ o D.i2z e) t8 n8 fun c o c1 c2 c3 c4 e=>up c o c1 (k5 c o c1 c2 c3 c4 e)
theorem vC {z TI TO i1 i2 l1 l2:Addr}{k:Nat}{xs:Array Value}{a b:Value}{Q:Option Value->Shared->Prop}(hh:A.handled=none)(D:ZipApart z TI TO i1 i2 l1 l2)
  (hz:IsZip s.heap z TI TO .none) (IC:IsPair s.heap TI (.ref i1) (.ref i2)) (MU:IsPair s.heap TO a b) (h1:s.heap.IsListIter i1 l1 k) (dv:s.heap.IsList l1 xs) (hx:xs[k]?=none)
  (hQ:∀ h',(∀ c o,c≠z->c≠i1->s.heap.get? c=some o->h'.get? c=some o)->Q none { s with heap:=h' }):wpAny (model prog w) A (pyNext (.ref z)) Q E s:=by
 have hT:s.TypeIs (.ref z) "zip" := ⟨_,hz,rfl⟩
 unfold pyNext;refine wpAny_bind (wpAny_attempt (wpAny_callSpecial?_slot (name:=Str.ofString "__next__") hT F.slot_zip_next (wpAny_call_entry F.slot_zip_next hT F.entry_zip_next ?_ (F.args_zip_next_1 _))));show wpAny _ _ (field (.ref z) 2 >>= _) _ _ _;refine wpAny_bind (wpAny_field hz rfl (x:=.bool false) rfl ?_);show wpAny _ _ (field (.ref z) 3 >>= _) _ _ _;refine wpAny_bind (wpAny_field hz rfl (x:=.ref TI) rfl (wpAny_bind (wpAny_seqItems IC rfl ?_)));show wpAny _ _ (Builtin.SmallTypes.ownedTupleIsFree (.ref z) >>= _) _ _ _;refine wpAny_bind ?_;unfold Builtin.SmallTypes.ownedTupleIsFree;refine wpAny_bind (wpAny_field hz rfl (x:=.none) rfl (wpAny_pure ?_));simp only [if_true];refine wpAny_bind (wpAny_rule (wpAny_bind (wpAny_field hz rfl (x:=.ref TO) rfl (wpAny_bind (wpAny_setField_rec hz (by simp) fun g1 z1 s1=>?_)))))
 replace z1:IsZip g1 z TI TO .ellipsis:=z1
 refine wpAny_bind ?_;simp only [List.zipIdx_cons,List.zipIdx_nil,List.forIn_cons,List.forIn_nil];refine wpAny_bind (wpAny_bind (wpAny_onRaise ?_));show wpAny _ _ (Builtin.SmallTypes.nextOf (.ref i1) >>= _) _ _ _;refine wpAny_bind (wpAny_nextOf_list_end hh (h1.extBut s1.extBut D.i1z) (dv.extBut s1.extBut D.l1z) hx fun g2 e s2 he=>?_);obtain ⟨oe,ID,MW⟩:=he;have z2:IsZip g2 z TI TO .ellipsis:=s2 _ _ D.i1z.symm z1
 have P1:e≠z:=fun q=>by
  subst q;rw [z2] at ID;cases ID;simp at MW
 refine wpAny_setField_rec z2 (by simp) fun g3 _ s3=>?_;refine wpAny_bind (wpAny_isInstance (T:="StopIteration") (b:=true) ⟨oe,s3.extBut _ _ P1 ID,MW⟩ isSubtype_stop (wpAny_pure (hQ _ fun c o c1 c2 q=>s3.extBut _ _ c1 (s2 _ _ c2 (s1.extBut _ _ c1 q)))))
end
abbrev zA (h:Heap)(t:Addr):Heap:=h.push { cls:=.type "list_iterator",data:=.fields #[.ref t,.int 0 0] }
abbrev zB (h:Heap)(t l:Addr):Heap:=(zA h t).push { cls:=.type "tuple_iterator",data:=.fields #[.ref l,.int 0 0] }
abbrev zC (h:Heap)(t l:Addr):Heap:=(zB h t l).push { cls:=.type "tuple",data:=.seq #[.ref h.objs.size,.ref (zA h t).objs.size] }
abbrev zD (h:Heap)(t l:Addr):Heap:=(zC h t l).push { cls:=.type "tuple",data:=.seq #[.none,.none] }
abbrev zE (h:Heap)(t l:Addr):Heap:=(zD h t l).push { cls:=.type "zip",data:=.fields #[.none,.bool false,.bool false,.ref (zB h t l).objs.size,.ref (zC h t l).objs.size] }
theorem sG (t l:Addr)(xs ys:Array Value) :
  Meets (Builtin.«zip.__new__» ⟨[.type "zip",.ref t,.ref l],[]⟩) (fun _ R s=>s.heap.IsList t xs/\s.heap.IsTuple l ys/\R (.ok (.ret (.ref (zD s.heap t l).objs.size))) { s with heap:=zE s.heap t l }) :=
 .of_wp fun prog w A R s h=>by
  obtain ⟨hp,g,d,tk,os⟩:=s;obtain ⟨ht,hl,h⟩:=h;have AV:=sub_zip;have hT:Heap.IsList (Shared.heap ⟨hp,g,d,tk,os⟩) t xs:=ht;have hL:Heap.IsTuple (Shared.heap ⟨hp.push { cls:=.type "list_iterator",data:=.fields #[.ref t,.int 0 0] },g,d,tk,os⟩) l ys:=hl.at fun o e=>zAy _ e
  wp_walk using wpAny_pyIter_list hT,wpAny_pyIter_tuple hL
  exact ⟨_,rfl,h⟩
theorem uC {prog:Program}{w:World}{A:Around}{E:Value->Shared->Prop}{s:Shared}{t l:Addr}{xs ys:Array Value}{Q:Value->Shared->Prop}(ht:s.heap.IsList t xs)(hl:s.heap.IsTuple l ys)
  (h:∀ h',IsZip h' (s.heap.objs.size+4) (s.heap.objs.size+2) (s.heap.objs.size+3) .none->IsPair h' (s.heap.objs.size+2) (.ref s.heap.objs.size) (.ref (s.heap.objs.size+1))->IsPair h' (s.heap.objs.size+3) .none .none ->
   h'.IsListIter s.heap.objs.size t 0->h'.IsTupleIter (s.heap.objs.size+1) l 0->(∀ c o,s.heap.get? c=some o->h'.get? c=some o)->Q (.ref (s.heap.objs.size+4)) { s with heap:=h' }) :
  wpAny (model prog w) A (call (.type "zip") [.ref t,.ref l]) Q E s:=by
 refine callType_new F.called_zip (by decide) (F.typeCall_zip_2 _ _) (F.newCall_zip_2 _ _) (fun obj=>F.args_object_init_3 obj _ _) F.entry_zip_new (sG t l xs ys) ⟨ht,hl,?_⟩;have e1:(zA s.heap t).objs.size=s.heap.objs.size+1:=Heap.size_push ..;have e2:(zB s.heap t l).objs.size=s.heap.objs.size+2:=by rw [Heap.size_push,e1]
 have e3:(zC s.heap t l).objs.size=s.heap.objs.size+3:=by rw [Heap.size_push,e2]
 have e4:(zD s.heap t l).objs.size=s.heap.objs.size+4:=by rw [Heap.size_push,e3]
 have MX:∀ {c o},(zD s.heap t l).get? c=some o->(zE s.heap t l).get? c=some o:=fun e=>zAy _ e;have MY:∀ {c o},(zC s.heap t l).get? c=some o->(zE s.heap t l).get? c=some o:=fun e=>MX (zAy _ e);have MZ:∀ {c o},(zB s.heap t l).get? c=some o->(zE s.heap t l).get? c=some o:=fun e=>MY (zAy _ e);have up1:∀ {c o},(zA s.heap t).get? c=some o->(zE s.heap t l).get? c=some o:=fun e=>MZ (zAy _ e);have g5:(zE s.heap t l).get? (zD s.heap t l).objs.size=some _:=zB2 _ rfl;have g4:(zE s.heap t l).get? (zC s.heap t l).objs.size=some _:=MX (zB2 _ rfl);have g3:(zE s.heap t l).get? (zB s.heap t l).objs.size=some _:=MY (zB2 _ rfl);have g2:(zE s.heap t l).get? (zA s.heap t).objs.size=some _:=MZ (zB2 _ rfl);have g1:(zE s.heap t l).get? s.heap.objs.size=some _:=up1 (zB2 _ rfl);show _/\_;rw [e4,e2,e3] at g5;rw [e2,e1] at g3;rw [e3] at g4;rw [e1] at g2;rw [e4];exact ⟨⟨_,g5,rfl⟩,h _ g5 g3 g4 ⟨_,g1,rfl,rfl⟩ ⟨_,g2,rfl,rfl⟩ fun c o x=>up1 (zAy _ x)⟩
def Itz (K:Frag)(a b:Addr):It :=
 ⟨fun i H=>∃ xs ys x y,SqL K H a xs/\SqT K H b ys/\xs[i]?=some x/\ys[i]?=some y,
  fun i H v H'=>∃ T,H T=none/\v=.ref T/\∀ xs ys,SqL K H a xs->SqT K H b ys->∃ x y,xs[i]?=some x/\ys[i]?=some y/\H'=upd H T (.tup [x,y]),
  fun i H=>∃ xs,SqL K H a xs/\xs.length<=i⟩
def tnz (z TI TO i1 i2 a b:Addr)(i:Nat)(h:Heap):Prop:=IsZip h z TI TO .none/\IsPair h TI (.ref i1) (.ref i2)/\(∃ u v,IsPair h TO u v)/\h.IsListIter i1 a i/\h.IsTupleIter i2 b i
theorem oF {P:Program}{w:World}{K:Frag}{es:List Expr}{k:Nat}{pos:Pos}{z TI TO i1 i2 a b:Addr}(D:ZipApart z TI TO i1 i2 a b) :
  Turn P w K (.Tuple es k pos) (Itz K a b) [z,TI,TO,i1,i2] z (tnz z TI TO i1 i2 a b) where
 mem:=by simp
 obj:=fun i h st c hc=>by
  obtain ⟨s1,s2,⟨u,v,s3⟩,⟨o4,s4,c4,d4⟩,⟨o5,s5,c5,d5⟩⟩:=st;simp only [List.mem_cons,List.not_mem_nil,or_false] at hc;rcases hc with e | e | e | e | e <;> subst e
  ·exact ⟨_,s1,fun v q=>by cases q⟩
  ·exact ⟨_,s2,fun v q=>by cases q⟩
  ·exact ⟨_,s3,fun v q=>by cases q⟩
  ·exact ⟨_,s4,fun v q=>by rw [d4] at q;cases q⟩
  ·exact ⟨_,s5,fun v q=>by rw [d5] at q;cases q⟩
 keep:=fun i h h' st kp=>by
  obtain ⟨s1,s2,⟨u,v,s3⟩,s4,s5⟩:=st;exact ⟨kp z (by simp) _ s1,kp TI (by simp) _ s2,⟨u,v,kp TO (by simp) _ s3⟩,s4.at fun o e=>kp i1 (by simp) o e,s5.at fun o e=>kp i2 (by simp) o e⟩
 item:=by
  intro X hP hw hK hc i pins s σ H E I hf st hg;subst hP hw hK;obtain ⟨s1,s2,⟨u,v,s3⟩,s4,s5⟩:=st;obtain ⟨xs,ys,x,y,fE,oz,hx,hy⟩:=hg;obtain ⟨its,rv,p,_⟩:=I.list fE;obtain ⟨ve,fq,q,_⟩:=I.tuple oz;obtain ⟨ux,om,rx⟩:=rv.get hx;obtain ⟨uy,IB,ry⟩:=fq.get hy;refine uB D s1 s2 s3 s4 s5 p.isList (show s.heap.IsTuple b ve.toArray from q) (x:=ux) (y:=uy) (by simpa using om) (by simpa using IB) fun h1 g1 g2 g3 g4 g5 g6 kp=>?_;refine ⟨_,rfl,?_⟩;refine wpAny_letOwnedTupleGo_zip g1 fun h2 e1 sb=>?_
  have ne:∀ c,c∈[z,TI,TO,i1,i2]->c≠s.heap.objs.size:=fun c ah e=>by
   obtain ⟨f0,f1,f2,f3,f4,f5⟩:=hf c ah
   have:∃ o,s.heap.get? c=some o:=by
    simp only [List.mem_cons,List.not_mem_nil,or_false] at ah;rcases ah with q | q | q | q | q <;> subst q
    ·exact ⟨_,s1⟩
    ·exact ⟨_,s2⟩
    ·exact ⟨_,s3⟩
    ·exact let ⟨o,h,_⟩:=s4;⟨o,h⟩
    ·exact let ⟨o,h,_⟩:=s5;⟨o,h⟩
   obtain ⟨o,ho⟩:=this;exact absurd (zB0 ho) (by rw [e];exact Nat.lt_irrefl _)
  have hT:H s.heap.objs.size=none:=I.hok.fresh (zA3 _)
  have kept:∀ c o,c ∉ [z,TO,i1,i2]->s.heap.get? c=some o->h2.get? c=some o:=fun c o ah e =>
   sb.extBut _ _ (fun q=>ah (by simp [q])) (kp c o (fun q=>ah (by simp [q])) (fun q=>ah (by simp [q])) (fun q=>ah (by simp [q])) (fun q=>ah (by simp [q])) e)
  have vi:∀ c,c∈[z,TO,i1,i2]->c∈[z,TI,TO,i1,i2]:=fun c ah=>by
   simp only [List.mem_cons,List.not_mem_nil,or_false] at ah ⊢;rcases ah with q | q | q | q <;> simp [q]
  have trk:∀ c o,H c=some o->c ∉ [z,TO,i1,i2]:=fun c o e ah=>by
   have:=(hf c (vi c ah)).1;rw [e] at this;cases this
  have gT:h2.get? s.heap.objs.size=some { cls:=.type "tuple",data:=.seq #[ux,uy] }:=sb.extBut _ _ (Ne.symm (ne z (by simp))) g5
  have gX:HOk X.prog X.w (upd H s.heap.objs.size (.tup [x,y])) h2:=fun c o e=>by
   by_cases hb:c=s.heap.objs.size
   ·subst hb;rw [aa] at e;cases e;exact ⟨by show 2<=sizeLine;decide,[ux,uy],.cons rx (.cons ry .nil),_,gT,rfl,_,rfl⟩
   ·rw [az hb] at e
    refine (I.hok c o e).stay (fun d v hd q=>kept d v ?_ q) (fun d q=>by rw [az (au q hT)];exact q) fun d l q=>by rw [az (au q hT)];exact q
    rcases hd with e' | e'
    ·rw [e'];exact trk c o e
    ·exact trk d _ e'
  have I2:Inv X pins σ (upd H s.heap.objs.size (.tup [x,y])) { s with heap:=h2 }:=by
   refine I.step (g':=s.gens) (d':=s.drawn) (t':=s.toks) (ch:=[z,TO,i1,i2]) (fun c ah=>?_) (fun c o _ _ hn e _=>kept c o hn e) (fun c o _ _ hn e _=>⟨o.slots,kept c o hn e⟩)
    (fun c o _ e n=>by rw [az (zB6 (zB0 e))];exact n) (fun c o hn e=>⟨o,kept c o hn e⟩) (fun c l e=>by rw [az (au e hT)];exact e) (fun c o l e=>by rw [az (au e hT)];exact e)
    (fun c l e=>⟨#[],by rw [az (au e hT),e];simp⟩) (fun m hm=>?_) gX I.bare
   ·obtain ⟨f0,f1,f2,f3,f4,f5⟩:=hf c (vi c ah);exact ⟨f3,f1,f4,f5⟩
   ·obtain ⟨o,dQ,ep,ho,r⟩:=hm;refine ⟨o,dQ,ep,kept _ o (fun ah=>?_) ho,r⟩;exact (hf _ (vi _ ah)).2.1 rfl
  refine ⟨.ref s.heap.objs.size,_,I2,rfl,⟨s.heap.objs.size,hT,rfl,fun GV oB mP A5=>⟨x,y,?_,?_,rfl⟩⟩,⟨e1,?_,?_,?_,?_⟩,fun c ah=>?_⟩
  ·rw [I.list_inj mP fE];exact hx
  ·rw [I.tuple_inj A5 oz];exact hy
  ·exact sb.extBut _ _ D.TIz (kp _ _ D.TIz D.TITO D.TIi1 D.TIi2 s2)
  ·exact ⟨_,_,sb.extBut _ _ D.TOz g2⟩
  ·exact g3.extBut sb.extBut D.i1z
  ·exact g4.extBut sb.extBut D.i2z
  ·rw [az (ne c ah)];exact (hf c ah).1
 done:=by
  intro X hP hw hK hc i pins s σ H E I hf st hg;subst hP hw hK;obtain ⟨s1,s2,⟨u,v,s3⟩,s4,s5⟩:=st;obtain ⟨xs,fE,hlen⟩:=hg;obtain ⟨its,rv,p,_⟩:=I.list fE;have hl:=rv.length
  refine vC (I.ok.hd hc) D s1 s2 s3 s4 p.isList (by simp;lia) fun h' kp=>⟨rfl,?_⟩
  refine I.step (h':=h') (H':=H) (g':=s.gens) (d':=s.drawn) (t':=s.toks) (ch:=[z,i1]) (fun c ah=>?_) (fun c o _ _ hn e _=>kp c o (fun q=>hn (by simp [q])) (fun q=>hn (by simp [q])) e)
   (fun c o _ _ hn e _=>⟨o.slots,kp c o (fun q=>hn (by simp [q])) (fun q=>hn (by simp [q])) e⟩) (fun c o _ e n=>n) (fun c o hn e=>⟨o,kp c o (fun q=>hn (by simp [q])) (fun q=>hn (by simp [q])) e⟩)
   (fun _ _ e=>e) (fun _ _ _ e=>e) (fun c l e=>⟨#[],by rw [e];simp⟩) (fun m hm=>?_) (fun c o e=>?_) I.bare
  ·have:c∈[z,TI,TO,i1,i2]:=by
    simp only [List.mem_cons,List.not_mem_nil,or_false] at ah ⊢;rcases ah with q | q <;> simp [q]
   obtain ⟨f0,f1,f2,f3,f4,f5⟩:=hf c this;exact ⟨f3,f1,f4,f5⟩
  ·obtain ⟨o,dQ,ep,ho,r⟩:=hm;exact ⟨o,dQ,ep,kp _ o (Ne.symm (hf z (by simp)).2.1) (Ne.symm (hf i1 (by simp)).2.1) ho,r⟩
  ·have nn:∀ d v c',c'∈[z,TI,TO,i1,i2]->H d=some v->d≠c':=fun d v c' ah q e'=>by
    have:=(hf c' ah).1;rw [<- e',q] at this;cases this
   have nz:∀ d v,H d=some v->d≠z/\d≠i1:=fun d v q=>⟨nn d v z (by simp) q,nn d v i1 (by simp) q⟩
   refine (I.hok c o e).stay (fun d v hd q=>?_) (fun _ q=>q) fun _ _ q=>q;rcases hd with e' | e'
   ·rw [e'] at q ⊢;exact kp c v (nz c o e).1 (nz c o e).2 q
   ·exact kp d v (nz d _ e').1 (nz d _ e').2 q
 self:=fun _ _ _ _ _ st h=>wpAny_pyIter_zip st.1 h
section
variable {X:Cx}
def Gy (K:Frag)(t:TA):TI:=fun σ H R=>t σ H fun vs H1=>∃ a b xs ys,vs=[.ref a,.ref b]/\SqL K H1 a xs/\SqT K H1 b ys/\R (Itz K a b) H1
theorem pi_zip {es:List Expr}{k:Nat}{tp:Pos}{a b:Expr}{ta:TA}{p pos:Pos}(hg:Gl X "zip")(hm:X.mg "zip" = none)(ha:PA X [a,b] ta)(hs:starEach [a,b] X.env=[(false,eval a X.env),(false,eval b X.env)]:=by rfl)(qv:starEach [b] X.env=[(false,eval b X.env)]:=by rfl) :
  PI X (.Tuple es k tp) (.Call (.Name "zip" p) [a,b] [] pos) (Gy X.K ta):=by
 intro pins s σ H R I h;refine Call_ (gU I hg hm boot_zip (PyProof.Rows.callWith_type1 (thn (ha pos pins s σ H _ I h) fun us s1 ⟨vs,H1,I1,r1,q1⟩=>?_) (by rw [hs,qv]) (by rw [qv];rfl)));obtain ⟨x,y,xs,ys,e,hx,hy,q⟩:=q1;subst e;obtain ⟨u,v,rfl,ru,rv⟩:=vals2 r1;cases ru;cases rv;obtain ⟨its,_,p1,_⟩:=I1.list hx;obtain ⟨ve,_,p2,_⟩:=I1.tuple hy;refine uC p1.isList (show s1.heap.IsTuple y ve.toArray from p2) fun h' z1 z2 z3 z4 z5 kp=>?_;refine wpAny_pyIter_zip z1 ?_;have lx:x < s1.heap.objs.size:=by obtain ⟨_,e,_⟩:=p1.isList;exact zB0 e
 have ly:y < s1.heap.objs.size:=by obtain ⟨_,e,_⟩:=(show s1.heap.IsTuple y ve.toArray from p2);exact zB0 e
 refine ⟨_,_,_,_,H1,rfl,I1.kept (t':=s1.toks) kp,oF (zipApart_new lx ly),⟨z1,z2,⟨_,_,z3⟩,z4,z5⟩,fun c hc=>?_,q⟩
 have hle:s1.heap.objs.size<=c:=by
  simp only [List.mem_cons,List.not_mem_nil,or_false] at hc;rcases hc with q | q | q | q | q <;> subst q
  ·exact Nat.le_add_right _ 4
  ·exact Nat.le_add_right _ 2
  ·exact Nat.le_add_right _ 3
  ·exact zA3 _
  ·exact Nat.le_add_right _ 1
 exact I1.fpOk hle (I1.hok.fresh hle)
end
theorem for_zip {K:Frag}{a b:Addr}{xs ys:List V}{g:TG}{tb:TS}{D:Ends}{σ:St}{H:Hp}(Pv:Nat->St->Hp->Prop)(he:xs.length=ys.length)(h0:Pv 0 σ H)(hl:∀ i σ H,i<=xs.length->Pv i σ H->SqL K H a xs/\SqT K H b ys)
  (hs:∀ i x y σ H T,xs[i]?=some x->ys[i]?=some y->Pv i σ H->H T=none->g (.ref T) σ (upd H T (.tup [x,y])) fun aT H2=>tb { D with nx:=Pv (i+1),ct:=Pv (i+1),bk:=D.nx } aT H2) (hd:∀ σ H,Pv xs.length σ H->D.nx σ H) :
  ∃ W:Nat->Nat->St->Hp->Prop,(∃ m,W 0 m σ H)/\∀ i m σ H,W i m σ H ->
   ((Itz K a b).stop i H/\D.nx σ H)\/((Itz K a b).go i H/\∃ N:St->Hp->Prop,(∀ ai H',N ai H'->∃ m',m' < m/\W (i+1) m' ai H')/\∀ x H',(Itz K a b).yld i H x H'->g x σ H' fun aT H2=>tb { D with nx:=N,ct:=N,bk:=D.nx } aT H2):=by
 refine ⟨fun i m σ H=>m=xs.length - i/\i<=xs.length/\Pv i σ H,⟨xs.length,by simp,Nat.zero_le _,h0⟩,?_⟩;rintro i m σ H ⟨rfl,hi,p⟩;obtain ⟨q1,q2⟩:=hl i σ H hi p;by_cases ax:i < xs.length
 ·have vj:i < ys.length:=by lia
  refine .inr ⟨⟨xs,ys,xs[i],ys[i],q1,q2,by simp [ax],by simp [vj]⟩,Pv (i+1),fun ai H' p'=>⟨xs.length - (i+1),by lia,rfl,ax,p'⟩,fun v H' y=>?_⟩;obtain ⟨T,nT,rfl,y⟩:=y;obtain ⟨x,z,ex,ez,rfl⟩:=y xs ys q1 q2;exact hs i x z σ H T ex ez p nT
 ·have e:i=xs.length:=by lia
  subst e;exact .inl ⟨⟨xs,q1,zA3 _⟩,hd σ H p⟩
end L2.ZM
namespace L2
open PySem PySem.Spec PyProof.Rows PySem.Calls
section
open PySem.W
variable {prog:Program}{w:World}{A:Around}{E:Value->Shared->Prop}{s:Shared}
theorem Ej {d:Addr}{o:Obj}{es:Array DictEntry}{ep:Nat}(lo:(d == sysModules)=false)(g2:o.ExactDict)(g3:o.data=.dict es ep):KdlSrc prog w "dict" d d es.size (fun i v=>∃ e,es[i]?=some e/\v=e.key) (fun h=>h.get? d=some o) where
 type:=fun _ hm=>⟨o,hm,g2.1⟩
 there:=fun _ hm=>⟨zB0 hm,zB0 hm⟩
 keep:=fun _ _ hm hk=>hk d (.inl rfl) o hm
 notList:=by decide
 notTuple:=by decide
 hint:=fun _ _ _ _ hm hq=>kdl_hint_dict ⟨o,hm,g2.1⟩ hq
 iter:=fun A s hh hm=>⟨_,fun i h=>h.IsKeyIter s.heap.objs.size d i es.size ep/\h.get? d=some o,(fun _ _ hq=>xm lo hm g2 g3 hq),
  {
   sub:=fun b hb=>by simp at hb;simp [hb]
   frame:=fun _ _ _ st hk=>⟨st.1.at fun o e=>hk _ (by simp) o e,hk d (by simp) _ st.2⟩
   item:=fun i s' Q E hi st hQ=>by
    obtain ⟨e,hx⟩:∃ p,es[i]?=some p:=⟨es[i],by simp [hi]⟩
    refine xn st.1 st.2 g3 hx fun h' IE cw=>?_;exact hQ e.key h' s'.toks ⟨e,hx,rfl⟩ ⟨IE,cw.extBut _ _ (Nat.ne_of_lt (Heap.lt_size hm)) st.2⟩ fun b o hb e=>cw.extBut b o (fun h=>hb (by simp [h])) e
   done:=fun s' Q E st hQ=>Bk hh st.1 st.2 g3 (Nat.le_refl _) fun h' rj=>hQ h' s'.toks fun b o hb e=>rj b o (fun h=>hb (by simp [h])) e
   self:=fun _ _ _ _ st hQ=>wpAny_pyIter_keyiter st.1 hQ },⟨⟨_,zB2 _ rfl,rfl,rfl⟩,zAy _ hm⟩⟩
theorem uD {T:String}{r d:Addr}{n:Nat}{P:Nat->Value->Prop}{OK:Heap->Prop}{R:List Value->Shared->Prop}(K:KdlSrc prog w T r d n P OK)(hh:A.handled=none)(hok:OK s.heap)(hn:n<=sizeLine)
  (h:∀ h' tk acc,(∀ b o,s.heap.get? b=some o->h'.get? b=some o)->s.heap.objs.size < h'.objs.size->ItemsOf P acc n->R acc.toList { s with heap:=h',toks:=tk }):wpAny (model prog w) A (collect (.ref r)) R E s:=by
 obtain ⟨l1,l2⟩:=K.there _ hok
 obtain ⟨S,eS⟩:∃ S,S=s.heap.objs.size:=⟨_,rfl⟩
 obtain ⟨g,eg⟩:∃ g,g=s.heap.push { cls:=.type "list",data:=.seq ([]:List Value).toArray }:=⟨_,rfl⟩
 have atS:g.get? S=some { cls:=.type "list",data:=.seq #[] }:=by rw [eg,eS];exact zB2 _ rfl
 have ext:=kdl_extend (A:=A) (s:={ s with heap:=g })
  (R:=fun q s'=>∃ h' tk acc,q=Except.ok (.ret (.ref S))/\s'={ s with heap:=h',toks:=tk }/\(∀ b o,s.heap.get? b=some o->h'.get? b=some o)/\(∃ c,h'.get? S=some { cls:=.type "list",dict:=none,data:=.seq acc c,slots:=#[] })/\ItemsOf P acc n)
  K hh (K.keep _ _ hok fun b _ o e=>by rw [eg];exact zAy _ e) S (by rw [eS];exact Nat.ne_of_gt l1) (by rw [eS];exact Nat.ne_of_gt l2) (.ref S) 0 atS
  (fun h' tk acc c kp at' it=>⟨h',tk,acc,rfl,rfl,fun b o e=>kp b o (by rw [eS];exact zB6 (zB0 e)) (by rw [eg];exact zAy _ e),⟨c,at'⟩,it⟩) hn
 unfold collect;refine zAv (wpAny_runValue (codeAny_builtin entry_proto_collect' ?_));rw [Around.under_plainId PySem.F.plain_proto_collect _];show wpAny _ A.in1 (newList [] >>= fun l=>again (.builtin "list.__iadd__" ⟨[l,.ref r],[]⟩)) _ _ s;refine zAv (wpAny_newObj_type (zB1 ⟨plainId_quiet PySem.F.plain_list_iadd _,codeAny_builtin entry_list_iadd' ?_⟩));rw [Around.under_plainId PySem.F.plain_list_iadd _];show wpAny _ A.in1 (Builtin.List.listExtendWith (.ref s.heap.objs.size) (.ref r) (.ref s.heap.objs.size)) _ _ { s with heap:=s.heap.push { cls:=.type "list",data:=.seq ([]:List Value).toArray } };rw [<- eS,<- eg];refine wpAny_mono ext (fun fin s' x=>?_) fun e s' x=>?_
 ·cases fin with
  | done f =>
   obtain ⟨h',tk,acc,e,rfl,kp,at',it⟩:=x;cases e;obtain ⟨c,at'⟩:=at';refine zAv (wpAny_load at' (zB1 (h h' tk acc kp (by rw [<- eS];exact zB0 at') it)))
  | again c₁ =>
   refine ⟨x.1,codeAny_mono x.2 fun q s₂ y=>?_⟩;obtain ⟨h',tk,acc,rfl,rfl,kp,⟨c,at'⟩,it⟩:=y;refine zAv (wpAny_load at' (zB1 (h h' tk acc kp (by rw [<- eS];exact zB0 at') it)))
 ·obtain ⟨_,_,_,e',_⟩:=x;cases e'
theorem Bl {T:String}{r d:Addr}{n:Nat}{P:Nat->Value->Prop}{OK:Heap->Prop}{Q:Value->Shared->Prop}{R:List Value->List Value->Prop}(K:KdlSrc prog w T r d n P OK)(hh:A.handled=none)(hok:OK s.heap)(hn:n<=sizeLine)
  (small:∀ vs:List Value,vs.length=n->(∀ j v,vs[j]?=some v->P j v)->vs.length < 2->R vs vs)
  (big:∀ vs:List Value,vs.length=n->(∀ j v,vs[j]?=some v->P j v)->2<=vs.length->∀ g tk,(∀ b o,s.heap.get? b=some o->g.get? b=some o)->wpAny (model prog w) A.in1.in1 (keyKind' vs.toArray) (fun κ s1=>s1={ s with heap:=g,toks:=tk } /\
    wpS (model prog w) A.in1.in1 (fun _ _=>False) { s with heap:=g,toks:=tk } sortRuns' (fun _ st=>failedOf st=none/\∃ out,(arrOf st).map (·.2)=List.toArray out/\R vs out) (SortSt.mk' κ (vs.toArray.zip vs.toArray) #[] 7 none)) (fun _ _=>False) { s with heap:=g,toks:=tk })
  (len:∀ vs out,vs.length=n->R vs out->out.length=vs.length)
  (fin:∀ vs out,R vs out->∀ D h2 c tk,s.heap.objs.size<=D->(∀ b o,s.heap.get? b=some o->h2.get? b=some o)->h2.get? D=some (seqObj "list" out.toArray c)->Q (.ref D) { s with heap:=h2,toks:=tk }) :
  wpAny (model prog w) A (call (.builtin "sorted") [.ref r]) Q E s:=by
 refine call_function_entry kind_sorted plain_sorted entry_sorted (args_sorted1 _) ?_;unfold Builtin.«sorted»;refine zAv (m:=checkCount "sorted" 1 1 _) (zB1 ?_);refine zAv (uD (A:=A.in1) K hh hok hn fun h' tk acc hk hsz nX=>?_);have lv:acc.toList.length=n:=by rw [zA9];exact nX.1
 have hP:∀ j v,acc.toList[j]?=some v->P j v:=fun j v e=>nX.2 j v (by rw [<- Array.getElem?_toList];exact e);generalize acc.toList=vs at lv hP;have fits:vs.length<=sizeLine:=by rw [lv];exact hn
 refine zAv (wpAny_newList ?_ fits)
 obtain ⟨g1,ot⟩:∃ g1,g1=h'.push (seqObj "list" vs.toArray 0):=⟨_,rfl⟩
 obtain ⟨D,eD⟩:∃ D,D=h'.objs.size:=⟨_,rfl⟩
 have nc:g1.get? D=some (seqObj "list" vs.toArray 0):=by rw [ot,eD];exact zB2 _ rfl
 have Ic:∀ b o,s.heap.get? b=some o->g1.get? b=some o:=fun b o q=>by rw [ot];exact zAy _ (hk b o q)
 have hD:s.heap.objs.size<=D:=by
  rw [eD];exact Nat.le_of_lt hsz
 show wpAny _ _ _ _ _ { s with toks:=tk,heap:=h'.push (seqObj "list" vs.toArray 0) };rw [<- eD,<- ot];refine zAv (wpAny_holding (wpAny_call_entry slot_list_sort ⟨_,nc,rfl⟩ entry_list_sort ?body (args_list_sort _)))
 have apart:∀ b o,s.heap.get? b=some o->b≠D:=fun b o q e=>by
  have lt:b < h'.objs.size:=zB0 (hk b o q);rw [e,eD] at lt;exact absurd lt (Nat.lt_irrefl _)
 obtain ⟨g2,uS⟩:∃ g2,g2=g1.update D (Obj.mapSeq fun _=>(#[]:Array Value)):=⟨_,rfl⟩
 have Iq:Heap.SameBut D g1 g2:=uS ▸ Heap.SameBut.update g1 D _
 obtain ⟨e1,at2⟩:∃ e1,g2.get? D=some (seqObj "list" #[] e1):=⟨_,uS ▸ get?_update_seq nc fun _=>#[]⟩
 obtain ⟨g3,u7⟩:∃ g3,g3=(g2.push (seqObj "tuple" vs.toArray 0)).push (seqObj "list" #[] 0):=⟨_,rfl⟩
 have ki:g3.get? D=some (seqObj "list" #[] e1):=u7 ▸ Heap.get?_push_of_some _ (Heap.get?_push_of_some _ at2);have va:∀ b o,s.heap.get? b=some o->g3.get? b=some o:=fun b o q=>u7 ▸ Heap.get?_push_of_some _ (Heap.get?_push_of_some _ ((Iq.2 b (apart b o q)).trans (Ic b o q)));rw [list_sort_plain];refine wpAny_bind (listItems_at nc rfl (wpAny_bind (listUpdate_at nc rfl ?_ (by rw [zA8];exact fits) (zAp _))));rw [<- uS];refine wpAny_bind (seqEpoch_at at2 rfl (wpAny_bind (wpAny_newTuple (wpAny_bind (wpAny_newList (wpAny_holding ?_) (zAp _))) fits)));show wpAny (model prog w) A.in1.in1 _ _ _ { s with toks:=tk,heap:=(g2.push (seqObj "tuple" vs.toArray 0)).push (seqObj "list" #[] 0) };rw [<- u7];dsimp only;by_cases two:vs.toArray.size < 2
 ·have hU:vs.length < 2:=by rw [zA8] at two;exact two
  rw [if_pos two,if_pos two];refine wpAny_bind (wpAny_pure ?_);show wpAny _ _ (do let r <- (pure ((),SortSt.mk' general' (vs.toArray.zip vs.toArray) #[] 7 none):Sem (Unit×SortSt));_) _ _ _;refine wpAny_bind (wpAny_pure ?_);dsimp only
  have em:(vs.toArray.zip vs.toArray).map (·.2)=vs.toArray:=by
   apply Array.toList_inj.mp;simp only [Array.toList_map,Array.toList_zip];exact List.map_snd_zip (zA3 _)
  rw [em];refine wpAny_bind (seqEpoch_at ki rfl (wpAny_bind (listUpdate_at ki rfl ?_ (zAp _) (by rw [zA8];lia))));simp only [bne_self_eq_false,Bool.false_eq_true,if_false];have vb:=Heap.SameBut.update g3 D (Obj.mapSeq fun _=>vs.toArray);exact wpAny_pure ⟨_,rfl,wpAny_pure ⟨_,rfl,fin vs vs (small vs lv hP hU) D _ _ tk hD (fun b o z=>(vb.2 b (apart b o z)).trans (va b o z)) (get?_update_seq ki _)⟩⟩
 ·have hU:2<=vs.length:=by rw [zA8] at two;lia
  rw [if_neg two,if_neg two];refine wpAny_bind (wpAny_mono (big vs lv hP hU g3 tk va) (fun κ s1 ⟨kg,run⟩=>?_) fun _ _ x=>x.elim);subst kg;refine wpAny_bind (wpAny_mono run ?_ fun _ _ x=>x.elim);rintro ⟨⟨⟩,st⟩ s2 ⟨Iy,A4,out,l7,hR⟩;subst Iy;dsimp only at A4 l7 ⊢;rw [l7];refine wpAny_bind (seqEpoch_at ki rfl (wpAny_bind (listUpdate_at ki rfl ?_ (zAp _) (by rw [zA8,len vs out lv hR];lia))));rw [A4];simp only [bne_self_eq_false,Bool.false_eq_true,if_false];have vb:=Heap.SameBut.update g3 D (Obj.mapSeq fun _=>out.toArray);exact wpAny_pure ⟨_,rfl,wpAny_pure ⟨_,rfl,fin vs out hR D _ _ tk hD (fun b o z=>(vb.2 b (apart b o z)).trans (va b o z)) (get?_update_seq ki _)⟩⟩
end
section
variable {X:Cx}
def lD (H:Hp)(a:Addr):List Int:=match H a with
 | some (.tup xs)=>xs.map fun v=>match v with
  | .int i=>i
  | _=>0
 | _=>[]
theorem xx {H:Hp}{a:Addr}{r:List Int}(e:H a=some (.tup (r.map V.int))):lD H a=r:=by
 unfold lD;rw [e];show (r.map V.int).map _=r;rw [zAr];exact List.map_id r
theorem pO (hc:X.calm=true):dJ X (.builtin "sorted") (fun xs H Q=>∃ (d:Addr) (kvs:List (List Key×V)) (rk:List Key->List Int),xs=[.ref d]/\H d=some (.dT kvs)/\(∀ p∈kvs,p.1=(rk p.1).map Sum.inl/\rk p.1≠[]) /\
  ∀ (q:Addr) (l':List Addr) (row:Addr->List Int),H q=none->(l'.map row).Perm (kvs.map fun p=>rk p.1)->l'.Pairwise (fun a b=>HT.lexLt (row b) (row a)=false)->(∀ a∈l',H a=some (.tup ((row a).map V.int)))->Q (.ref q) (upd H q (.lst (l'.map V.ref)))):=by
 intro pins s σ H xs us Q I r h;obtain ⟨d,kvs,rk,rfl,hd,hk,q⟩:=h;obtain ⟨u,rfl,ru⟩:=vals1 r;cases ru
 obtain ⟨hz,lo,xs,kt,o,es,ep,g1,g2,g3,g4,g5⟩:=(show ObjOk X.prog X.w H s.heap d (.dT kvs) from I.hok _ _ hd)
 have kt:KT H kvs xs:=kt;have hsz:es.size=kvs.length:=qG kt g4;have lx:=kt.len
 obtain ⟨l,el⟩:∃ l:List Addr,l=xs.map (·.2.1):=⟨_,rfl⟩
 have key:∀ (j:Nat) (hj:j < kvs.length),∃ b,l[j]?=some b/\H b=some (.tup ((rk kvs[j].1).map V.int))/\rk kvs[j].1≠[]/\∀ v,(∃ e,es[j]?=some e/\v=e.key)->v=Value.ref b:=fun j hj=>by
  obtain ⟨b,u,ex,eb⟩:=kt.get (k:=kvs[j].1) (v:=kvs[j].2) (zA0 hj);obtain ⟨e1,e2⟩:=hk kvs[j] (zAh hj);have ee:es[j]?=some (entryOfKey (tupleKind (cA X.prog X.w)) (kvs[j].1,b,u)):=by rw [entry_at g4,ex];rfl
  refine ⟨b,by rw [el,zAb,ex];rfl,?_,e2,fun v hv=>?_⟩
  ·rw [eb]
   have:kvs[j].1.map kV=(rk kvs[j].1).map V.int:=by
    conv=>lhs;rw [e1]
    rw [zAr];rfl
   rw [this]
  ·obtain ⟨e,he,rfl⟩:=hv;rw [ee] at he;cases he;rfl
 have ll:l.length=kvs.length:=by rw [el,zA1,lx]
 have hl:∀ a∈l,H a=some (.tup ((lD H a).map V.int))/\lD H a≠[]:=fun a ha=>by
  obtain ⟨j,hj,e⟩:=List.getElem_of_mem ha;obtain ⟨b,h1,h2,h3,_⟩:=key j (by lia);rw [zA0 hj,e] at h1;cases h1;rw [xx h2];exact ⟨h2,h3⟩
 have A6:l.map (lD H)=kvs.map fun p=>rk p.1:=by
  refine List.ext_getElem? fun j=>?_;by_cases hj:j < kvs.length
  ·obtain ⟨b,h1,h2,_⟩:=key j hj;rw [zAb,h1,zAb,zA0 hj];show some (lD H b)=some (rk kvs[j].1);rw [xx h2]
  ·rw [List.getElem?_eq_none (by rw [zA1];lia),List.getElem?_eq_none (by rw [zA1];lia)]
 have vals:∀ vs:List Value,vs.length=es.size->(∀ (j:Nat) (v:Value),vs[j]?=some v->∃ e:DictEntry,es[j]?=some e/\v=e.key)->vs=l.map Value.ref:=fun vs h1 h2=>by
  refine List.ext_getElem? fun j=>?_;by_cases hj:j < kvs.length
  ·obtain ⟨b,e1,_,_,e2⟩:=key j hj;have hv:j < vs.length:=by lia
   rw [zAb,e1,zA0 hv];exact congrArg some (e2 _ (h2 j _ (zA0 hv)))
  ·rw [List.getElem?_eq_none (by lia),List.getElem?_eq_none (by rw [zA1];lia)]
 have obj:∀ a∈l,∃ (us:List Value) (o:Obj) (n:Nat),s.heap.get? a=some o/\o.cls=.type "tuple" /\ o.data=.seq us.toArray n/\Vals ((lD H a).map V.int) us/\lD H a≠[]:=fun a ha=>by
  obtain ⟨ht,fA⟩:=hl a ha;obtain ⟨as,ra,pa,_⟩:=I.tuple (SqT.of ht);obtain ⟨oa,ga,ca,na,da⟩:=pa;exact ⟨as,oa,na,ga,ca,da,ra,fA⟩
 refine Bl (R:=fun _ out=>∃ l':List Addr,out=l'.map Value.ref/\l'.Perm l/\l'.Pairwise fun a b=>HT.lexLt (lD H b) (lD H a)=false) (Ej lo g2 g3) (I.ok.hd hc) g1 (by rw [hsz];exact hz) (fun vs h1 h2 hs=>⟨l,vals vs h1 h2,.refl _,?_⟩) (fun vs h1 h2 hb g tk kp=>?_) (fun vs out hv ⟨l',e,pm,_⟩=>by rw [e,zA1,pm.length_eq,ll,hv,hsz]) fun vs out ⟨l',e,pm,pw⟩ D h2 c tk hD kp2 at2=>?_
 ·exact uA (by lia)
 ·have ev:=vals vs h1 h2;subst ev
  have l9:∀ a∈l,∃ (us:List Value) (o:Obj) (n:Nat),g.get? a=some o/\o.cls=.type "tuple" /\ o.data=.seq us.toArray n/\Vals ((lD H a).map V.int) us/\lD H a≠[]:=fun a ha=>by
   obtain ⟨us,o,n,h1,h2⟩:=obj a ha;exact ⟨us,o,n,kp _ _ h1,h2⟩
  refine xj (s:={ s with heap:=g,toks:=tk }) l9 (by rw [zA1] at hb;lia) ?_;refine ⟨rfl,qD (s:={ s with heap:=g,toks:=tk }) l9 fun st l' e1 e2 e3 e4=>⟨e1,l'.map Value.ref,e2,l',rfl,e3,e4⟩⟩
 ·subst e;refine ⟨.ref D,_,I.laid (t':=tk) kp2 hD (show ObjOk X.prog X.w _ h2 _ (.lst (l'.map V.ref)) from ⟨by rw [zA1,pm.length_eq,ll];exact hz,_,c,su l',at2⟩),rfl,q D l' (lD H) (I.hok.fresh hD) ?_ pw fun a ha=>(hl a (pm.mem_iff.mp ha)).1⟩;rw [<- A6];exact pm.map _
end
inductive RRepNI (x:V)(y:V)(H:Hp)(Q:VK):Prop
 | mk:∀ l k xs,(x=.ref l)->(y=.int k)->(H l=some (.lst xs))->(-(2 ^ 63)<=k)->(k < 2 ^ 63)->(xs.length * k.toNat<=sizeLine)->(∀ p,H p=none->p≠sysModules->Q (.ref p) (upd H p (.lst (List.replicate k.toNat xs).flatten)))->RRepNI  x y H Q
def Iz:R2:=fun x y H Q=>RRepNI  x y H Q
theorem xF {X:Cx}:OpR X (binaryOp .Mult) Iz:=by
 intro pins s σ H x y v u Q I rx ry h;obtain ⟨l,k,xs,rfl,rfl,hH,h1,h2,hz,q⟩:=h;cases rx;obtain ⟨t,rfl⟩:=ry;obtain ⟨z,its,n,r,hl,e⟩:=I.lstM hH;have hlen:its.toArray.size * k.toNat<=sizeLine:=by rw [zA8,<- hl];exact hz
 have tI:¬ its.toArray.size * k.toNat > (2 ^ 63 - 1) / 8:=by
  have:(sizeLine:Nat)<=(2 ^ 63 - 1) / 8:=by decide
  lia
 have tJ:¬ (!Builtin.List.listFitsIndex k)=true:=by
  rw [fitsIndex_both h1 h2];exact zAg
 have dS:¬ Builtin.List.listTooLong (its.toArray.size * k.toNat)=true:=by
  rw [jG hlen];exact zAg
 have tN:List.foldl (fun x1 x2=>x1++x2) #[] (List.replicate (if its.toArray.isEmpty=true then 0 else k.toNat) its.toArray)=(List.replicate k.toNat its).flatten.toArray:=by
  have f0:∀ m:Nat,List.foldl (fun x1 x2=>x1++x2) #[] (List.replicate m its.toArray)=(List.replicate m its).flatten.toArray:=fun m=>by
   have:=foldl_rep its m [];rw [List.nil_append] at this;exact this
  rw [f0]
  cases its with
  | nil=>simp
  | cons a r'=>rw [if_neg (by simp)]
 refine wpAny_binaryOp_repeat_ref (T:="list") (U:="int") (by decide) ⟨_,e,rfl⟩ (fun s'=>typeIs_int s' k t) noFill_list_mul F.fills_int_mul F.slot_int_rmul repeat_list F.slot_int_index.lookup
  (call_meets F.slot_int_rmul (typeIs_int s k t) F.entry_int_rmul (F.args_int_rmul_2 _ _) (int___rmul___int_list k t l its.toArray n)
   ⟨e,rfl,⟨_,e,rfl⟩,call_meets F.slot_list_mul ⟨_,e,rfl⟩ F.entry_list_mul (F.args_list_mul_2 _ _) (AutoListH.list___mul___list_int_3 l its.toArray n k t tJ tI dS) ⟨e,?_⟩⟩)
 rw [tN];exact ⟨.ref _,_,I.lnew (t':=s.toks) (r.rep k.toNat) (by rw [len_rep,Nat.mul_comm];exact hz),rfl,q _ I.fresh (Nat.ne_of_gt I.big)⟩
theorem lZ {M:Model}{A:Around}{Q:Value->Shared->Prop}{E:Value->Shared->Prop}{s:Shared}(h:wpAny M A (newList []) Q E s):wpAny M A (newList []) (fun v s'=>v=.ref s.heap.objs.size/\Q v s') E s:=by
 intro Γ p mS;exact ⟨rfl,h Γ p mS⟩
def Bm (wi:TI)(src:List (Option Nat))(g:TG)(tt:TT)(te:TE):TE:=fun σ H Q=>wi σ H fun J H1=>jm J g tt te (fun ys H'=>∀ D,H' D=none->D≠sysModules->Q (.ref D) (upd H' D (.lst ys))) (capσ σ src) H1
section
variable {X:Cx}{tg iter elt:Expr}{ifs:List Expr}{scope:Scope}{pos:Pos}{Nc:List Str}{wi:TI}{g:TG}{tt:TT}{te:TE}
theorem Bo (Nc:List Str)(src:List (Option Nat))(hc:X.calm=true)(hi:PI X tg iter wi)
  (hb:∀ C fp pins s₂ H₂,PG (cxC X scope Nc C fp pins s₂ H₂) tg g/\PTs (cxC X scope Nc C fp pins s₂ H₂) ifs tt/\PE (cxC X scope Nc C fp pins s₂ H₂) elt te)
  (cv:∀ C,Caps X (compEnvC scope (fX X.env.cells scope.names []) C X.env) Nc src) (S:CScope X scope)
  (hs:∀ x,foldedSetIterable iter X.env x=pure x:=by intro _;rfl):PE X (.ListComp elt [⟨tg,iter,ifs,0⟩] scope pos) (Bm wi src g tt te):=by
 intro pins s σ H Q I h;rw [eval_ListComp];refine wpAny_comprehension_free (use:=none) rfl hs (mH S.hfree) S.kind S.hnames ?_;refine thn (hi pins s σ H _ I h) fun v s1 h1=>thn h1 fun xE s2 h2=>?_;obtain ⟨it,fp,tn,J,H2,e,I2,T,st2,f2,hW⟩:=h2;subst e;have big:=I2.big
 have key:=lZ (j8 (iter:=iter) (pos:=pos) (E:=X.xe) (RR:=fun acc C r s'=>acc≠.ref sysModules->compPost (model X.prog X.w) X.A X.xe none (EP X pins σ Q) acc C r s') hc S cv hb I2 T st2 f2 hW (fun D C s' ys H' m fin nD J' hn fC ne=>by
  obtain ⟨f0,f1,_,f3,f4,f5⟩:=fC;refine ⟨m,hn,fun GH gS=>?_⟩
  exact ⟨.ref D,_,J'.turned (t':=s'.toks) (fun b o hb e=>gS.extBut b o hb e) f0 f1 f3 f4 f5,rfl,fin D nD fun z=>ne (by rw [z])⟩))
 refine wpAny_mono key (fun acc s3 ⟨ea,hq⟩=>?_) fun _ _ x=>x
 have ne:acc≠.ref sysModules:=fun z=>by
  rw [ea] at z;injection z with z;exact absurd z (Nat.ne_of_gt big)
 have er:(fun (C:Addr) (r:Result) (s':Shared)=>acc≠.ref sysModules->compPost (model X.prog X.w) X.A X.xe none (EP X pins σ Q) acc C r s')=compPost (model X.prog X.w) X.A X.xe none (EP X pins σ Q) acc:=by
  funext C r s';exact propext ⟨fun z=>z ne,fun z _=>z⟩
 have A7:=hq;simp only [ne,ne_eq,not_false_eq_true,forall_const] at A7;exact A7
end
def Ek (wi:TI)(src:List (Option Nat))(g:TG)(tt:TT)(te:TE)(i:Nat):TS:=fun D σ H=>Bm wi src g tt te σ H fun v H'=>D.nx (σ.set i (some v)) H'
section
variable {X:Cx}{tg iter elt:Expr}{ifs:List Expr}{scope:Scope}{pos:Pos}{Nc:List Str}{wi:TI}{g:TG}{tt:TT}{te:TE}
theorem Bp {i:Nat}{x:Str}{pos' lh:Pos}(Nc:List Str)(src:List (Option Nat))(hc:X.calm=true)(hN:X.N.Nodup)(fx:X.N[i]?=some x)(hx:Loc X.env.scope x)(hi:PI X tg iter wi)
  (hb:∀ C fp pins s₂ H₂,PG (cxC X scope Nc C fp pins s₂ H₂) tg g/\PTs (cxC X scope Nc C fp pins s₂ H₂) ifs tt/\PE (cxC X scope Nc C fp pins s₂ H₂) elt te)
  (cv:∀ C,Caps X (compEnvC scope (fX X.env.cells scope.names []) C X.env) Nc src) (S:CScope X scope)
  (GI:swapsWith (.ListComp elt [⟨tg,iter,ifs,0⟩] scope pos) (some (.Name x pos')) lh.line X.env=pure true:=by rfl)
  (hf:X.fn x=true\/X.env.scope.names.lookup x=some .local:=by first | exact .inl rfl | exact .inr rfl | assumption)
  (hs:∀ x,foldedSetIterable iter X.env x=pure x:=by intro _;rfl):PS X (.Assign [.Name x pos'] (.ListComp elt [⟨tg,iter,ifs,0⟩] scope pos) lh) (Ek wi src g tt te i):=by
 intro pins s σ H D I h;rw [exec_Assign_Name_used _ _ _ _ GI];refine zAv (wpAny_standAt (zAv ?_));show wpAny _ _ (do let _ <- comprehension (.ListComp elt [⟨tg,iter,ifs,0⟩] scope pos) scope X.env _ (newList []) false (eval iter X.env) (some (assign (.Name x pos') X.env))) _ _ s;refine zAv (thn (wpAny_comprehension_free (use:=some (assign (.Name x pos') X.env)) (Q:=fun _ s'=>∃ ai H',Inv X pins ai H' s'/\D.nx ai H') rfl hs (mH S.hfree) S.kind S.hnames ?_) fun _ s' hq=>zB1 (zB1 hq));refine thn (hi pins s σ H _ I h) fun v s1 h1=>thn h1 fun xE s2 h2=>?_;obtain ⟨it,fp,tn,J,H2,e,I2,T,st2,f2,hW⟩:=h2;subst e;have big:=I2.big
 have key:=lZ (j8 (iter:=iter) (pos:=pos) (E:=X.xe) (RR:=fun acc C r s'=>acc≠.ref sysModules->compPost (model X.prog X.w) X.A X.xe (some (assign (.Name x pos') X.env)) (fun _ s'=>∃ ai H',Inv X pins ai H' s'/\D.nx ai H') acc C r s') hc S cv hb I2 T st2 f2 hW (fun A C s' ys H' m fin nD J' hn fC ne=>by
  obtain ⟨f0,f1,Px,f3,f4,f5⟩:=fC;refine wpAny_assign_Name (kY J' hN fx hx (v:=.ref A) rfl (fun nL GL GN=>?_) hf)
  have jv:∃ m',nL.heap.Ns C m':=by
   obtain ⟨a,sb,ha⟩:=GN
   have fA:C≠a:=by
    rcases ha with z | z
    ·rw [z];exact f1
    ·exact fun q=>f4 x a z q.symm
   exact ⟨m,hn.sameBut sb fA⟩
  obtain ⟨m',jv⟩:=jv;refine ⟨m',jv,fun GH gS=>?_⟩
  exact ⟨_,_,GL.turned (t':=nL.toks) (fun b o hb e=>gS.extBut b o hb e) f0 f1 f3 f4 f5,fin A nD fun z=>ne (by rw [z])⟩))
 refine wpAny_mono key (fun acc s3 ⟨ea,hq⟩=>?_) fun _ _ x=>x
 have ne:acc≠.ref sysModules:=fun z=>by
  rw [ea] at z;injection z with z;exact absurd z (Nat.ne_of_gt big)
 have A7:=hq;simp only [ne,ne_eq,not_false_eq_true,forall_const] at A7;exact A7
end
end L2
namespace K61
open PySem L2
def top (i:Nat):Stmt:=PySem.Challenge.pw_woolyears_k61_sheep_die.main.body.getD i (.Pass ⟨0,0,0,0⟩)
def dz (d:PyData):Bool:=rM d && !rN d
def items:PyData->List PyData
 | .tuple ds=>ds
 | _=>[]
def intOf:PyData->Int
 | .int i=>i
 | _=>0
def bG (d:PyData)(f m:Int):Bool:=rO d && (decide (f<=(items d).length) && decide (((items d).length:Int)<=m))
def bH (d:PyData)(n:Int):Bool:=bG d n n && (items d).all dz
def qH (d:PyData):Bool:=bH d 3 && (items d).all fun x=>decide (0<=intOf x) && decide (intOf x<=999)
def fZ (d:PyData):Bool:=bG d 1 20 && (items d).all qH
def at_ (d:PyData)(i:Nat):Int:=intOf ((items d).getD i .none)
def sI (a b c d e f:Int):Bool :=
 (decide (0<=a) && decide (a < 8)) && ((decide (0<=b) && decide (b < 3)) && ((decide (0<=c) && (decide (c<=d) && decide (d<=19))) && ((decide (1<=e) && decide (e<=99)) && (decide (0<=f) && decide (f<=1000000)))))
def jT (d:PyData):Bool:=bH d 6 && sI (at_ d 0) (at_ d 1) (at_ d 2) (at_ d 3) (at_ d 4) (at_ d 5)
def fc (d:PyData):Bool:=bG d 0 10 && (items d).all jT
theorem nd1 (x:Str):([x]:List Str).Nodup:=by simp
theorem Bq (d:PyData):1<=sz d:=by cases d <;> simp [sz]
theorem sJ:∀ (ds:List PyData),ds.length<=szs ds
 | []=>zAp _
 | d::ds=>by
  have:=sJ ds;have:=Bq d;simp only [List.length_cons,szs];lia
theorem sO:∀ {ds:List PyData} {d:PyData},d∈ds->sz d<=szs ds
 | x::ds,d,h=>by
  simp only [szs];rcases zAo.mp h with e | e
  ·rw [e];lia
  ·have:=sO e;lia
theorem jU {ds:List PyData}{d:PyData}(h:d∈ds)(hz:sz (.tuple ds)<=4000):sz d<=4000:=by
 have:=sO h;simp only [sz] at hz;lia
theorem gb {S:Addr->Prop}{H:Hp}{xs:List V}{ds:List PyData}(r:IsThs S H xs ds)(hz:sz (.tuple ds)<=4000):xs.length < sizeLine:=by
 have:=sJ ds;have:=r.length;simp only [sz] at hz;rw [sizeLine_eq];lia
def spT (f:PyData->Bool):Sp:=fun vs H Q _=>∃ S v d,vs=[v]/\IsTh S H v d/\sz d<=4000/\∀ H',Same H H'->Q (.bl (f d)) H'
inductive SpT1I (f:PyData->Int->Bool)(vs:List V)(H:Hp)(Q:VK):Prop
 | mk:∀ S v d n,(vs=[v,.int n])->(IsTh S H v d)->(sz d<=4000)->(∀ H',Same H H'->Q (.bl (f d n)) H')->SpT1I f vs H Q
def El (f:PyData->Int->Bool):Sp:=fun vs H Q _=>SpT1I f vs H Q
def lE (f:PyData->Int->Int->Bool):Sp:=fun vs H Q _=>∃ S v d n m,vs=[v,.int n,.int m]/\IsTh S H v d/\sz d<=4000/\∀ H',Same H H'->Q (.bl (f d n m)) H'
structure Mg (mg:Str->Option Value):Prop where
 isinstance:mg "isinstance" = none
 int:mg "int" = none
 bool:mg "bool" = none
 tuple:mg "tuple" = none
 len:mg "len" = none
 all:mg "all" = none
theorem boot_int:bootBuiltins "int" = some (.type "int"):=by decide +kernel
theorem boot_bool:bootBuiltins "bool" = some (.type "bool"):=by decide +kernel
theorem boot_tuple:bootBuiltins "tuple" = some (.type "tuple"):=by decide +kernel
theorem boot_isinstance:bootBuiltins "isinstance" = some (.builtin "isinstance"):=by decide +kernel
theorem boot_all:bootBuiltins "all" = some (.builtin "all"):=by decide +kernel
theorem dG {K:Frag}{S:Addr->Prop}{te:TE}{src:List (Option Nat)}{i j:Nat}{σ:St}{H:Hp}{Q:VK}{a:Addr}{xs:List V}{ds:List PyData}(f:PyData->Bool)(iL:σ[i]?=some (some (.ref a)))(ea:H a=some (.tup xs))(r:IsThs S H xs ds)(hl:xs.length < sizeLine)
  (oj:∀ v d H1 Q1,d∈ds->Same H H1->IsTh S H1 v d->(∀ H',Same H1 H'->Q1 (.bl (f d)) H')->te ((capσ σ src).set j (some v)) H1 Q1) (q:∀ H',Same H H'->Q (.bl (ds.all f)) H') :
  tCB (fun xs H Q=>∃ (p:Addr) (bs:List Bool),xs=[.ref p]/\SqL K H p (bs.map V.bl)/\Q (.bl (bs.all id)) H) (tR (An (Ht K (Dq i)) src (bw j) tX te) Gf) σ H Q:=by
 refine ⟨_,iL,a,rfl,⟨xs,SqT.of ea⟩,ul (j:=j) f ea r hl oj fun H2 s2 D hD=>⟨D,ds.map f,rfl,?_,?_⟩⟩
 ·rw [<- Av];exact SqL.of aa
 ·rw [Gs];exact q _ (s2.updR hD)
structure Nums (mg:Str->Option Value):Prop where
 sorts:∃ t,mg "SORTS" = some (.int 3 t)
 holders:∃ t,mg "HOLDERS" = some (.int 8 t)
 year:∃ t,mg "LAST_YEAR" = some (.int 19 t)
 clips:∃ t,mg "MOST_CLIPS" = some (.int 20 t)
 proms:∃ t,mg "MOST_PROMISES" = some (.int 10 t)
 wool:∃ t,mg "MOST_WOOL" = some (.int 999 t)
 sacks:∃ t,mg "MOST_SACKS" = some (.int 99 t)
 price:∃ t,mg "MOST_PRICE" = some (.int 1000000 t)
theorem lF {d:PyData}{n:Int}(h:bH d n=true):bG d n n=true/\∀ x∈items d,dz x=true:=by
 unfold bH at h;rw [zAc] at h;exact ⟨h.1,List.all_eq_true.mp h.2⟩
theorem lG {S:Addr->Prop}{H:Hp}{v:V}{d:PyData}(h:IsTh S H v d)(e:dz d=true):∃ i,v=.int i/\d=.int i:=by
 cases h with
 | int i=>exact ⟨i,rfl,rfl⟩
 | _=>cases e
theorem jV {α:Type}{n:Nat}{l:List α}(h:l.length=n+1):∃ a t,l=a::t/\t.length=n:=by
 cases l with
 | nil=>cases h
 | cons a t=>exact ⟨a,t,rfl,Nat.succ.inj h⟩
theorem IK {α:Type}{l:List α}(h:l.length=5):∃ a b c d e,l=[a,b,c,d,e]:=by
 obtain ⟨a,l1,e1,h1⟩:=jV h;obtain ⟨b,l2,e2,h2⟩:=jV h1;obtain ⟨c,l3,e3,h3⟩:=jV h2;obtain ⟨d,l4,e4,h4⟩:=jV h3;obtain ⟨e,l5,e5,h5⟩:=jV h4;exact ⟨a,b,c,d,e,by rw [e1,e2,e3,e4,e5,List.length_eq_zero_iff.mp h5]⟩
theorem IV {α:Type}{l:List α}(h:l.length=6):∃ a b c d e f,l=[a,b,c,d,e,f]:=by
 obtain ⟨a,l1,e1,h1⟩:=jV h;obtain ⟨b,c,d,e,f,e2⟩:=IK h1;exact ⟨a,b,c,d,e,f,by rw [e1,e2]⟩
theorem gH {S:Addr->Prop}{H:Hp}{xs:List V}{d:PyData}{ds:List PyData}(r:IsThs S H xs (d::ds))(e:dz d=true):∃ i t,xs=.int i::t/\d=.int i/\IsThs S H t ds:=by
 cases r with
 | cons h1 r =>
  obtain ⟨i,rfl,rfl⟩:=lG h1 e;exact ⟨i,_,rfl,rfl,r⟩
theorem oG {S:Addr->Prop}{H:Hp}{xs:List V}{d:PyData}{ds:List PyData}(r:IsThs S H xs (d::ds)):∃ v t,xs=v::t/\IsTh S H v d/\IsThs S H t ds:=by
 cases r with
 | cons h1 r=>exact ⟨_,_,rfl,h1,r⟩
theorem zb {S:Addr->Prop}{H:Hp}{xs:List V}{ds:List PyData}(r:IsThs S H xs ds)(hl:ds.length=3):∃ v0 v1 v2 d0 d1 d2,xs=[v0,v1,v2]/\ds=[d0,d1,d2]/\IsTh S H v0 d0/\IsTh S H v1 d1/\IsTh S H v2 d2:=by
 obtain ⟨d0,l1,e1,h1⟩:=jV hl;obtain ⟨d1,l2,e2,h2⟩:=jV h1;obtain ⟨d2,l3,e3,h3⟩:=jV h2;have e:ds=[d0,d1,d2]:=by rw [e1,e2,e3,List.length_eq_zero_iff.mp h3]
 subst e;obtain ⟨v0,t0,f0,i0,r0⟩:=oG r;obtain ⟨v1,t1,f1,i1,r1⟩:=oG r0;obtain ⟨v2,t2,f2,i2,r2⟩:=oG r1;cases r2;exact ⟨v0,v1,v2,d0,d1,d2,by rw [f0,f1,f2],rfl,i0,i1,i2⟩
theorem Br {S:Addr->Prop}{H:Hp}{xs:List V}{ds:List PyData}(r:IsThs S H xs ds)(hl:ds.length=6)(hw:∀ x∈ds,dz x=true) :
  ∃ i1 i2 i3 i4 i5 i6:Int,xs=[.int i1,.int i2,.int i3,.int i4,.int i5,.int i6]/\ds=[.int i1,.int i2,.int i3,.int i4,.int i5,.int i6]:=by
 obtain ⟨d1,d2,d3,d4,d5,d6,rfl⟩:=IV hl;obtain ⟨i1,t1,e1,rfl,r1⟩:=gH r (hw _ (by simp));obtain ⟨i2,t2,e2,rfl,r2⟩:=gH r1 (hw _ (by simp));obtain ⟨i3,t3,e3,rfl,r3⟩:=gH r2 (hw _ (by simp));obtain ⟨i4,t4,e4,rfl,r4⟩:=gH r3 (hw _ (by simp));obtain ⟨i5,t5,e5,rfl,r5⟩:=gH r4 (hw _ (by simp));obtain ⟨i6,t6,e6,rfl,r6⟩:=gH r5 (hw _ (by simp));cases r6;exact ⟨i1,i2,i3,i4,i5,i6,by rw [e1,e2,e3,e4,e5,e6],rfl⟩
theorem zg {ds:List PyData}{n m:Int}(h:bG (.tuple ds) n m=true):n<=(ds.length:Int)/\(ds.length:Int)<=m:=by
 have h:(true && (decide (n<=(ds.length:Int)) && decide ((ds.length:Int)<=m)))=true:=h;rw [Bool.true_and,zAc] at h;exact ⟨zB5 h.1,zB5 h.2⟩
def Cal (P:Program)(w:World)(K:Frag)(mg:Str->Option Value)(base:Heap)(k:Nat)(x:Str)(ps:List Str)(sp:Sp):Prop :=
 ∃ f fd,FnOk P w K mg base CX0 k f fd ps sp/\mg x=some (.ref f)/\PySem.W.keepIn K (.ref f)=true/\Binds K fd ps []
theorem aF {X:Cx}{k j:Nat}{x:Str}{ps:List Str}{sp:Sp}{p pos:Pos}{e:Expr}{es:List Expr}{t:TA}(c:Cal X.prog X.w X.K X.mg X.base j x ps sp)(hr:Room k X.A)(ha:PA X (e::es) t)(GO:j<=k:=by decide)(hg:Gl X x:=by exact rfl)
  (sR:(x == ("__debug__" : Str))=false:=by decide) (he:starEach (e::es) X.env=(false,eval e X.env)::starEach es X.env:=by rfl) (kD:(backTo pos (starEach es X.env)).any (·.1)=false:=by rfl) :
  PE X (.Call (.Name x p) (e::es) [] pos) (Fy sp [] E0 t):=by
 obtain ⟨f,fd,F,hm,hk,hb⟩:=c;exact Dz F (hr.mono GO) hg hm hk hb .nil HR ha sR he kD
variable {P:Program}{w:World}{K:Frag}{mg:Str->Option Value}{base:Heap}{f:Addr}{fd:FuncData}
theorem sc1:FnScope ["thing"] ["thing"] (aG (top 11)):=fS
theorem uE (F:Fun K "is_whole" "is_whole" (top 11) f fd)(T:Mg mg):FnOk P w K mg base CX0 1 f fd ["thing"] (spT dz):=by
 refine F.ok sc1 (fun vs H Q E h=>?_) (fun ar A outer s H vs Q E hr h=>?_)
 ·obtain ⟨S,v,d,rfl,_⟩:=h;rfl
 ·obtain ⟨S,v,d,rfl,th,hz,q⟩:=h
  refine ⟨_,aD (aR (cM (aN iK rfl T.isinstance boot_isinstance (aQ (pv 0) (aQ (rz rfl T.int boot_int (v:=.ty "int") rfl) aj)))
   (eV (Ga (aN iK rfl T.isinstance boot_isinstance (aQ (pv 0) (aQ (rz rfl T.bool boot_bool (v:=.ty "bool") rfl) aj))))))),?_⟩
  refine ⟨_,rfl,v,_,"int",rM d,rfl,th.ty,Ea d,_,rfl,?_⟩;have fin:=q H (Same.refl H);unfold dz at fin
  cases e:rM d with
  | false =>
   rw [e] at fin;exact bB fin
  | true =>
   rw [e] at fin;exact bQ ⟨_,rfl,v,_,"bool",rN d,rfl,th.ty,Aq d,_,rfl,fin⟩
theorem sc2:FnScope ["thing","fewest","most"] ["thing","fewest","most"] (aG (top 13)):=fS
theorem oH (F:Fun K "is_tuple_of" "is_tuple_of" (top 13) f fd)(T:Mg mg):FnOk P w K mg base CX0 1 f fd ["thing","fewest","most"] (lE bG):=by
 refine F.ok sc2 (fun vs H Q E h=>?_) (fun ar A outer s H vs Q E hr h=>?_)
 ·obtain ⟨S,v,d,n,m,rfl,_⟩:=h;rfl
 ·obtain ⟨S,v,d,n,m,rfl,th,hz,q⟩:=h
  refine ⟨_,aD (aR (cM (aN iK rfl T.isinstance boot_isinstance (aQ (pv 0) (aQ (rz rfl T.tuple boot_tuple (v:=.ty "tuple") rfl) aj)))
   (eV (dh cJ cJ (pv 1) (aN cg rfl T.len PySem.boot_len (aQ (pv 0) aj)) (pv 2))))),?_⟩
  refine ⟨_,rfl,v,_,"tuple",rO d,rfl,th.ty,Eb d,_,rfl,?_⟩;have fin:=q H (Same.refl H);unfold bG at fin
  cases e:rO d with
  | false =>
   rw [e] at fin;exact bB fin
  | true =>
   rw [e] at fin;refine bQ ?_
   cases th with
   | @tup a xs ds ea r =>
    have hl:=r.length;refine ⟨_,rfl,_,rfl,a,xs,rfl,.inr (SqT.of ea),_,_,rfl,rfl,_,rfl,?_⟩;rw [hl];have fin:Q (.bl (true && (decide (n<=(ds.length:Int)) && decide ((ds.length:Int)<=m)))) H:=fin
    cases e1:decide (n<=(ds.length:Int)) with
    | false =>
     rw [e1] at fin;exact bB fin
    | true =>
     rw [e1] at fin;exact bQ ⟨_,rfl,_,_,rfl,rfl,fin⟩
   | _=>cases e
theorem sc3:FnScope ["thing","many"] ["thing","many"] (aG (top 14)):=fS
theorem pP (F:Fun K "are_wholes" "are_wholes" (top 14) f fd)(T:Mg mg)(c1:Cal P w K mg base 1 "is_whole" ["thing"] (spT dz))(c2:Cal P w K mg base 1 "is_tuple_of" ["thing","fewest","most"] (lE bG)) :
  FnOk P w K mg base CX0 2 f fd ["thing","many"] (El bH):=by
 refine F.ok sc3 (fun vs H Q E h=>?_) (fun ar A outer s H vs Q E hr h=>?_)
 ·obtain ⟨S,v,d,n,rfl,_⟩:=h;rfl
 ·obtain ⟨S,v,d,n,rfl,th,hz,q⟩:=h
  refine ⟨_,aD (aR (cM (aF c2 hr (aQ (pv 0) (aQ (pv 1) (aQ (pv 1) aj))))
   (eV (aN (fY rfl) rfl T.all boot_all (aQ (bC ["part"] [none] rfl (fQ (pv 0))
    (fun C fp pins s₂ H₂=>⟨bh (i:=0) (nd1 _) rfl (Or.inl rfl),bu,aF c1 hr (aQ (pv 0) aj)⟩) (fun C=>trivial) ⟨rfl,rfl,rfl,rfl⟩) aj))))),?_⟩
  refine ⟨_,rfl,_,rfl,_,rfl,S,v,d,n,n,rfl,th,hz,fun H1 s1=>⟨_,rfl,?_⟩⟩;have fF:=th.same s1
  cases e:bG d n n with
  | false =>
   refine bB ?_;have fin:=q H1 s1;unfold bH at fin;rw [e] at fin;exact fin
  | true =>
   refine bQ ?_
   cases fF with
   | @tup a xs ds ea r =>
    have ew:bH (.tuple ds) n=ds.all dz:=by unfold bH;rw [e];rfl
    refine dG dz rfl ea r (gb r hz) (fun v d H2 Q2 hm s2 t2 q2=>⟨_,rfl,S,v,d,rfl,t2,jU hm hz,q2⟩) fun H2 s2=>?_;rw [<- ew];exact q _ (s1.trans s2)
   | _=>cases e
theorem sc13:FnScope ["thing"] ["thing"] (aG (top 25)):=fS
theorem vD (F:Fun K "is_clip" "is_clip" (top 25) f fd)(T:Mg mg)(N:Nums mg)(c1:Cal P w K mg base 2 "are_wholes" ["thing","many"] (El bH)) :
  FnOk P w K mg base CX0 3 f fd ["thing"] (spT qH):=by
 refine F.ok sc13 (fun vs H Q E h=>?_) (fun ar A outer s H vs Q E hr h=>?_)
 ·obtain ⟨S,v,d,rfl,_⟩:=h;rfl
 ·obtain ⟨S,v,d,rfl,th,hz,q⟩:=h;obtain ⟨t3,e3⟩:=N.sorts;obtain ⟨t9,e9⟩:=N.wool
  refine ⟨_,aD (aR (cM (aF c1 hr (aQ (pv 0) (aQ (bV (v:=.int 3) rfl e3 ⟨_,rfl⟩) aj)))
   (eV (aN (fY rfl) rfl T.all boot_all (aQ (bC ["sacks"] [none] rfl (fQ (pv 0))
    (fun C fp pins s₂ H₂=>⟨bh (i:=0) (nd1 _) rfl (Or.inl rfl),bu,dh cJ cJ aA (pv 0) (bV (v:=.int 999) rfl e9 ⟨_,rfl⟩)⟩) (fun C=>trivial) ⟨rfl,rfl,rfl,rfl⟩) aj))))),?_⟩
  refine ⟨_,rfl,S,v,d,3,rfl,th,hz,fun H1 s1=>⟨_,rfl,?_⟩⟩;have fF:=th.same s1;have fin:=fun H' (s:Same H H')=>q H' s;unfold qH at fin
  cases e:bH d 3 with
  | false =>
   rw [e] at fin;exact bB (fin _ s1)
  | true =>
   rw [e] at fin;refine bQ ?_;obtain ⟨e1,e2⟩:=lF e
   cases fF with
   | @tup a xs ds ea r =>
    refine dG (fun x=>decide (0<=intOf x) && decide (intOf x<=999)) rfl ea r (gb r hz) (fun v d H2 Q2 hm s2 t2 q2=>?_) fun H2 s2=>fin _ (s1.trans s2);obtain ⟨i,rfl,rfl⟩:=lG t2 (e2 d hm);refine ⟨_,rfl,_,_,rfl,rfl,_,rfl,?_⟩;have q3:=q2 H2 (Same.refl _);show if decide ((0:Int)<=i)=true then _ else _
    cases e5:decide ((0:Int)<=i) with
    | false =>
     refine bB ?_;have q3:Q2 (.bl (decide ((0:Int)<=i) && decide (i<=999))) H2:=q3;rw [e5] at q3;exact q3
    | true =>
     refine bQ ⟨_,_,rfl,rfl,?_⟩;have q3:Q2 (.bl (decide ((0:Int)<=i) && decide (i<=999))) H2:=q3;rw [e5] at q3;exact q3
   | _=>cases e1
theorem sc14:FnScope ["thing"] ["thing"] (aG (top 26)):=fS
theorem sS (F:Fun K "are_clips" "are_clips" (top 26) f fd)(T:Mg mg)(N:Nums mg)(c1:Cal P w K mg base 3 "is_clip" ["thing"] (spT qH))(c2:Cal P w K mg base 1 "is_tuple_of" ["thing","fewest","most"] (lE bG)) :
  FnOk P w K mg base CX0 4 f fd ["thing"] (spT fZ):=by
 refine F.ok sc14 (fun vs H Q E h=>?_) (fun ar A outer s H vs Q E hr h=>?_)
 ·obtain ⟨S,v,d,rfl,_⟩:=h;rfl
 ·obtain ⟨S,v,d,rfl,th,hz,q⟩:=h;obtain ⟨t3,e3⟩:=N.clips
  refine ⟨_,aD (aR (cM (aF c2 hr (aQ (pv 0) (aQ aA (aQ (bV (v:=.int 20) rfl e3 ⟨_,rfl⟩) aj))))
   (eV (aN (fY rfl) rfl T.all boot_all (aQ (bC ["part"] [none] rfl (fQ (pv 0))
    (fun C fp pins s₂ H₂=>⟨bh (i:=0) (nd1 _) rfl (Or.inl rfl),bu,aF c1 hr (aQ (pv 0) aj)⟩) (fun C=>trivial) ⟨rfl,rfl,rfl,rfl⟩) aj))))),?_⟩
  refine ⟨_,rfl,S,v,d,1,20,rfl,th,hz,fun H1 s1=>⟨_,rfl,?_⟩⟩;have fF:=th.same s1;have fin:=fun H' (s:Same H H')=>q H' s;unfold fZ at fin
  cases e:bG d 1 20 with
  | false =>
   rw [e] at fin;exact bB (fin _ s1)
  | true =>
   rw [e] at fin;refine bQ ?_
   cases fF with
   | @tup a xs ds ea r=>exact dG qH rfl ea r (gb r hz) (fun v d H2 Q2 hm s2 t2 q2=>⟨_,rfl,S,v,d,rfl,t2,jU hm hz,q2⟩) fun H2 s2=>fin _ (s1.trans s2)
   | _=>cases e
theorem sc15:FnScope ["thing","holder","sort","first","last","sacks","price"] ["thing"] (aG (top 28)):=fS
theorem pQ (F:Fun K "is_promise" "is_promise" (top 28) f fd)(T:Mg mg)(N:Nums mg)(c1:Cal P w K mg base 2 "are_wholes" ["thing","many"] (El bH)) :
  FnOk P w K mg base CX0 3 f fd ["thing"] (spT jT):=by
 refine F.ok sc15 (fun vs H Q E h=>?_) (fun ar A outer s H vs Q E hr h=>?_)
 ·obtain ⟨S,v,d,rfl,_⟩:=h;rfl
 ·obtain ⟨S,v,d,rfl,th,hz,q⟩:=h;obtain ⟨t1,e1⟩:=N.holders;obtain ⟨t2,e2⟩:=N.sorts;obtain ⟨t3,e3⟩:=N.year;obtain ⟨t4,e4⟩:=N.sacks;obtain ⟨t5,e5⟩:=N.price
  refine ⟨_,aB (cF (cW (dF (aF c1 hr (aQ (pv 0) (aQ aA aj))))) (aD (aR mZ)) bf)
   (aB (cz (pv 0) (bJ rfl (ao (pgn 1 sc15.nd) (ao (pgn 2 sc15.nd) (ao (pgn 3 sc15.nd)
    (ao (pgn 4 sc15.nd) (ao (pgn 5 sc15.nd) (ao (pgn 6 sc15.nd) aV))))))))
   (aD (aR (cM (dh cJ jl aA (pv 1) (bV (v:=.int 8) rfl e1 ⟨_,rfl⟩)) (cM (dh cJ jl aA (pv 2) (bV (v:=.int 3) rfl e2 ⟨_,rfl⟩))
    (cM (yO cJ cJ cJ aA (pv 3) (pv 4) (bV (v:=.int 19) rfl e3 ⟨_,rfl⟩)) (cM (dh cJ cJ aA (pv 5) (bV (v:=.int 99) rfl e4 ⟨_,rfl⟩))
     (eV (dh cJ cJ aA (pv 6) (bV (v:=.int 1000000) rfl e5 ⟨_,rfl⟩)))))))))),?_⟩
  refine ⟨_,rfl,S,v,d,6,rfl,th,hz,fun H1 s1=>⟨_,rfl,?_⟩⟩;have fF:=th.same s1;have fin:=fun H' (s:Same H H')=>q H' s;unfold jT at fin
  cases e:bH d 6 with
  | false =>
   rw [e] at fin;exact bQ (fin _ s1)
  | true =>
   rw [e] at fin;refine bB ?_;obtain ⟨z1,z2⟩:=lF e
   cases fF with
   | @tup a xs ds ea r =>
    have hl:ds.length=6:=by
     have:=zg z1;lia
    obtain ⟨i1,i2,i3,i4,i5,i6,rfl,rfl⟩:=Br r hl z2;refine ⟨_,rfl,a,_,rfl,SqT.of ea,rfl,_,_,rfl,_,_,rfl,_,_,rfl,_,_,rfl,_,_,rfl,_,_,rfl,rfl,?_⟩;refine iQ (cT il (gh rfl) il) (fun _=>iQ (cT il (gh rfl) il) fun _=>iQ (yP il (gh rfl) (gh rfl) il) fun _=>iQ (cT il (gh rfl) il) fun _=>cT il (gh rfl) il) _ ?_;exact fin H1 s1
   | _=>cases z1
theorem JR:FnScope ["thing"] ["thing"] (aG (top 29)):=fS
theorem mz (F:Fun K "are_promises" "are_promises" (top 29) f fd)(T:Mg mg)(N:Nums mg)(c1:Cal P w K mg base 3 "is_promise" ["thing"] (spT jT))(c2:Cal P w K mg base 1 "is_tuple_of" ["thing","fewest","most"] (lE bG)) :
  FnOk P w K mg base CX0 4 f fd ["thing"] (spT fc):=by
 refine F.ok JR (fun vs H Q E h=>?_) (fun ar A outer s H vs Q E hr h=>?_)
 ·obtain ⟨S,v,d,rfl,_⟩:=h;rfl
 ·obtain ⟨S,v,d,rfl,th,hz,q⟩:=h;obtain ⟨t3,e3⟩:=N.proms
  refine ⟨_,aD (aR (cM (aF c2 hr (aQ (pv 0) (aQ aA (aQ (bV (v:=.int 10) rfl e3 ⟨_,rfl⟩) aj))))
   (eV (aN (fY rfl) rfl T.all boot_all (aQ (bC ["part"] [none] rfl (fQ (pv 0))
    (fun C fp pins s₂ H₂=>⟨bh (i:=0) (nd1 _) rfl (Or.inl rfl),bu,aF c1 hr (aQ (pv 0) aj)⟩) (fun C=>trivial) ⟨rfl,rfl,rfl,rfl⟩) aj))))),?_⟩
  refine ⟨_,rfl,S,v,d,0,10,rfl,th,hz,fun H1 s1=>⟨_,rfl,?_⟩⟩;have fF:=th.same s1;have fin:=fun H' (s:Same H H')=>q H' s;unfold fc at fin
  cases e:bG d 0 10 with
  | false =>
   rw [e] at fin;exact bB (fin _ s1)
  | true =>
   rw [e] at fin;refine bQ ?_
   cases fF with
   | @tup a xs ds ea r=>exact dG jT rfl ea r (gb r hz) (fun v d H2 Q2 hm s2 t2 q2=>⟨_,rfl,S,v,d,rfl,t2,jU hm hz,q2⟩) fun H2 s2=>fin _ (s1.trans s2)
   | _=>cases e
def mD (d:PyData)(lo hi:Int):Bool:=dz d && (decide (lo<=intOf d) && decide (intOf d<=hi))
theorem oJ:bootBuiltins "repr" = some (.builtin "repr"):=by decide +kernel
inductive SpSameI (vs:List V)(H:Hp)(Q:VK):Prop
 | mk:∀ S v u d e,(vs=[v,u])->(¬ S sysModules)->(IsTh S H v d)->(IsTh S H u e)->(tame d=true)->(tame e=true)->(sz d<=1000)->(sz e<=1000)->(Q (.bl (decide (V.str d.shown=V.str e.shown))) H)->SpSameI  vs H Q
def Bs:Sp:=fun vs H Q _=>SpSameI  vs H Q
theorem room_sz {A:Around}{k:Nat}(hr:Room k A)(hk:60<=k){d:PyData}(h:sz d<=1000):A.units+(sz d+1) < cLine:=by
 have:=hr.un;lia
theorem JS:FnScope ["_law_found","_law_due"] ["_law_found","_law_due"] (aG (top 69)):=fS
theorem Em (F:Fun K "_law_same" "_law_same" (top 69) f fd)(Tr:mg "repr" = none):FnOk P w K mg base CX0 61 f fd ["_law_found","_law_due"] Bs:=by
 refine F.ok JS (fun vs H Q E h=>?_) (fun ar A outer s H vs Q E hr h=>?_)
 ·obtain ⟨S,v,u,d,e,rfl,_⟩:=h;rfl
 ·obtain ⟨S,v,u,d,e,rfl,hS,t1,t2,m1,m2,z1,z2,q⟩:=h;refine ⟨_,aD (aR (jE jk (aN (j9 (S:=S) hr.gd hS) rfl Tr oJ (aQ (pv 0) aj)) (aN (j9 (S:=S) hr.gd hS) rfl Tr oJ (aQ (pv 1) aj)) (bA _))),?_⟩;exact ⟨_,rfl,v,d,rfl,t1,m1,by lia,room_sz hr (zA3 _) z1,_,rfl,u,e,rfl,t2,m2,by lia,room_sz hr (zA3 _) z2,rfl,q⟩
theorem jW {X:Cx}{K:Frag}(hK:X.K=K):IxR X (HJ K):=by
 subst hK;exact bL
theorem boot_min:bootBuiltins "min" = some (.builtin "min"):=by decide +kernel
theorem room_un {A:Around}{k:Nat}(hr:Room k A):A.units < cLine:=by
 have:=hr.un;lia
theorem vG:bootBuiltins "list" = some (.type "list"):=by decide +kernel
def rowD (r:List Int):PyData:=.tuple (r.map .int)
def bK (rs:List (List Int)):PyData:=.tuple (rs.map rowD)
def fl (r:List Int)(i:Nat):Int:=r.getD i 0
def okP (r:List Int):Prop:=r.length=6/\(0<=fl r 0/\fl r 0 < 8)/\(0<=fl r 1/\fl r 1 < 3)/\(0<=fl r 2/\fl r 2<=fl r 3/\fl r 3<=19)/\(1<=fl r 4/\fl r 4<=99)/\(0<=fl r 5/\fl r 5<=1000000)
def fj (d:PyData):Bool:=bG d 0 12 && (items d).all fun x=>bH x 5
def rowsOf (d:PyData):List (List Int):=(items d).map fun x=>(items x).map intOf
theorem Bt:∀ {ds:List PyData},(∀ x∈ds,dz x=true)->ds=(ds.map intOf).map PyData.int
 | [],_=>rfl
 | d::ds,h=>by
  rw [zAk,zAk,<- Bt fun x hx=>h x (List.mem_cons_of_mem _ hx)];have:=h d List.mem_cons_self
  cases d with
  | int i=>rfl
  | _=>cases this
theorem jz {x:PyData}{n:Nat}(h:bH x n=true):x=rowD ((items x).map intOf)/\((items x).map intOf).length=n:=by
 obtain ⟨h1,h2⟩:=lF h;unfold bG at h1;rw [zAc,zAc,decide_eq_true_eq,decide_eq_true_eq] at h1;obtain ⟨ht,dv,fy⟩:=h1
 cases x with
 | tuple ds =>
  have dv:(n:Int)<=ds.length:=dv;have fy:(ds.length:Int)<=n:=fy;refine ⟨?_,by show (ds.map intOf).length=n;rw [zA1];lia⟩;exact congrArg PyData.tuple (Bt h2)
 | _=>cases ht
theorem xG {ds:List PyData}{n:Nat}(h:∀ x∈ds,bH x n=true):ds=(ds.map fun x=>(items x).map intOf).map rowD:=by
 induction ds with
 | nil=>rfl
 | cons d ds ih =>
  rw [zAk,zAk,<- ih fun x hx=>h x (List.mem_cons_of_mem _ hx),<- (jz (h d List.mem_cons_self)).1]
theorem lH {d:PyData}{f m:Int}(h:bG d f m=true):∃ ds,d=.tuple ds/\f<=ds.length/\(ds.length:Int)<=m:=by
 unfold bG at h;rw [zAc,zAc,decide_eq_true_eq,decide_eq_true_eq] at h
 cases d with
 | tuple ds=>exact ⟨ds,rfl,h.2⟩
 | _=>cases h.1
theorem qI (r:List Int)(i:Nat)(h:i < r.length):at_ (rowD r) i=fl r i:=by
 show intOf ((r.map PyData.int).getD i .none)=r.getD i 0;rw [zA7,zA7,zAb,zA0 h];rfl
theorem vH {d:PyData}(h:fc d=true):d=bK (rowsOf d)/\(rowsOf d).length<=10/\∀ r∈rowsOf d,okP r:=by
 unfold fc at h;rw [zAc] at h;obtain ⟨ds,rfl,_,hl⟩:=lH h.1;have h2:∀ x∈ds,jT x=true:=List.all_eq_true.mp h.2
 have h3:∀ x∈ds,bH x 6=true:=fun x hx=>by
  have:=h2 x hx;unfold jT at this;rw [zAc] at this;exact this.1
 refine ⟨congrArg PyData.tuple (xG (n:=6) h3),by show (ds.map _).length<=10;rw [zA1];lia,fun r hr=>?_⟩;obtain ⟨x,hx,rfl⟩:=zA5.mp hr;have hx:x∈ds:=hx;obtain ⟨e,P2⟩:=jz (n:=6) (h3 x hx);have:=h2 x hx;unfold jT at this;rw [zAc] at this;have p:=this.2;rw [e] at p;rw [qI _ 0 (by lia),qI _ 1 (by lia),qI _ 2 (by lia),qI _ 3 (by lia),qI _ 4 (by lia),qI _ 5 (by lia)] at p;unfold sI at p;simp only [Bool.and_eq_true,decide_eq_true_eq] at p;obtain ⟨⟨a1,a2⟩,⟨b1,b2⟩,⟨c1,c2,c3⟩,⟨d1,d2⟩,e1,e2⟩:=p;exact ⟨P2,⟨a1,a2⟩,⟨b1,b2⟩,⟨c1,c2,c3⟩,⟨d1,d2⟩,e1,e2⟩
theorem vI {d:PyData}(h:fj d=true):d=bK (rowsOf d)/\(rowsOf d).length<=12/\∀ r∈rowsOf d,r.length=5:=by
 unfold fj at h;rw [zAc] at h;obtain ⟨ds,rfl,_,hl⟩:=lH h.1;have h3:∀ x∈ds,bH x 5=true:=List.all_eq_true.mp h.2;refine ⟨congrArg PyData.tuple (xG (n:=5) h3),by show (ds.map _).length<=12;rw [zA1];lia,fun r hr=>?_⟩;obtain ⟨x,hx,rfl⟩:=zA5.mp hr;exact (jz (n:=5) (h3 x hx)).2
structure RowsAt (H:Hp)(a:Addr)(xs:List V)(rs:List (List Int)):Prop where
 e:H a=some (.tup xs)
 l:xs.length=rs.length
 g:∀ (i:Nat) (r:List Int),rs[i]?=some r->∃ t,xs[i]?=some (V.ref t)/\H t=some (.tup (r.map V.int))
theorem RowsAt.keep {H H':Hp}{a:Addr}{xs:List V}{rs:List (List Int)}(h:RowsAt H a xs rs)(k:∀ b l,H b=some (.tup l)->H' b=some (.tup l)):RowsAt H' a xs rs :=
 ⟨k _ _ h.e,h.l,fun i r e=>by
  obtain ⟨t,e1,e2⟩:=h.g i r e
  exact ⟨t,e1,k _ _ e2⟩⟩
theorem RowsAt.same {H H':Hp}{a:Addr}{xs:List V}{rs:List (List Int)}(h:RowsAt H a xs rs)(s:Same H H'):RowsAt H' a xs rs:=h.keep fun _ _ e=>s _ _ e
theorem uF {S:Addr->Prop}{H:Hp}:∀ {r:List Int} {xs:List V},IsThs S H xs (r.map .int)->xs=r.map V.int
 | [],_,.nil=>rfl
 | i::r,_,.cons h t=>by
  cases h;rw [uF (r:=r) t];rfl
theorem GD {S:Addr->Prop}{H:Hp}{v:V}{r:List Int}(h:IsTh S H v (rowD r)):∃ t,v=V.ref t/\H t=some (.tup (r.map V.int)):=by
 generalize hd:rowD r=d at h
 cases h with
 | @tup a xs ds e t =>
  injection hd with hd;subst hd;rw [uF t] at e;exact ⟨a,rfl,e⟩
 | _=>cases hd
theorem th_rows {S:Addr->Prop}{H:Hp}{v:V}{rs:List (List Int)}(h:IsTh S H v (bK rs)):∃ a xs,v=.ref a/\RowsAt H a xs rs:=by
 generalize hd:bK rs=d at h
 cases h with
 | @tup a xs ds e t =>
  injection hd with hd;subst hd;refine ⟨a,xs,rfl,e,by rw [t.length,zA1],fun i r hr=>?_⟩;have hi:i < rs.length:=(zAa.mp hr).1;have hx:xs[i]?=some (xs[i]'(by rw [t.length,zA1];exact hi)):=zA0 _;obtain ⟨d,h1,h2⟩:=t.get hx;rw [zAb,hr] at h1;injection h1 with h1;subst h1;obtain ⟨t',e1,e2⟩:=GD h2;exact ⟨t',by rw [hx,e1],e2⟩
 | _=>cases hd
theorem RowsAt.th {H:Hp}{a:Addr}:∀ {rs:List (List Int)} {xs:List V},RowsAt H a xs rs->IsTh (fun _=>False) H (.ref a) (bK rs):=by
 intro rs xs h;refine .tup h.e ?_
 have gen:∀ (rs:List (List Int)) (xs:List V),xs.length=rs.length->(∀ (i:Nat) (r:List Int),rs[i]?=some r->∃ t,xs[i]?=some (V.ref t)/\H t=some (.tup (r.map V.int)))->IsThs (fun _=>False) H xs (rs.map rowD):=by
  intro rs
  induction rs with
  | nil =>
   intro xs hl _;have:xs=[]:=List.length_eq_zero_iff.mp hl;subst this;exact .nil
  | cons r rs ih =>
   intro xs hl hg
   cases xs with
   | nil=>simp at hl
   | cons x xs =>
    obtain ⟨t,e1,e2⟩:=hg 0 r rfl;have e1:x=.ref t:=by simpa using e1
    subst e1;exact .cons (.tup e2 (IsThs.ints r)) (ih xs (by simpa using hl) fun i r' e=>hg (i+1) r' (by simpa using e))
 exact gen rs xs h.l h.g
def dN (L:List Int)(i:Int)(v:Int):List Int:=L.set i.toNat (L.getD i.toNat 0+v)
def hstep (n y:Int)(L:List Int)(s:List Int):List Int:=if fl s 0=n/\fl s 4<=y then dN (dN L (fl s 1) (-(fl s 3))) (fl s 2) (fl s 3) else L
def base0 (p:List Int):List Int:=(List.replicate 8 0).set (fl p 0).toNat (fl p 4)
def bU (p:List Int)(ss:List (List Int))(n y:Int):List Int:=if fl p 2<=y/\y<=fl p 3 then ss.foldl (hstep n y) (base0 p) else List.replicate 8 0
def sU (ps:List (List Int))(s:List Int):List Int:=ps.getD (fl s 0).toNat []
def uG (ps:List (List Int))(s:List Int):Bool:=(decide (0<=fl s 0) && decide (fl s 0 < ps.length)) && ((decide (0<=fl s 1) && decide (fl s 1 < 8)) && ((decide (0<=fl s 2) && decide (fl s 2 < 8)) && ((!decide (fl s 1=fl s 2)) && ((decide (1<=fl s 3) && decide (fl s 3<=99)) && (decide (fl (sU ps s) 2<=fl s 4) && decide (fl s 4<=fl (sU ps s) 3))))))
def years (a b:Int):List Int:=(List.range (b+1 - a).toNat).map fun (i:Nat)=>a+i
def cH (ps ss:List (List Int))(s:List Int):Bool:=uG ps s && (years (fl s 4) (fl (sU ps s) 3)).all fun y=>decide (fl s 3<=(bU (sU ps s) ss (fl s 0) y).getD (fl s 1).toNat 0)
def un (ps ss:List (List Int)):Option Nat:=(List.range ss.length).find? fun i=>!cH ps (ss.take i) (ss.getD i [])
theorem gJ (L:List Int)(i v:Int):(dN L i v).length=L.length:=by unfold dN;rw [List.length_set]
theorem zj (n y:Int)(L s:List Int):(hstep n y L s).length=L.length:=by
 unfold hstep;split
 ·rw [gJ,gJ]
 ·rfl
theorem dW (p:List Int)(ss:List (List Int))(n y:Int):(bU p ss n y).length=8:=by
 unfold bU;split
 ·have:∀ (ss:List (List Int)) (L:List Int),L.length=8->(ss.foldl (hstep n y) L).length=8:=by
   intro ss
   induction ss with
   | nil=>exact fun L h=>h
   | cons s ss ih=>exact fun L h=>ih _ (by rw [zj];exact h)
  exact this ss _ (by unfold base0;rw [List.length_set,List.length_replicate])
 ·rw [List.length_replicate]
theorem gK {X:Cx}:Hs X (fun x y H Q=>∃ p xs i v,x=.ref p/\y=.int i/\SqL X.K H p xs/\0<=i/\xs[i.toNat]?=some v/\Q v H):=by
 intro pins s σ H x y v u Q I rx ry h;obtain ⟨p,xs,i,z,rfl,rfl,hq,h0,he,q⟩:=h;cases rx;obtain ⟨t,rfl⟩:=ry;obtain ⟨its,r,pl,hz⟩:=I.list hq;obtain ⟨w,ew,fq⟩:=r.get he;have hn:=nC;have hl:=r.length;have hi:=(zAa.mp he).1;exact PySem.wpAny_getItem_list pl.isList h0 (by lia) (by simpa using ew) ⟨z,H,I,fq,q⟩
theorem six_row {p:List Int}(h:p.length=6):p=[fl p 0,fl p 1,fl p 2,fl p 3,fl p 4,fl p 5]:=by
 obtain ⟨a,b,c,d,e,f,rfl⟩:=IV h;rfl
theorem jX {p:List Int}(h:p.length=5):p=[fl p 0,fl p 1,fl p 2,fl p 3,fl p 4]:=by
 obtain ⟨a,b,c,d,e,rfl⟩:=IK h;rfl
theorem jd (L:List Int)(i:Nat)(v:Int):(L.map V.int).set i (.int v)=(L.set i v).map V.int:=by rw [List.map_set]
theorem dO {L:List Int}{i:Nat}(h:i < L.length):(L.map V.int)[i]?=some (.int (L.getD i 0)):=by
 rw [zAb,zA0 h,zA7,zA0 h];rfl
theorem oK {n:Nat}{i:Int}(h0:0<=i)(h1:i < n):ixN n i=some i.toNat:=by
 unfold ixN;rw [zAx h0,zAx h1]
def okS (s:List Int):Prop:=s.length=5/\(0<=fl s 1/\fl s 1 < 8)/\(0<=fl s 2/\fl s 2 < 8)
inductive SpHeldI (vs:List V)(H:Hp)(Q:VK):Prop
 | mk:∀ ap xp ps ae xs ss n y,(vs=[.ref ap,.ref ae,.int n,.int y])->(RowsAt H ap xp ps)->(RowsAt H ae xs ss)->(0<=n)->(n < ps.length)->(okP (ps.getD n.toNat []))->(ss.length<=12)->((∀ s∈ss,okS s))->(∀ l H',Same H H'->H' l=some (.lst ((bU (ps.getD n.toNat []) ss n y).map V.int))->Q (.ref l) H')->SpHeldI  vs H Q
def vJ:Sp:=fun vs H Q _=>SpHeldI  vs H Q
structure MS (mg:Str->Option Value):Prop where
 sales:∃ t,mg "MOST_SALES" = some (.int 12 t)
theorem IW:FnScope ["thing"] ["thing"] (aG (top 30)):=fS
theorem sV (F:Fun K "are_sales" "are_sales" (top 30) f fd)(T:Mg mg)(N:MS mg)(c1:Cal P w K mg base 2 "are_wholes" ["thing","many"] (El bH))(c2:Cal P w K mg base 1 "is_tuple_of" ["thing","fewest","most"] (lE bG)) :
  FnOk P w K mg base CX0 3 f fd ["thing"] (spT fj):=by
 refine F.ok IW (fun vs H Q E h=>?_) (fun ar A outer s H vs Q E hr h=>?_)
 ·obtain ⟨S,v,d,rfl,_⟩:=h;rfl
 ·obtain ⟨S,v,d,rfl,th,hz,q⟩:=h;obtain ⟨t3,e3⟩:=N.sales
  refine ⟨_,aD (aR (cM (aF c2 hr (aq (pv 0) (aq aA (aq (bV (v:=.int 12) rfl e3 ⟨_,rfl⟩) aj))))
   (eV (aN (fY rfl) rfl T.all boot_all (aq (bC ["part"] [none] rfl (fQ (pv 0))
    (fun C fp pins s₂ H₂=>⟨bh (i:=0) (nd1 _) rfl (Or.inl rfl),bu,aF c1 hr (aq (pv 0) (aq aA aj))⟩) (fun C=>trivial) ⟨rfl,rfl,rfl,rfl⟩) aj))))),?_⟩
  refine ⟨_,rfl,S,v,d,0,12,rfl,th,hz,fun H1 s1=>⟨_,rfl,?_⟩⟩;have fF:=th.same s1;have fin:=fun H' (s:Same H H')=>q H' s;unfold fj at fin
  cases e:bG d 0 12 with
  | false =>
   rw [e] at fin;exact bB (fin _ s1)
  | true =>
   rw [e] at fin;refine bQ ?_
   cases fF with
   | @tup a xs ds ea r=>exact dG (fun x=>bH x 5) rfl ea r (gb r hz) (fun v d H2 Q2 hm s2 t2 q2=>⟨_,rfl,S,v,d,5,rfl,t2,jU hm hz,q2⟩) fun H2 s2=>fin _ (s1.trans s2)
   | _=>cases e
theorem sc23s:FnScope ["promises","sales","number","year","holder","sort","first","last","sacks","price","held","promise","seller","buyer","sold","since"] ["promises","sales","number","year"] (aG (top 31)):=fS
theorem En (F:Fun K "held_in" "held_in" (top 31) f fd)(N:Nums mg):FnOk P w K mg base CX0 1 f fd ["promises","sales","number","year"] vJ:=by
 refine F.ok sc23s (fun vs H Q E h=>?_) (fun ar A outer s H vs Q E hr h=>?_)
 ·obtain ⟨ap,xp,ps,ae,xs,ss,n,y,rfl,_⟩:=h;rfl
 ·obtain ⟨ap,xp,ps,ae,xs,ss,n,y,rfl,rp,rs,n0,n1,okp,hl,fI,q⟩:=h;obtain ⟨t1,e1⟩:=N.holders
  refine ⟨_,aB (cz (pX bO (pv 0) (pv 2)) (bJ rfl (ao (pgn 4 sc23s.nd) (ao (pgn 5 sc23s.nd) (ao (pgn 6 sc23s.nd)
    (ao (pgn 7 sc23s.nd) (ao (pgn 8 sc23s.nd) (ao (pgn 9 sc23s.nd) aV))))))))
   (aB (pss 10 sc23s.nd (aU Gm (cX (aq aA aj)) (bV (v:=.int 8) rfl e1 ⟨_,rfl⟩)))
   (aB (cF (cW (nA cJ cJ (pv 6) (pv 3) (pv 7))) (aD (aR (pv 10))) bf)
   (aB (cz (pv 8) (fP (pv 10) (pv 4) set_list))
   (aB (bY zB3 rfl (fQ (pv 1)) (bJ rfl (ao (pgn 11 sc23s.nd) (ao (pgn 12 sc23s.nd) (ao (pgn 13 sc23s.nd)
     (ao (pgn 14 sc23s.nd) (ao (pgn 15 sc23s.nd) aV))))))
    (aD (cF (PW.pt (rA (bj jk (pv 11) (pv 2) (bA _)) (mF (bj cJ (pv 15) (pv 3) (bA _)))))
     (aB (mG (pv 10) (pv 12) gK (pv 14) Ad set_list) (aD (mG (pv 10) (pv 13) gK (pv 14) uY set_list))) bf)))
   (aD (aR (pv 10))))))),?_⟩
  obtain ⟨p,hp⟩:∃ p,ps[n.toNat]?=some p:=⟨_,zA0 (by lia)⟩
  have ep:ps.getD n.toNat []=p:=by rw [zA7,hp];rfl
  rw [ep] at okp q;obtain ⟨t,ex,et⟩:=rp.g _ _ hp;have p6:=six_row okp.1;obtain ⟨l6,⟨a1,a2⟩,b,⟨c1,c2,c3⟩,⟨d1,d2⟩,ee⟩:=id okp
  have gg:atI xp n=some (.ref t):=by
   have:=cY ex;rw [show ((n.toNat:Nat):Int)=n by lia] at this;exact this
  rw [p6] at et;refine aC ?_;refine ⟨_,rfl,_,rfl,ap,xp,n,.ref t,rfl,rfl,SqT.of rp.e,gg,?_⟩;refine ⟨t,_,rfl,SqT.of et,rfl,_,_,rfl,_,_,rfl,_,_,rfl,_,_,rfl,_,_,rfl,_,_,rfl,rfl,?_⟩;dsimp only;refine aC (aW ?_);refine ⟨zL,fun l0 nh=>⟨l0,8,_,rfl,rfl,aa,by decide,by decide,zL,fun l1 dv=>?_⟩⟩;have s1:Same H (upd (upd H l0 (.lst [V.int 0])) l1 (.lst (List.replicate (8:Int).toNat [V.int 0]).flatten)):=(Same.upd nh).updR dv;have el1:upd (upd H l0 (.lst [V.int 0])) l1 (.lst (List.replicate (8:Int).toNat [V.int 0]).flatten) l1=some (.lst ((List.replicate 8 (0:Int)).map V.int)):=aa;have nr:H l1=none:=(Same.upd nh).free dv;generalize upd (upd H l0 (.lst [V.int 0])) l1 (.lst (List.replicate (8:Int).toNat [V.int 0]).flatten)=H1 at s1 el1 ⊢;refine aH ?_;dsimp only;refine aC ?_;refine cT (p:=fun i j=>decide (i<=j)) (q:=fun i j=>decide (i<=j)) (i:=fl p 2) (j:=y) (k:=fl p 3) (gh rfl) (gh rfl) (gh rfl) _ ⟨_,rfl,?_⟩;by_cases mS:fl p 2<=y/\y<=fl p 3
  ·rw [decide_eq_true mS.1,decide_eq_true mS.2];refine bB (dD ?_);dsimp only;refine aC ?_;refine ⟨_,rfl,_,rfl,_,rfl,l1,_,fl p 0,(fl p 0).toNat,rfl,rfl,el1,oK a1 (by show fl p 0 < 8;exact a2),?_⟩;rw [jd];dsimp only;refine aC ?_;have P4:ae≠l1:=au rs.e nr;refine ⟨_,rfl,ae,rfl,⟨xs,SqT.of (by rw [az P4];exact s1 _ _ rs.e)⟩,?_⟩
   have IF:∀ {Hc:Hp} {o:HO},Same H Hc->Same H (upd Hc l1 o):=fun {Hc o} sm b u e=>by
    rw [az (au e nr)];exact sm _ _ e
   refine Du (xs:=xs) (fun i σ Hc=>∃ bP bS bg aS cm,σ=[some (.ref ap),some (.ref ae),some (.int n),some (.int y),some (.int (fl p 0)),some (.int (fl p 1)),some (.int (fl p 2)),some (.int (fl p 3)),some (.int (fl p 4)),some (.int (fl p 5)),some (.ref l1),bP,bS,bg,aS,cm]/\Same H Hc/\Hc l1=some (.lst (((ss.take i).foldl (hstep n y) (base0 p)).map V.int))) ?_ ?_ ?_ ?_
   ·exact ⟨none,none,none,none,none,rfl,IF s1,aa⟩
   ·rintro i σ Hc hi ⟨bP,bS,bg,aS,cm,rfl,sm,el⟩;exact SqT.of (sm _ _ rs.e)
   ·rintro i x σ Hc hx ⟨bP,bS,bg,aS,cm,rfl,sm,el⟩
    have hi:i < ss.length:=by
     have:=(zAa.mp hx).1;rw [rs.l] at this;exact this
    obtain ⟨tr,dA,cx⟩:=rs.g i ss[i] (zA0 hi)
    have:x=.ref tr:=by
     rw [hx] at dA;exact zAl dA
    subst this;obtain ⟨o1,⟨o2,o3⟩,o4,o5⟩:=fI ss[i] (zAh hi);have s5:=jX o1;have bq:ss.take (i+1)=ss.take i++[ss[i]]:=by rw [zAj,zA0 hi];rfl
    have A8:(ss.take (i+1)).foldl (hstep n y) (base0 p)=hstep n y ((ss.take i).foldl (hstep n y) (base0 p)) ss[i]:=by rw [bq,List.foldl_append];rfl
    rw [A8];generalize hL:(ss.take i).foldl (hstep n y) (base0 p)=L at el ⊢
    have lL:L.length=8:=by
     have:=dW p (ss.take i) n y;unfold bU at this;rw [zAx mS,hL] at this;exact this
    generalize ss[i]=r at cx s5 o2 o3 o4 o5 ⊢;rw [s5] at cx;refine ⟨tr,_,rfl,SqT.of (sm _ _ cx),rfl,_,_,rfl,_,_,rfl,_,_,rfl,_,_,rfl,_,_,rfl,rfl,?_⟩;refine ⟨_,rfl,_,rfl,rfl,_,rfl,?_⟩;by_cases hn:fl r 0=n
    ·rw [zAt (show V.int (fl r 0)=V.int n by rw [hn])];refine bQ ?_;refine ⟨_,rfl,_,rfl,_,_,rfl,rfl,_,rfl,?_⟩;by_cases hy:fl r 4<=y
     ·rw [zAt hy];refine bQ ?_;have e1:hstep n y L r=dN (dN L (fl r 1) (-(fl r 3))) (fl r 2) (fl r 3):=zAx ⟨hn,hy⟩;rw [e1];refine aC ?_;refine ⟨_,rfl,_,rfl,l1,_,fl r 1,_,rfl,rfl,SqL.of el,o2,dO (by lia),_,rfl,_,_,rfl,rfl,l1,_,fl r 1,(fl r 1).toNat,rfl,rfl,el,oK o2 (by rw [zA1];lia),?_⟩;rw [jd]
      have e2:L.set (fl r 1).toNat (L.getD (fl r 1).toNat 0 - fl r 3)=dN L (fl r 1) (-(fl r 3)):=by
       unfold dN;rw [Int.sub_eq_add_neg]
      rw [e2];generalize P5:dN L (fl r 1) (-(fl r 3))=L1;have V9:L1.length=8:=by rw [<- P5,gJ];exact lL
      refine ⟨_,rfl,_,rfl,l1,_,fl r 2,_,rfl,rfl,SqL.of aa,o4,dO (by lia),_,rfl,_,_,rfl,rfl,l1,_,fl r 2,(fl r 2).toNat,rfl,rfl,aa,oK o4 (by rw [zA1];lia),?_⟩;rw [jd];exact ⟨_,_,_,_,_,rfl,IF (IF sm),aa⟩
     ·rw [zAz hy];refine bB ?_;have e1:hstep n y L r=L:=zAw fun z=>hy z.2;rw [e1];exact ⟨_,_,_,_,_,rfl,sm,el⟩
    ·rw [zAz (fun z:V.int (fl r 0)=V.int n=>hn (by injection z))];refine bB (bB ?_);have e1:hstep n y L r=L:=zAw fun z=>hn z.1;rw [e1];exact ⟨_,_,_,_,_,rfl,sm,el⟩
   ·rintro σ Hc ⟨bP,bS,bg,aS,cm,rfl,sm,el⟩;rw [rs.l,zAm] at el;refine ⟨_,rfl,q _ _ sm ?_⟩;unfold bU;rw [zAx mS];exact el
  ·have hb:(decide (fl p 2<=y) && decide (y<=fl p 3))=false:=by
    cases e:(decide (fl p 2<=y) && decide (y<=fl p 3)) with
    | false=>rfl
    | true =>
     rw [zAc,decide_eq_true_eq,decide_eq_true_eq] at e;exact absurd e mS
   rw [hb];refine bQ ⟨_,rfl,q _ _ s1 ?_⟩;unfold bU;rw [zAw mS];exact el1
theorem Bu {te:TE}{lo:Int}{n:Nat}{cK:St}{j:Nat}{H0:Hp}{Fin:List V->Hp->Prop}(Pv:List V->Hp->Prop)(h0:Pv [] H0)(hz:n < sizeLine)
  (step:∀ i ys H Q,i < n->ys.length=i->Pv ys H->(∀ y H',Pv (ys++[y]) H'->Q y H')->te (cK.set j (some (.int (lo+i)))) H Q)
  (fin:∀ ys H,ys.length=n->Pv ys H->Fin ys H):jm (Itr lo n) (bw j) tX te Fin cK H0:=by
 refine ⟨fun i m ys σ H=>m=n - i/\i<=n/\ys.length=i/\(∀ o,σ.set j o=cK.set j o)/\Pv ys H,⟨_,rfl,zAp _,rfl,fun _=>rfl,h0⟩,?_⟩;rintro i m ys σ H ⟨rfl,hi,hy,iL,p⟩;refine ⟨by lia,?_⟩;by_cases ax:i < n
 ·refine .inr ⟨ax,fun x H' y=>?_⟩;obtain ⟨e,e2⟩:=y;subst e;subst e2;show te (σ.set j (some (.int (lo+i)))) H' _;rw [iL]
  exact step i ys H' _ ax hy p fun y H2 p2=>⟨n - (i+1),by lia,rfl,ax,by rw [zA2,hy];rfl,fun o=>by rw [List.set_set],p2⟩
 ·have e:i=n:=by lia
  subst e;exact .inl ⟨zA3 _,fin ys H hy p⟩
theorem J0 {σ:St}{H:Hp}{ta tb:TE}{i j:Int}(a:Ev σ H ta (.int i))(b:Ev σ H tb (.int j)):Ev σ H (tOp rNe ta tb) (.bl (!decide (i=j))):=fun Q q=>a _ (b _ ⟨rfl,by
 have ed:decide (V.int i=V.int j)=decide (i=j):=decide_eq_decide.mpr ⟨fun z=>by injection z,fun z=>by rw [z]⟩;rw [ed]
 exact q⟩)
theorem zm (a b:Int):(years a b).length=(b+1 - a).toNat:=by unfold years;rw [zA1,List.length_range]
theorem zq {a b:Int}{i:Nat}(h:i < (b+1 - a).toNat):(years a b)[i]?=some (a+i):=by
 unfold years;rw [zAb,List.getElem?_range h];rfl
theorem zr {α β:Type}{l:List α}{f:α->β}{ys:List β}{x:α}(ey:ys=(l.take ys.length).map f)(hx:l[ys.length]?=some x):ys++[f x]=(l.take (ys++[f x]).length).map f:=by
 rw [zA2,List.length_singleton,zAj,hx,zA4,<- ey];rfl
inductive SpBetwI (vs:List V)(H:Hp)(Q:VK):Prop
 | mk:∀ ap xp ps t s,(vs=[.ref ap,.ref t])->(RowsAt H ap xp ps)->((∀ r∈ps,okP r))->(H t=some (.tup (s.map V.int)))->(s.length=5)->(Q (.bl (uG ps s)) H)->SpBetwI  vs H Q
def Bv:Sp:=fun vs H Q _=>SpBetwI  vs H Q
inductive SpHoldsI (vs:List V)(H:Hp)(Q:VK):Prop
 | mk:∀ ap xp ps ae xs ss t s,(vs=[.ref ap,.ref ae,.ref t])->(RowsAt H ap xp ps)->((∀ r∈ps,okP r))->(RowsAt H ae xs ss)->(ss.length<=12)->((∀ s∈ss,okS s))->(H t=some (.tup (s.map V.int)))->(s.length=5)->(∀ H',Same H H'->Q (.bl (cH ps ss s)) H')->SpHoldsI  vs H Q
def xH:Sp:=fun vs H Q _=>SpHoldsI  vs H Q
def unV:Option Nat->V
 | none=>.non
 | some i=>.int i
inductive SpFirstI (vs:List V)(H:Hp)(Q:VK):Prop
 | mk:∀ S v d S' u e,(vs=[v,u])->(IsTh S H v d)->(IsTh S' H u e)->(fc d=true)->(fj e=true)->(sz d<=4000)->(sz e<=4000)->(∀ H',Same H H'->Q (unV (un (rowsOf d) (rowsOf e))) H')->SpFirstI  vs H Q
def xJ:Sp:=fun vs H Q _=>SpFirstI  vs H Q
theorem prom_ok {ps:List (List Int)}{n:Int}(h:∀ r∈ps,okP r)(h0:0<=n)(h1:n < ps.length):∃ p,ps[n.toNat]?=some p/\ps.getD n.toNat []=p/\okP p:=by
 have hn:n.toNat < ps.length:=by lia
 refine ⟨ps[n.toNat],zA0 hn,?_,h _ (zAh hn)⟩;rw [zA7,zA0 hn];rfl
theorem rows_at {H:Hp}{a:Addr}{xs:List V}{rs:List (List Int)}{n:Int}{r:List Int}(h:RowsAt H a xs rs)(h0:0<=n)(e:rs[n.toNat]?=some r):∃ t,atI xs n=some (.ref t)/\H t=some (.tup (r.map V.int)):=by
 obtain ⟨t,e1,e2⟩:=h.g _ _ e;refine ⟨t,?_,e2⟩;have:=cY e1;rw [show ((n.toNat:Nat):Int)=n by lia] at this;exact this
theorem sc24s:FnScope ["promises","sale","number","seller","buyer","sacks","year","holder","sort","first","last","due","price"] ["promises","sale"] (aG (top 32)):=fS
theorem Eo (F:Fun K "is_sale_between" "is_sale_between" (top 32) f fd)(T:Mg mg)(N:Nums mg):FnOk P w K mg base CX0 1 f fd ["promises","sale"] Bv:=by
 refine F.ok sc24s (fun vs H Q E h=>?_) (fun ar A outer s H vs Q E hr h=>?_)
 ·obtain ⟨ap,xp,ps,t,r,rfl,_⟩:=h;rfl
 ·obtain ⟨ap,xp,ps,t,r,rfl,rp,okp,et,h5,q⟩:=h;obtain ⟨t1,e1⟩:=N.holders;obtain ⟨t4,e4⟩:=N.sacks
  refine ⟨_,aB (cz (pv 1) (bJ rfl (ao (pgn 2 sc24s.nd) (ao (pgn 3 sc24s.nd) (ao (pgn 4 sc24s.nd) (ao (pgn 5 sc24s.nd) (ao (pgn 6 sc24s.nd) aV)))))))
   (aB (cF (cW (nA cJ jl aA (pv 2) (aN cg rfl T.len PySem.boot_len (aq (pv 0) aj)))) (aD (aR mZ)) bf)
   (aB (cz (pX bO (pv 0) (pv 2)) (bJ rfl (ao (pgn 7 sc24s.nd) (ao (pgn 8 sc24s.nd) (ao (pgn 9 sc24s.nd)
    (ao (pgn 10 sc24s.nd) (ao (pgn 11 sc24s.nd) (ao (pgn 12 sc24s.nd) aV))))))))
   (aD (aR (cM (dh cJ jl aA (pv 3) (bV (v:=.int 8) rfl e1 ⟨_,rfl⟩)) (cM (dh cJ jl aA (pv 4) (bV (v:=.int 8) rfl e1 ⟨_,rfl⟩)) (cM (jE Fw (pv 3) (pv 4) (bA _))
    (cM (dh cJ cJ aA (pv 5) (bV (v:=.int 99) rfl e4 ⟨_,rfl⟩)) (eV (dh cJ cJ (pv 9) (pv 6) (pv 10))))))))))),?_⟩
  rw [jX h5] at et;refine aC ?_;refine ⟨_,rfl,t,_,rfl,SqT.of et,rfl,_,_,rfl,_,_,rfl,_,_,rfl,_,_,rfl,_,_,rfl,rfl,?_⟩;dsimp only;refine aC ?_;refine cT (p:=fun i j=>decide (i<=j)) (q:=fun i j=>decide (i < j)) (i:=0) (j:=fl r 0) (k:=(xp.length:Int)) il (gh rfl) (fun Q h=>⟨_,rfl,ap,xp,rfl,.inr (SqT.of rp.e),h⟩) _ ⟨_,rfl,?_⟩;have fin:=q;unfold uG at fin;rw [rp.l]
  cases e:(decide (0<=fl r 0) && decide (fl r 0 < ps.length)) with
  | false =>
   rw [e] at fin;exact bQ fin
  | true =>
   rw [e] at fin;rw [zAc,decide_eq_true_eq,decide_eq_true_eq] at e;obtain ⟨p,hp,ep,op⟩:=prom_ok okp e.1 e.2;obtain ⟨tp,gg,hV⟩:=rows_at rp e.1 hp;rw [six_row op.1] at hV;refine bB (dD ?_);dsimp only;refine aC ?_;refine ⟨_,rfl,_,rfl,ap,xp,_,.ref tp,rfl,rfl,SqT.of rp.e,gg,?_⟩;refine ⟨tp,_,rfl,SqT.of hV,rfl,_,_,rfl,_,_,rfl,_,_,rfl,_,_,rfl,_,_,rfl,_,_,rfl,rfl,?_⟩;have IG:sU ps r=p:=ep;rw [IG] at fin;exact iQ (cT il (gh rfl) il) (fun _=>iQ (cT il (gh rfl) il) fun _=>iQ (J0 (gh rfl) (gh rfl)) fun _=>iQ (cT il (gh rfl) il) fun _=>cT (gh rfl) (gh rfl) (gh rfl)) _ fin
theorem sc25s:FnScope ["promises","ahead","sale","number","seller","buyer","sacks","year","last"] ["promises","ahead","sale"] (aG (top 33)):=fS
theorem JT:(["at","promises","ahead","number","seller","sacks"]:List Str).Nodup:=by decide +kernel
theorem Bw (F:Fun K "sale_holds" "sale_holds" (top 33) f fd)(T:Mg mg)(Tr:mg "range" = none)(c1:Cal P w K mg base 1 "is_sale_between" ["promises","sale"] Bv)(c2:Cal P w K mg base 1 "held_in" ["promises","sales","number","year"] vJ) :
  FnOk P w K mg base CX0 2 f fd ["promises","ahead","sale"] xH:=by
 refine F.ok sc25s (fun vs H Q E h=>?_) (fun ar A outer s H vs Q E hr h=>?_)
 ·obtain ⟨ap,xp,ps,ae,xs,ss,t,r,rfl,_⟩:=h;rfl
 ·obtain ⟨ap,xp,ps,ae,xs,ss,t,r,rfl,rp,okp,rs,hl,fI,et,h5,q⟩:=h
  refine ⟨_,aB (cF (cW (dF (aF c1 hr (aq (pv 0) (aq (pv 2) aj))))) (aD (aR mZ)) bf)
   (aB (cz (pv 2) (bJ rfl (ao (bh (i:=3) sc25s.nd rfl (Or.inr rfl)) (ao (bh (i:=4) sc25s.nd rfl (Or.inr rfl)) (ao (pgn 5 sc25s.nd) (ao (bh (i:=6) sc25s.nd rfl (Or.inr rfl)) (ao (pgn 7 sc25s.nd) aV)))))))
   (aB (pss 8 sc25s.nd (pX bO (pX bO (pv 0) (pv 3)) aA))
   (aD (aR (aN (fY rfl) rfl T.all boot_all (aq (bC ["at","promises","ahead","number","seller","sacks"] [none,some 0,some 1,some 3,some 4,some 6] rfl (qb rfl Tr (aq (pv 7) (aq (aU bZ (pv 8) aA) aj)))
    (fun C fp pins s₂ H₂=>⟨pgn 0 JT,bu,jE Ag (pX (jW (K:=K) rfl) (aF c2 hr (aq (pv 1) (aq (pv 2) (aq (pv 3) (aq (pv 0) aj))))) (pv 4)) (pv 5) (bA _)⟩)
    (fun C=>cI (cI (cI (cI (cI trivial))))) ⟨rfl,rfl,rfl,rfl⟩) aj)))))),?_⟩
  have fin:=q;unfold cH at fin;refine aC ?_;refine ⟨_,rfl,_,rfl,ap,xp,ps,t,r,rfl,rp,okp,et,h5,_,rfl,?_⟩
  cases e:uG ps r with
  | false =>
   rw [e] at fin;exact bQ (fin _ (Same.refl _))
  | true =>
   rw [e] at fin;refine bB (dD ?_);dsimp only;refine aC ?_;unfold uG at e;simp only [Bool.and_eq_true,decide_eq_true_eq] at e;obtain ⟨⟨n0,n1⟩,⟨b0,b1⟩,_,_,⟨k0,k1⟩,y0,y1⟩:=e;obtain ⟨p,hp,ep,op⟩:=prom_ok okp n0 n1;have IG:sU ps r=p:=ep;rw [IG] at fin y0 y1;obtain ⟨tp,gg,hV⟩:=rows_at rp n0 hp;rw [jX h5] at et;rw [six_row op.1] at hV;obtain ⟨_,_,_,⟨g1,g2,g3⟩,_⟩:=id op;refine ⟨_,rfl,t,_,rfl,SqT.of et,rfl,_,_,rfl,_,_,rfl,_,_,rfl,_,_,rfl,_,_,rfl,rfl,?_⟩;dsimp only;refine aC (aW ?_);refine ⟨_,rfl,_,rfl,ap,xp,_,.ref tp,rfl,rfl,SqT.of rp.e,gg,tp,_,3,.int (fl p 3),rfl,rfl,SqT.of hV,rfl,?_⟩;refine aH ?_;dsimp only;refine ⟨_,rfl,_,rfl,_,_,rfl,rfl,fl r 4,fl p 3+1,rfl,⟨by lia,by lia,by lia,by lia⟩,?_⟩;refine Bu (fun ys Hc=>Same H Hc/\ys=((years (fl r 4) (fl p 3)).take ys.length).map fun y=>V.bl (decide (fl r 3<=(bU p ss (fl r 0) y).getD (fl r 1).toNat 0))) ⟨Same.refl _,rfl⟩ (by rw [sizeLine_eq];lia) ?_ ?_
   ·rintro i ys Hc Qc hi hy ⟨sc,ey⟩ qc;refine ⟨_,rfl,_,rfl,_,rfl,_,rfl,ap,xp,ps,ae,xs,ss,fl r 0,fl r 4+i,rfl,rp.same sc,rs.same sc,n0,n1,by rw [ep];exact op,hl,fI,fun l H' s' el=>?_⟩;rw [ep] at el;refine ⟨_,rfl,l,_,fl r 1,.int ((bU p ss (fl r 0) (fl r 4+i)).getD (fl r 1).toNat 0),rfl,rfl,SqL.of el,?_,_,rfl,_,_,rfl,rfl,qc _ _ ⟨sc.trans s',?_⟩⟩
    ·unfold atI;rw [oK b0 (by rw [zA1,dW];lia)];exact dO (by rw [dW];lia)
    ·have hx:(years (fl r 4) (fl p 3))[ys.length]?=some (fl r 4+(i:Int)):=by
      rw [hy];exact zq hi
     exact zr ey hx
   ·rintro ys Hc hy ⟨sc,ey⟩ D hD;rw [List.take_of_length_le (by rw [zm,hy];exact zA3 _)] at ey;refine ⟨D,(years (fl r 4) (fl p 3)).map fun y=>decide (fl r 3<=(bU p ss (fl r 0) y).getD (fl r 1).toNat 0),rfl,SqL.of (by rw [zAr];rw [ey];exact aa),?_⟩;rw [List.all_map];exact fin _ (sc.updR hD)
theorem jY {xs:List V}{i:Nat}(h:i<=xs.length):jF xs none (some (i:Int))=xs.take i:=by
 unfold jF;rw [HT.sIx_none,HT.sIx_nat,List.drop_zero,Nat.min_eq_left h,Nat.sub_zero]
theorem RowsAt.cut {H:Hp}{a p:Addr}{xs:List V}{rs:List (List Int)}(h:RowsAt H a xs rs)(i:Nat)(hp:H p=none):RowsAt (upd H p (.tup (xs.take i))) p (xs.take i) (rs.take i):=by
 refine ⟨aa,by rw [zAd,zAd,h.l],fun j r e=>?_⟩
 have hj:j < i:=by
  rw [List.getElem?_take] at e;split at e
  ·assumption
  ·cases e
 rw [List.getElem?_take_of_lt hj] at e;obtain ⟨t,e1,e2⟩:=h.g j r e;exact ⟨t,by rw [List.getElem?_take_of_lt hj];exact e1,Same.upd hp _ _ e2⟩
theorem xK {ps ss:List (List Int)}{i:Nat}(h:∀ j,j < i->cH ps (ss.take j) (ss.getD j [])=true)(hi:i < ss.length)(hn:cH ps (ss.take i) (ss.getD i [])=false):un ps ss=some i:=by
 unfold un;rw [List.find?_range_eq_some];exact ⟨by rw [hn];rfl,List.mem_range.mpr hi,fun j hj=>by rw [h j hj];rfl⟩
theorem xM {ps ss:List (List Int)}(h:∀ j,j < ss.length->cH ps (ss.take j) (ss.getD j [])=true):un ps ss=none:=by
 unfold un;rw [List.find?_range_eq_none]
 exact fun j hj=>by rw [h j hj];rfl
theorem oM {ps ss:List (List Int)}{s:List Int}(h5:s.length=5)(h:cH ps ss s=true):okS s:=by
 unfold cH uG at h;simp only [Bool.and_eq_true,decide_eq_true_eq] at h;exact ⟨h5,h.1.2.1,h.1.2.2.1⟩
theorem getD_get {ss:List (List Int)}{i:Nat}(h:i < ss.length):ss.getD i []=ss[i]:=by
 rw [zA7,zA0 h];rfl
def part (d:PyData)(i:Nat):PyData:=(items d).getD i .none
def jZ (d:PyData):Bool:=bG d 3 3 && (fZ (part d 0) && (fc (part d 1) && (fj (part d 2) && (un (rowsOf (part d 1)) (rowsOf (part d 2))).isNone)))
theorem sc26s:FnScope ["promises","sales","at","sale"] ["promises","sales"] (aG (top 34)):=fS
theorem Bx (F:Fun K "first_unheld" "first_unheld" (top 34) f fd)(Te:mg "enumerate" = none)(c1:Cal P w K mg base 4 "are_promises" ["thing"] (spT fc))(c2:Cal P w K mg base 3 "are_sales" ["thing"] (spT fj))(c3:Cal P w K mg base 2 "sale_holds" ["promises","ahead","sale"] xH) :
  FnOk P w K mg base CX0 5 f fd ["promises","sales"] xJ:=by
 refine F.ok sc26s (fun vs H Q E h=>?_) (fun ar A outer s H vs Q E hr h=>?_)
 ·obtain ⟨S,v,d,S',u,e,rfl,_⟩:=h;rfl
 ·obtain ⟨S,v,d,S',u,e,rfl,M0,ths,hp,hs,zp,zs,q⟩:=h
  refine ⟨_,aB (cF (cW (dF (aF c1 hr (aq (pv 0) aj)))) q9 bf)
   (aB (cF (cW (dF (aF c2 hr (aq (pv 1) aj)))) q9 bf)
   (aB (bY zB3 rfl (pi_enum rfl Te (aq (pv 1) aj)) (bJ rfl (ao (pgn 2 sc26s.nd) (ao (pgn 3 sc26s.nd) aV)))
    (aD (cF (cW (dF (aF c3 hr (aq (pv 0) (aq (fV wM (pv 1) gY (gZ (pv 2))) (aq (pv 3) aj)))))) (aD (aR (pv 2))) bf)))
   (aD (aR rm)))),?_⟩
  refine aC ?_;refine ⟨_,rfl,S,v,d,rfl,M0,zp,fun H1 s1=>⟨_,rfl,?_⟩⟩;rw [hp];refine bB (dD ?_);dsimp only;refine aC ?_;refine ⟨_,rfl,S',u,e,rfl,ths.same s1,zs,fun H2 s2=>⟨_,rfl,?_⟩⟩;rw [hs];refine bB (dD ?_);dsimp only;have yn:=s1.trans s2;obtain ⟨ep,lp,okp⟩:=vH hp;obtain ⟨es,ls,fI⟩:=vI hs;have fF:=M0.same yn;have IH:=ths.same yn;rw [ep] at fF;rw [es] at IH;generalize rowsOf d=ps at q lp okp fF;generalize rowsOf e=ss at q ls fI IH;obtain ⟨ap,xp,rfl,rp⟩:=th_rows fF;obtain ⟨ae,xs,rfl,rs⟩:=th_rows IH;refine aC ?_;refine ⟨_,rfl,ae,xs,rfl,SqT.of rs.e,?_⟩;refine gF (xs:=xs) (fun i σ Hc=>∃ x2 x3,σ=[some (.ref ap),some (.ref ae),x2,x3]/\Same H2 Hc/\∀ j,j < i->cH ps (ss.take j) (ss.getD j [])=true) ?_ ?_ ?_ ?_
  ·exact ⟨none,none,rfl,Same.refl _,fun j hj=>absurd hj (Nat.not_lt_zero _)⟩
  ·rintro i σ Hc hi ⟨x2,x3,rfl,sm,hh⟩;exact SqT.of (sm _ _ rs.e)
  ·rintro i x σ Hc T0 hx ⟨x2,x3,rfl,sm,hh⟩ nT
   have hi:i < ss.length:=by
    have:=(zAa.mp hx).1;rw [rs.l] at this;exact this
   have yy:i < xs.length:=by rw [rs.l];exact hi
   obtain ⟨tr,dA,cx⟩:=rs.g i ss[i] (zA0 hi)
   have:x=.ref tr:=by
    rw [hx] at dA;exact zAl dA
   subst this;have h5:=fI ss[i] (zAh hi);have sT:=sm.updR (o:=.tup [V.int i,V.ref tr]) nT;refine ⟨T0,_,rfl,SqT.of aa,rfl,_,_,rfl,_,_,rfl,rfl,?_⟩;refine ⟨_,rfl,_,rfl,_,rfl,i,rfl,ae,xs,rfl,SqT.of (sT _ _ rs.e),fun hw=>?_,fun _ p M3=>?_⟩
   ·have:=hw.2;rw [HT.sIx_nat] at this;exact absurd this (by lia)
   rw [jY (Nat.le_of_lt yy)];have sp:=sT.updR (o:=.tup (xs.take i)) M3;refine ⟨_,rfl,ap,xp,ps,p,xs.take i,ss.take i,tr,ss[i],rfl,rp.same sp,okp,(rs.same sT).cut i M3,?_,?_,sp _ _ cx,h5,fun H' s'=>⟨_,rfl,?_⟩⟩
   ·rw [zAd];lia
   ·intro s cw;obtain ⟨j,hj,e'⟩:=List.getElem_of_mem cw;rw [zAd] at hj;have P6:j < i:=by lia
    have M4:j < ss.length:=by lia
    have e2:ss[j]=s:=by rw [<- e',List.getElem_take]
    rw [<- e2];have:=hh j P6;rw [getD_get M4] at this;exact oM (fI _ (zAh M4)) this
   ·cases eh:cH ps (ss.take i) ss[i] with
    | false =>
     refine bQ ⟨_,rfl,?_⟩;have:=q H' (yn.trans (sp.trans s'));rw [xK hh hi (by rw [getD_get hi];exact eh)] at this;exact this
    | true =>
     refine bB ⟨_,_,rfl,sp.trans s',fun j hj=>?_⟩;rcases Nat.lt_succ_iff_lt_or_eq.mp hj with z | z
     ·exact hh j z
     ·rw [z,getD_get hi];exact eh
  ·rintro σ Hc ⟨x2,x3,rfl,sm,hh⟩;have:=q Hc (yn.trans sm);rw [xM fun j hj=>hh j (by rw [rs.l];exact hj)] at this;exact this
theorem sc27s:FnScope ["thing","clips","promises","sales"] ["thing"] (aG (top 35)):=fS
theorem ok_book (F:Fun K "is_book" "is_book" (top 35) f fd)(c0:Cal P w K mg base 1 "is_tuple_of" ["thing","fewest","most"] (lE bG))(c1:Cal P w K mg base 4 "are_clips" ["thing"] (spT fZ))(c2:Cal P w K mg base 4 "are_promises" ["thing"] (spT fc))(c3:Cal P w K mg base 3 "are_sales" ["thing"] (spT fj))(c4:Cal P w K mg base 5 "first_unheld" ["promises","sales"] xJ) :
  FnOk P w K mg base CX0 6 f fd ["thing"] (spT jZ):=by
 refine F.ok sc27s (fun vs H Q E h=>?_) (fun ar A outer s H vs Q E hr h=>?_)
 ·obtain ⟨S,v,d,rfl,_⟩:=h;rfl
 ·obtain ⟨S,v,d,rfl,th,hz,q⟩:=h
  refine ⟨_,aB (cF (cW (dF (aF c0 hr (aq (pv 0) (aq aA (aq aA aj)))))) (aD (aR mZ)) bf)
   (aB (cz (pv 0) (bJ rfl (ao (pgn 1 sc27s.nd) (ao (pgn 2 sc27s.nd) (ao (pgn 3 sc27s.nd) aV)))))
   (aD (aR (cM (aF c1 hr (aq (pv 1) aj)) (cM (aF c2 hr (aq (pv 2) aj)) (cM (aF c3 hr (aq (pv 3) aj)) (eV (jE Ah (aF c4 hr (aq (pv 2) (aq (pv 3) aj))) rm (bA _))))))))),?_⟩
  have fin:=q;unfold jZ at fin;refine aC ?_;refine ⟨_,rfl,S,v,d,3,3,rfl,th,hz,fun H1 s1=>⟨_,rfl,?_⟩⟩
  cases e:bG d 3 3 with
  | false =>
   rw [e] at fin;exact bQ (fin _ s1)
  | true =>
   rw [e] at fin;refine bB (dD ?_);dsimp only;obtain ⟨ds,rfl,l1,l2⟩:=lH e;have fF:=th.same s1
   cases fF with
   | @tup a xs _ ea r =>
    obtain ⟨v0,v1,v2,d0,d1,d2,rfl,rfl,h0,h1,h2⟩:=zb r (show ds.length=3 by lia);have z0:=jU (d:=d0) (by simp) hz;have z1:=jU (d:=d1) (by simp) hz;have z2:=jU (d:=d2) (by simp) hz;refine aC ?_;refine ⟨_,rfl,a,_,rfl,SqT.of ea,rfl,_,_,rfl,_,_,rfl,_,_,rfl,rfl,?_⟩;dsimp only;have fin:∀ H',Same H H'->Q (.bl (true && (fZ d0 && (fc d1 && (fj d2 && (un (rowsOf d1) (rowsOf d2)).isNone))))) H':=fin;refine ⟨_,rfl,S,_,d0,rfl,h0,z0,fun H2 s2=>⟨_,rfl,?_⟩⟩
    cases e0:fZ d0 with
    | false =>
     rw [e0] at fin;exact bB (fin _ (s1.trans s2))
    | true =>
     rw [e0] at fin;refine bQ ?_;refine ⟨_,rfl,S,_,d1,rfl,h1.same s2,z1,fun H3 s3=>⟨_,rfl,?_⟩⟩
     cases e1:fc d1 with
     | false =>
      rw [e1] at fin;exact bB (fin _ ((s1.trans s2).trans s3))
     | true =>
      rw [e1] at fin;refine bQ ?_;refine ⟨_,rfl,S,_,d2,rfl,h2.same (s2.trans s3),z2,fun H4 s4=>⟨_,rfl,?_⟩⟩
      cases e2:fj d2 with
      | false =>
       rw [e2] at fin;exact bB (fin _ (((s1.trans s2).trans s3).trans s4))
      | true =>
       rw [e2] at fin;refine bQ ?_;have II:=(s2.trans s3).trans s4;refine ⟨_,rfl,_,rfl,S,_,d1,S,_,d2,rfl,h1.same II,h2.same II,e1,e2,z1,z2,fun H5 s5=>⟨rfl,?_⟩⟩;have:=fin H5 (s1.trans (II.trans s5))
       cases eu:un (rowsOf d1) (rowsOf d2) with
       | none =>
        rw [eu] at this;exact this
       | some i =>
        rw [eu] at this;exact this
def Els (H:Hp)(xs:List V)(rs:List (List Int)):Prop:=xs.length=rs.length/\∀ (i:Nat) (r:List Int),rs[i]?=some r->∃ t,xs[i]?=some (V.ref t)/\H t=some (.tup (r.map V.int))
theorem Els.keep {H H':Hp}{xs:List V}{rs:List (List Int)}(h:Els H xs rs)(k:∀ b l,H b=some (.tup l)->H' b=some (.tup l)):Els H' xs rs :=
 ⟨h.1,fun i r e=>by
  obtain ⟨t,e1,e2⟩:=h.2 i r e
  exact ⟨t,e1,k _ _ e2⟩⟩
theorem Els.same {H H':Hp}{xs:List V}{rs:List (List Int)}(h:Els H xs rs)(s:Same H H'):Els H' xs rs:=h.keep fun _ _ e=>s _ _ e
theorem Els.nil {H:Hp}:Els H [] []:=⟨rfl,fun i r e=>by simp at e⟩
theorem Els.app {H:Hp}{xs ys:List V}{rs qs:List (List Int)}(h:Els H xs rs)(g:Els H ys qs):Els H (xs++ys) (rs++qs):=by
 refine ⟨by rw [zA2,zA2,h.1,g.1],fun i r e=>?_⟩;by_cases hi:i < rs.length
 ·rw [zBc hi] at e;obtain ⟨t,e1,e2⟩:=h.2 i r e;exact ⟨t,by rw [zBc (by rw [h.1];exact hi)];exact e1,e2⟩
 ·rw [zB8 (by lia)] at e;obtain ⟨t,e1,e2⟩:=g.2 _ r e;exact ⟨t,by rw [zB8 (by rw [h.1];lia),h.1];exact e1,e2⟩
theorem Els.one {H:Hp}{t:Addr}{r:List Int}(e:H t=some (.tup (r.map V.int))):Els H [.ref t] [r]:=⟨rfl,fun i q e'=>by
 cases i with
 | zero =>
  rw [List.getElem?_cons_zero] at e';cases e';exact ⟨t,rfl,e⟩
 | succ i=>simp at e'⟩
theorem bR {r:List Int}(h:r.length=4):r=[fl r 0,fl r 1,fl r 2,fl r 3]:=by
 match r,h with
 | [a,b,c,d],_=>rfl
theorem pU {t:TS}{D:Ends}{N:L2.St->Hp->Prop}{σ:L2.St}{H:Hp}(h:∀ D':Ends,(∀ σ H,N σ H->D'.nx σ H)->t D' σ H):t { D with nx:=N,ct:=N,bk:=D.nx } σ H:=h _ fun _ _ z=>z
theorem comp_gen {J:It}{g:TG}{te:TE}{cK:St}{H0:Hp}{Fin:List V->Hp->Prop}(n:Nat)(Pv:Nat->List V->St->Hp->Prop)(h0:Pv 0 [] cK H0)(hz:n < sizeLine)
  (step:∀ i ys σ H,i < n->ys.length=i->Pv i ys σ H->J.go i H/\∀ x H',J.yld i H x H'->∀ R:V->St->Hp->Prop,(∀ y aT H4,Pv (i+1) (ys++[y]) aT H4->R y aT H4)->g x σ H' fun aT H2=>te aT H2 fun y H4=>R y aT H4)
  (fin:∀ ys σ H,ys.length=n->Pv n ys σ H->J.stop n H/\Fin ys H):jm J g tX te Fin cK H0:=by
 refine ⟨fun i m ys σ H=>m=n - i/\i<=n/\ys.length=i/\Pv i ys σ H,⟨_,rfl,zAp _,rfl,h0⟩,?_⟩;rintro i m ys σ H ⟨rfl,hi,hy,p⟩;refine ⟨by lia,?_⟩;by_cases ax:i < n
 ·obtain ⟨go,st⟩:=step i ys σ H ax hy p;exact .inr ⟨go,fun x H' y=>st x H' y _ fun y aT H4 p2=>⟨n - (i+1),by lia,rfl,ax,by rw [zA2,hy];rfl,p2⟩⟩
 ·have e:i=n:=by lia
  subst e;exact .inl (fin ys σ H hy p)
def wts (rs:List (List Int)):List Int:=rs.map fun r=>fl r 3
def dZ (rs:List (List Int)):Int:=(wts rs).sum
inductive SpSacksI (vs:List V)(H:Hp)(Q:VK):Prop
 | mk:∀ l xs rs,(vs=[.ref l])->(H l=some (.lst xs))->(Els H xs rs)->((∀ r∈rs,r.length=4))->(rs.length<=100000)->(∀ H',Same H H'->Q (.int (dZ rs)) H')->SpSacksI  vs H Q
def xN:Sp:=fun vs H Q _=>SpSacksI  vs H Q
theorem boot_sum:bootBuiltins "sum" = some (.builtin "sum"):=by decide +kernel
theorem nd4:(["due","number","holder","sacks"]:List Str).Nodup:=by decide +kernel
theorem JV:FnScope ["rows"] ["rows"] (aG (top 46)):=fS
theorem By (F:Fun K "sacks_of" "sacks_of" (top 46) f fd)(Ts:mg "sum" = none):FnOk P w K mg base CX0 1 f fd ["rows"] xN:=by
 refine F.ok JV (fun vs H Q E h=>?_) (fun ar A outer s H vs Q E hr h=>?_)
 ·obtain ⟨l,xs,rs,rfl,_⟩:=h;rfl
 ·obtain ⟨l,xs,rs,rfl,el,els,h4,hz,q⟩:=h
  refine ⟨_,aD (aR (aN (cV rfl) rfl Ts boot_sum (aq (bC (g:=jj K 4 (bN (bw 0) (bN (bw 1) (bN (bw 2) (bN (bw 3) jo))))) ["due","number","holder","sacks"] [none,none,none,none] rfl (bW (pv 0))
   (fun C fp pins s₂ H₂=>⟨cZ rfl rfl (ao (pgn 0 nd4) (ao (pgn 1 nd4) (ao (pgn 2 nd4) (ao (pgn 3 nd4) aV)))),bu,pv 3⟩) (fun C=>trivial) ⟨rfl,rfl,rfl,rfl⟩) aj))),?_⟩
  refine ⟨_,rfl,l,rfl,⟨_,SqL.of el⟩,comp_gen rs.length (fun i ys σ Hc=>Same H Hc/\(∃ o1 o2 o3 o4,σ=[o1,o2,o3,o4])/\ys=(wts (rs.take i)).map V.int) ⟨Same.refl H,⟨_,_,_,_,rfl⟩,rfl⟩ (by rw [sizeLine_eq];lia) ?_ ?_⟩
  ·rintro i ys σ Hc hi hy ⟨s1,⟨o1,o2,o3,o4,rfl⟩,rfl⟩;obtain ⟨t,ex,et⟩:=els.2 i rs[i] (zA0 hi);rw [bR (h4 _ (zAh hi))] at et;refine ⟨⟨_,_,SqL.of (s1 _ _ el),ex⟩,fun v H' y R hR=>?_⟩;obtain ⟨rfl,y⟩:=y;have hv:=y _ (SqL.of (s1 _ _ el));rw [ex] at hv;cases hv;refine ⟨t,_,rfl,SqT.of (s1 _ _ et),rfl,_,_,rfl,_,_,rfl,_,_,rfl,_,_,rfl,rfl,_,rfl,hR _ _ _ ⟨s1,⟨_,_,_,_,rfl⟩,?_⟩⟩;unfold wts;rw [zAj,zA0 hi,zA4,zA4];rfl
  ·rintro ys σ Hc hy ⟨s1,_,rfl⟩;refine ⟨⟨_,SqL.of (s1 _ _ el),by rw [els.1];exact zA3 _⟩,fun D hD=>?_⟩;rw [zAm];exact ⟨D,wts rs,rfl,.inl (SqL.of aa),q _ (s1.updR hD)⟩
end K61
open K61 (top dz items intOf bG nd1 Bq sJ sO jU gb spT lE Mg boot_tuple boot_all dG Cal aF mD boot_sum comp_gen sc1 gK room_sz jY)
namespace K61P
open PySem L2
structure Nums (mg:Str->Option Value):Prop where
 many:∃ t,mg "MOST_WEIGHTS" = some (.int 80 t)
 most:∃ t,mg "MOST_WEIGHT" = some (.int 99 t)
def iW (d:PyData):Bool:=bG d 1 80 && (items d).all fun x=>mD x 1 99
theorem boot_sorted:bootBuiltins "sorted" = some (.builtin "sorted"):=by decide +kernel
theorem nd2 (x y:Str)(h:x≠y):([x,y]:List Str).Nodup:=by simp [h]
section
variable {P:Program}{w:World}{K:Frag}{mg:Str->Option Value}{base:Heap}{f:Addr}{fd:FuncData}
theorem JW:FnScope ["thing"] ["thing"] (aG (top 40)):=fS
theorem ok_are_weights (F:Fun K "are_weights" "are_weights" (top 40) f fd)(T:Mg mg)(N:Nums mg)(c1:Cal P w K mg base 2 "is_whole_from" ["thing","least","most"] (lE mD))(c2:Cal P w K mg base 1 "is_tuple_of" ["thing","fewest","most"] (lE bG)) :
  FnOk P w K mg base CX0 4 f fd ["thing"] (spT iW):=by
 refine F.ok JW (fun vs H Q E h=>?_) (fun ar A outer s H vs Q E hr h=>?_)
 ·obtain ⟨S,v,d,rfl,_⟩:=h;rfl
 ·obtain ⟨S,v,d,rfl,th,hz,q⟩:=h;obtain ⟨t3,e3⟩:=N.many;obtain ⟨t4,e4⟩:=N.most
  refine ⟨_,aD (aR (cM (aF c2 hr (aQ (pv 0) (aQ aA (aQ (bV (v:=.int 80) rfl e3 ⟨_,rfl⟩) aj))))
   (eV (aN (fY rfl) rfl T.all boot_all (aQ (bC ["part"] [none] rfl (fQ (pv 0))
    (fun C fp pins s₂ H₂=>⟨bh (i:=0) (nd1 _) rfl (Or.inl rfl),bu,aF c1 hr (aQ (pv 0) (aQ aA (aQ (bV (v:=.int 99) rfl e4 ⟨_,rfl⟩) aj)))⟩) (fun C=>trivial) ⟨rfl,rfl,rfl,rfl⟩) aj))))),?_⟩
  refine ⟨_,rfl,S,v,d,1,80,rfl,th,hz,fun H1 s1=>⟨_,rfl,?_⟩⟩;have fF:=th.same s1;have fin:=fun H' (s:Same H H')=>q H' s;unfold iW at fin
  cases e:bG d 1 80 with
  | false =>
   rw [e] at fin;exact bB (fin _ s1)
  | true =>
   rw [e] at fin;refine bQ ?_
   cases fF with
   | @tup a xs ds ea r=>exact dG (fun x=>mD x 1 99) rfl ea r (gb r hz) (fun v d H2 Q2 hm s2 t2 q2=>⟨_,rfl,S,v,d,1,99,rfl,t2,jU hm hz,q2⟩) fun H2 s2=>fin _ (s1.trans s2)
   | _=>cases e
end
section
variable {X:Cx}{K:Frag}{tg l:Expr}{tl:TE}
theorem BJ (hK:X.K=K)(hl:PE X l tl):PI X tg l (Fv K tl):=by
 subst hK;exact bW hl
theorem ix_tupK (hK:X.K=K):IxR X (HN K):=by
 subst hK;exact bO
theorem call_tuple_ofK (hK:X.K=K):dJ X (.type "tuple") (fun xs H Q=>∃ p ys,xs=[.ref p]/\((SqL K H p ys/\∀ l,H l=none->Q (.ref l) (upd H l (.tup ys)))\/(SqT K H p ys/\Q (.ref p) H))):=by
 subst hK;exact bF
end
def StAt (H:Hp)(st:Addr):Prop:=∃ a b c:Int,H st=some (.lst [.int a,.int b,.int c])/\0<=a/\0<=b/\b < 4294967296
structure Dr (st:Addr)(H H':Hp):Prop where
 bt:∀ b o,H b=some o->b≠st->H' b=some o
 sa:StAt H' st
theorem Dr.same {st:Addr}{H H1 H2:Hp}(g:Dr st H H1)(s:Same H1 H2):Dr st H H2:=by
 obtain ⟨a,b,c,e,h⟩:=g.sa;exact ⟨fun b' o' e' ne=>s _ _ (g.bt b' o' e' ne),a,b,c,s _ _ e,h⟩
theorem Dr.trans {st:Addr}{H H1 H2:Hp}(g:Dr st H H1)(g':Dr st H1 H2):Dr st H H2:=⟨fun b' o' e' ne=>g'.bt _ _ (g.bt b' o' e' ne) ne,g'.sa⟩
theorem Dr.refl {st:Addr}{H:Hp}(h:StAt H st):Dr st H H:=⟨fun _ _ e _=>e,h⟩
theorem Dr.draw {st:Addr}{H H1:Hp}(g:Dr st H H1){a b c:Int}(h1:0<=a)(h2:0<=b)(h3:b < 4294967296):Dr st H (upd H1 st (.lst [.int a,.int b,.int c])) :=
 ⟨fun b' o' e' ne=>by rw [az ne];exact g.bt _ _ e' ne,a,b,c,aa,h1,h2,h3⟩
theorem Dr.ne {st p:Addr}{H H1:Hp}(g:Dr st H H1)(hp:H1 p=none):p≠st:=fun z=>by
 obtain ⟨a,b,c,e,_⟩:=g.sa;rw [z,e] at hp;cases hp
theorem Dr.tups {st:Addr}{H H1:Hp}(g:Dr st H H1)(h0:StAt H st):∀ b xs,H b=some (.tup xs)->H1 b=some (.tup xs):=fun b xs e=>g.bt _ _ e fun z=>by
 obtain ⟨_,_,_,e',_⟩:=h0;rw [z,e'] at e;cases e
theorem Dr.th {st:Addr}{H H1:Hp}{v:V}{d:PyData}(g:Dr st H H1)(h0:StAt H st)(t:IsTh (fun _=>False) H v d):IsTh (fun _=>False) H1 v d:=t.keep (g.tups h0) (fun _ _ z _=>z.elim) fun _ _ z _=>z.elim
theorem Dr.ths {st:Addr}{H H1:Hp}{vs:List V}{ds:List PyData}(g:Dr st H H1)(h0:StAt H st)(t:IsThs (fun _=>False) H vs ds):IsThs (fun _=>False) H1 vs ds:=t.keep (g.tups h0) (fun _ _ z _=>z.elim) fun _ _ z _=>z.elim
inductive SpCellI (K:Frag)(vs:List V)(H:Hp)(Q:VK):Prop
 | mk:∀ (a:Addr) (ns:List Int) (k:Int),(vs=[.ref a,.int k])->(SqL K H a (ns.map V.int))->(0<=k)->(∀ i,Q (.int i) H)->SpCellI K vs H Q
def BK (K:Frag):Sp:=fun vs H Q _=>SpCellI K vs H Q
inductive SpStateI (K:Frag)(vs:List V)(H:Hp)(Q:VK):Prop
 | mk:∀ (a:Addr) (ns:List Int) (k:Int),(vs=[.ref a,.int k])->(SqL K H a (ns.map V.int))->(0<=k)->(∀ (p:Addr) (x y z:Int),H p=none->0<=x->0<=y->y < 4294967296->Q (.ref p) (upd H p (.lst [.int x,.int y,.int z])))->SpStateI K vs H Q
def spState (K:Frag):Sp:=fun vs H Q _=>SpStateI K vs H Q
inductive SpChoiceI (vs:List V)(H:Hp)(Q:VK):Prop
 | mk:∀ (st:Addr) (n:Int),(vs=[.ref st,.int n])->(StAt H st)->(1<=n)->(n < 1073741824)->(∀ r a b c:Int,0<=r->r < n->0<=a->0<=b->b < 4294967296->Q (.int r) (upd H st (.lst [.int a,.int b,.int c])))->SpChoiceI  vs H Q
def spChoice:Sp:=fun vs H Q _=>SpChoiceI  vs H Q
theorem lJ:bootBuiltins "max" = some (.builtin "max"):=by decide +kernel
theorem qJ:bootBuiltins "min" = some (.builtin "min"):=by decide +kernel
section
variable {P:Program}{w:World}{K:Frag}{mg:Str->Option Value}{base:Heap}{f:Addr}{fd:FuncData}
theorem JX:FnScope ["_law_script","_law_k"] ["_law_script","_law_k"] (aG (top 66)):=fS
theorem ok_cell (F:Fun K "_law_cell_at" "_law_cell_at" (top 66) f fd)(T:Mg mg):FnOk P w K mg base CX0 1 f fd ["_law_script","_law_k"] (BK K):=by
 refine F.ok JX (fun vs H Q E h=>?_) (fun ar A outer s H vs Q E hr h=>?_)
 ·obtain ⟨a,ns,k,rfl,_⟩:=h;rfl
 ·obtain ⟨a,ns,k,rfl,hS,h0,q⟩:=h;refine ⟨_,aB (cF (bj jl (pv 1) (aN cg rfl T.len PySem.boot_len (aQ (pv 0) aj)) (bA _)) (aD (aR (pX bL (pv 0) (pv 1)))) bf) (aD (aR aA)),?_⟩;refine ⟨_,rfl,_,rfl,a,_,rfl,.inl hS,_,_,rfl,rfl,_,rfl,?_⟩;refine DQ (fun c=>?_) (fun _=>q 0);have c:=zB5 c;rw [zA1] at c;have hk:k.toNat < ns.length:=by lia
  refine ⟨_,rfl,_,rfl,a,_,k,.int ns[k.toNat],rfl,rfl,hS,?_,q _⟩;have e:(ns.map V.int)[k.toNat]?=some (.int ns[k.toNat]):=by rw [zAb,zA0 hk];rfl
  have:=cY e;rw [show ((k.toNat:Nat):Int)=k by lia] at this;exact this
theorem sc26:FnScope ["_law_script","_law_k","_law_cell"] ["_law_script","_law_k"] (aG (top 67)):=fS
theorem ok_state (F:Fun K "_law_state" "_law_state" (top 67) f fd)(Tm:mg "max" = none)(c1:Cal P w K mg base 1 "_law_cell_at" ["_law_script","_law_k"] (BK K)):FnOk P w K mg base CX0 2 f fd ["_law_script","_law_k"] (spState K):=by
 refine F.ok sc26 (fun vs H Q E h=>?_) (fun ar A outer s H vs Q E hr h=>?_)
 ·obtain ⟨a,ns,k,rfl,_⟩:=h;rfl
 ·obtain ⟨a,ns,k,rfl,hS,h0,q⟩:=h
  refine ⟨_,aB (pss 2 sc26.nd (aF c1 hr (aQ (pv 0) (aQ (pv 1) aj))))
   (aD (aR (cX (aq (aN (j7 rfl) rfl Tm lJ (aq aA (aq (aU cP (pv 2) (aU Ge aA aA)) aj))) (aq (aU bZ (aU iJ (pv 2) aA) aA) (aq aA aj)))))),?_⟩
  refine ⟨_,rfl,_,rfl,a,ns,k,rfl,hS,h0,fun c=>?_⟩;refine ⟨_,rfl,_,_,rfl,rfl,⟨by decide,by decide,by decide⟩,_,_,rfl,rfl,_,_,rfl,_,rfl,_,_,rfl,rfl,(by show (0:Int) < 2147483629;decide),_,_,rfl,rfl,zL,fun p hp=>?_⟩;refine q p _ _ _ hp ?_ ?_ ?_
  ·split <;> lia
  ·show 0<=c % 2147483629+1;lia
  ·show c % 2147483629+1 < 4294967296;lia
theorem sc27:FnScope ["_law_state_here","_law_many","_law_found","_law_mixed"] ["_law_state_here","_law_many"] (aG (top 68)):=fS
theorem ok_choice (F:Fun K "_law_choice" "_law_choice" (top 68) f fd):FnOk P w K mg base CX0 1 f fd ["_law_state_here","_law_many"] spChoice:=by
 refine F.ok sc27 (fun vs H Q E h=>?_) (fun ar A outer s H vs Q E hr h=>?_)
 ·obtain ⟨st,n,rfl,_⟩:=h;rfl
 ·obtain ⟨st,n,rfl,⟨a,b,c,es,ha,hb,IJ⟩,h1,h2,q⟩:=h
  refine ⟨_,aB (cF (bj jD (pX bL (pv 0) aA) aA (bA _))
    (aB (pss 2 sc27.nd (aU iJ (pX bL (pv 0) aA) (pv 1)))
     (aB (cz (aU j6 (pX bL (pv 0) aA) (pv 1)) (fP (pv 0) aA set_list)) (aD (aR (pv 2))))) bf)
   (aB (cz (aU bZ (pX bL (pv 0) aA) aA) (fP (pv 0) aA set_list))
   (aB (cz (aU iJ (aU bZ (aU bZ (aU eZ (pX bL (pv 0) aA) aA) aA) (pX bL (pv 0) aA)) aA) (fP (pv 0) aA set_list))
   (aB (pss 3 sc27.nd (aU iJ (aU bZ (aU bZ (aU eZ (pX bL (pv 0) aA) (pX bL (pv 0) aA)) (aU eZ aA (pX bL (pv 0) aA))) aA) aA))
   (aB (pss 3 sc27.nd (aU iJ (aU bZ (aU eZ (pv 3) (pv 3)) (aU eZ aA (pv 3))) aA))
   (aD (aR (aU iJ (aU j6 (pv 3) aA) (pv 1)))))))),?_⟩
  refine ⟨_,rfl,st,_,0,.int a,rfl,rfl,SqL.of es,rfl,_,_,rfl,rfl,_,rfl,?_⟩;refine DQ (fun hc=>?_) (fun _=>?_)
  ·refine ⟨_,rfl,st,_,0,.int a,rfl,rfl,SqL.of es,rfl,_,rfl,_,_,rfl,rfl,(by show 0 < n;lia),?_⟩;refine ⟨_,rfl,st,_,0,.int a,rfl,rfl,SqL.of es,rfl,_,rfl,_,_,rfl,rfl,⟨by lia,h2⟩,_,rfl,st,_,0,0,rfl,rfl,es,rfl,_,rfl,?_⟩;exact q (a % n) (a / n) b c (Int.emod_nonneg a (by lia)) (Int.emod_lt_of_pos a (by lia)) (Int.ediv_nonneg ha (by lia)) hb IJ
  ·refine ⟨_,rfl,st,_,2,.int c,rfl,rfl,SqL.of es,rfl,_,_,rfl,rfl,_,rfl,st,_,2,2,rfl,rfl,es,rfl,?_⟩;have eL:([V.int a,V.int b,V.int c].set 2 ((fun i j:Int=>V.int (i+j)) c 1))=[V.int a,V.int b,V.int (c+1)]:=rfl;rw [eL];have kg:upd H st (.lst [.int a,.int b,.int (c+1)]) st=some (.lst [.int a,.int b,.int (c+1)]):=aa;refine ⟨_,rfl,st,_,1,.int b,rfl,rfl,SqL.of kg,rfl,_,_,rfl,rfl,.inl ⟨by lia,by lia⟩,_,_,rfl,rfl,_,rfl,st,_,2,.int (c+1),rfl,rfl,SqL.of kg,rfl,_,_,rfl,rfl,_,_,rfl,rfl,(by show (0:Int) < 2147483647;decide),_,rfl,st,_,1,1,rfl,rfl,kg,rfl,?_⟩;have IL:0<=(b * 48271+29+(c+1)) % 2147483647:=Int.emod_nonneg _ (by decide);have P7:(b * 48271+29+(c+1)) % 2147483647 < 2147483647:=Int.emod_lt_of_pos _ (by decide)
   obtain ⟨m,hm⟩:∃ m,m=(b * 48271+29+(c+1)) % 2147483647:=⟨_,rfl⟩
   rw [<- hm] at IL P7;have eL:([V.int a,V.int b,V.int (c+1)].set 1 ((fun i j:Int=>V.int (i % j)) (b * 48271+29+(c+1)) 2147483647))=[V.int a,V.int m,V.int (c+1)]:=by rw [hm];rfl
   rw [eL]
   have eu:upd (upd H st (.lst [.int a,.int b,.int (c+1)])) st (.lst [.int a,.int m,.int (c+1)])=upd H st (.lst [.int a,.int m,.int (c+1)]):=by
    funext z;by_cases hz:z=st
    ·rw [hz,aa,aa]
    ·rw [az hz,az hz,az hz]
   rw [eu];have dQ:upd H st (.lst [.int a,.int m,.int (c+1)]) st=some (.lst [.int a,.int m,.int (c+1)]):=aa;refine ⟨_,rfl,st,_,1,.int m,rfl,rfl,SqL.of dQ,rfl,_,rfl,st,_,1,.int m,rfl,rfl,SqL.of dQ,rfl,_,_,rfl,rfl,.inl ⟨by lia,by lia⟩,_,rfl,st,_,1,.int m,rfl,rfl,SqL.of dQ,rfl,_,_,rfl,rfl,.inl ⟨by decide,by decide⟩,_,_,rfl,rfl,_,_,rfl,rfl,_,_,rfl,rfl,(by show (0:Int) < 2147483629;decide),?_⟩;have IM:0<=(m * m+39373 * m+7) % 2147483629:=Int.emod_nonneg _ (by decide);have ko:(m * m+39373 * m+7) % 2147483629 < 2147483629:=Int.emod_lt_of_pos _ (by decide);refine ⟨_,rfl,_,rfl,_,_,rfl,rfl,.inl ⟨Int.lt_of_lt_of_le (by decide) IM,Int.lt_trans ko (by decide)⟩,_,rfl,_,_,rfl,rfl,.inl ⟨by decide,by decide⟩,_,_,rfl,rfl,_,_,rfl,rfl,(by show (0:Int) < 2147483587;decide),?_⟩;refine ⟨_,rfl,_,_,rfl,rfl,⟨by decide,by decide⟩,_,rfl,_,_,rfl,rfl,(by show 0 < n;lia),?_⟩;exact q _ a m (c+1) (Int.emod_nonneg _ (by lia)) (Int.emod_lt_of_pos _ (by lia)) ha IL (by lia)
end
theorem ok_b {X:Cx}{body:List Stmt}{t:TS}{R:TS->Prop}(h:BSs X body t)(q:R t):∃ t,PSs X body t/\R t:=⟨t,h.run,q⟩
def rr (rs:List Int)(i:Nat):Int:=rs.getD i 0
def bef (rs:List Int)(i j:Nat):Bool:=decide (rr rs j < rr rs i) || (decide (rr rs i=rr rs j) && decide (i<=j))
theorem bef_iff {rs:List Int}{i j:Nat}:bef rs i j=true↔rr rs j < rr rs i\/(rr rs i=rr rs j/\i<=j):=by
 unfold bef;rw [Bool.or_eq_true,zAc,decide_eq_true_iff,decide_eq_true_iff,decide_eq_true_iff]
structure Ord (rs:List Int)(pl:List Nat):Prop where
 pm:pl.Perm (List.range rs.length)
 so:pl.Pairwise fun i j=>bef rs i j=true
theorem iu (rs:List Int):∃ pl,Ord rs pl:=by
 refine ⟨(List.range rs.length).mergeSort (bef rs),List.mergeSort_perm _ _,List.pairwise_mergeSort (fun a b c h1 h2=>?_) (fun a b=>?_) _⟩
 ·rw [bef_iff] at h1 h2 ⊢;lia
 ·rw [Bool.or_eq_true,bef_iff,bef_iff];lia
theorem GF {rs:List Int}{p q:List Nat}(h:Ord rs p)(h':Ord rs q):p=q:=by
 refine List.Perm.eq_of_pairwise (fun a b _ _ h1 h2=>?_) h.so h'.so (h.pm.trans h'.pm.symm);rw [bef_iff] at h1 h2;lia
def cN (fs:List Int)(pl:List Nat):List Int:=pl.foldl (fun l i=>l.set i (l.getD i 0+1)) fs
def fB (rs:List Int)(pl:List Nat):List Int:=pl.foldl (fun l i=>l.set i (-1)) rs
theorem oN (fs:List Int)(pl:List Nat)(i:Nat):cN fs (pl++[i])=(cN fs pl).set i ((cN fs pl).getD i 0+1):=by
 unfold cN;rw [List.foldl_append];rfl
theorem vK (rs:List Int)(pl:List Nat)(i:Nat):fB rs (pl++[i])=(fB rs pl).set i (-1):=by
 unfold fB;rw [List.foldl_append];rfl
theorem je:∀ (pl:List Nat) (fs:List Int),(cN fs pl).length=fs.length
 | [],_=>rfl
 | i::pl,fs=>by
  show (cN (fs.set i _) pl).length=_;rw [je pl,List.length_set]
theorem jf:∀ (pl:List Nat) (rs:List Int),(fB rs pl).length=rs.length
 | [],_=>rfl
 | i::pl,rs=>by
  show (fB (rs.set i _) pl).length=_;rw [jf pl,List.length_set]
theorem qK:∀ (pl:List Nat) (rs:List Int) (i:Nat),i < rs.length->(fB rs pl).getD i 0=if i∈pl then -1 else rs.getD i 0
 | [],rs,i,_=>by simp [fB]
 | j::pl,rs,i,h=>by
  show (fB (rs.set j (-1)) pl).getD i 0=_;rw [qK pl (rs.set j (-1)) i (by rw [List.length_set];exact h)];by_cases e:i∈pl
  ·rw [zAx e,zAx (List.mem_cons_of_mem _ e)]
  ·rw [zAw e];by_cases e2:i=j
   ·subst e2;rw [zAx List.mem_cons_self,zA7,List.getElem?_set_self h];rfl
   ·rw [if_neg (by simp [e,e2]),List.getD_eq_getElem?_getD,List.getElem?_set_ne (Ne.symm e2),<- List.getD_eq_getElem?_getD]
theorem pick {rs:List Int}{pl:List Nat}(h:Ord rs pl)(h0:∀ r∈rs,0<=r){t:Nat}(ht:t < pl.length){M:Int}(hM:M∈fB rs (pl.take t))(fN:∀ a∈fB rs (pl.take t),a<=M) :
  (fB rs (pl.take t))[pl[t]]?=some M/\∀ i,i < pl[t]->(fB rs (pl.take t))[i]?≠some M:=by
 have hlen:=jf (pl.take t) rs;have nd:pl.Nodup:=h.pm.nodup_iff.mpr List.nodup_range;have inr:∀ i∈pl,i < rs.length:=fun i hi=>List.mem_range.mp (h.pm.mem_iff.mp hi);have ED:pl[t]∈pl:=zAh ht
 have nt:pl[t] ∉ pl.take t:=fun hm=>by
  obtain ⟨j,hj,e⟩:=List.getElem_of_mem hm;rw [zAd] at hj;rw [List.getElem_take] at e;have:=(List.getElem_inj nd).mp e;lia
 have val:∀ i,i < rs.length->(fB rs (pl.take t))[i]?=some (if i∈pl.take t then -1 else rr rs i):=fun i hi=>by
  have g:=qK (pl.take t) rs i hi;rw [zA7,zA0 (by rw [hlen];exact hi),Option.getD_some] at g;rw [zA0 (by rw [hlen];exact hi),g];rfl
 have EE:∀ i,i < rs.length->0<=rr rs i:=fun i hi=>by
  unfold rr;rw [zA7,zA0 hi];exact h0 _ (zAh hi)
 have rest:∀ i,i < rs.length->i ∉ pl.take t->bef rs pl[t] i=true:=fun i hi hn=>by
  have P8:i∈pl:=h.pm.mem_iff.mpr (List.mem_range.mpr hi);obtain ⟨j,hj,e⟩:=List.getElem_of_mem P8
  have kq:t<=j:=by
   refine Nat.le_of_not_lt fun c=>hn ?_;rw [<- e];have:(pl.take t)[j]'(by rw [zAd];lia)=pl[j]:=List.getElem_take;rw [<- this];exact zAh _
  by_cases c:t=j
  ·subst c;rw [e,bef_iff];exact .inr ⟨rfl,zA3 _⟩
  ·have:=List.pairwise_iff_getElem.mp h.so t j ht hj (by lia);rw [e] at this;exact this
 have vt:=val pl[t] (inr _ ED);rw [zAw nt] at vt
 have eM:M=rr rs pl[t]:=by
  have h1:rr rs pl[t]<=M:=fN _ (zB7 vt);obtain ⟨i,hi,e⟩:=List.getElem_of_mem hM;rw [hlen] at hi;have v:=val i hi;rw [zA0 (by rw [hlen];exact hi),e] at v;injection v with v;by_cases c:i∈pl.take t
  ·rw [zAx c] at v;have:=EE pl[t] (inr _ ED);lia
  ·rw [zAw c] at v;have:=bef_iff.mp (rest i hi c);lia
 refine ⟨by rw [vt,eM],fun i hi e=>?_⟩;have fx:i < rs.length:=Nat.lt_trans hi (inr _ ED);rw [val i fx] at e;injection e with e;by_cases c:i∈pl.take t
 ·rw [zAx c] at e;have:=EE pl[t] (inr _ ED);lia
 ·rw [zAw c] at e;have:=bef_iff.mp (rest i fx c);lia
def fs (n:Int)(ws:List Int):List Int:=ws.map fun w=>n * w / ws.sum
def rs (n:Int)(ws:List Int):List Int:=ws.map fun w=>n * w % ws.sum
def lf (n:Int)(ws:List Int):Int:=n - (fs n ws).sum
def OkW (ws:List Int):Prop:=1<=ws.length/\ws.length<=80/\∀ w∈ws,1<=w/\w<=99
theorem sW {B:Int}:∀ {l:List Int},(∀ a∈l,a<=B)->l.sum<=B * l.length
 | [],_=>by simp
 | a::l,h=>by
  have h1:=sW (B:=B) (l:=l) fun b hb=>h b (.tail _ hb);have h2:=h a (.head _);rw [List.sum_cons,List.length_cons,show B * ((l.length+1:Nat):Int)=B * l.length+B by rw [Int.natCast_add,Int.mul_add];simp];lia
theorem jA:∀ {l:List Int},(∀ a∈l,0<=a)->0<=l.sum
 | [],_=>by simp
 | a::l,h=>by
  have h1:=jA (l:=l) fun b hb=>h b (.tail _ hb);have h2:=h a (.head _);rw [List.sum_cons];lia
theorem OkW.pos {ws:List Int}(h:OkW ws):1<=ws.sum:=by
 obtain ⟨h1,_,h3⟩:=h
 match ws,h1,h3 with
 | w::ws,_,h3 =>
  have:=jA (l:=ws) fun a ha=>by have:=h3 a (.tail _ ha);lia
  have:=h3 w (.head _);rw [List.sum_cons];lia
theorem OkW.top {ws:List Int}(h:OkW ws):ws.sum<=7920:=by
 have h1:=sW (B:=99) fun a ha=>(h.2.2 a ha).2;have:=h.2.1;lia
theorem divs (n T:Int):∀ ws:List Int,T * (ws.map fun w=>n * w / T).sum+(ws.map fun w=>n * w % T).sum=n * ws.sum
 | []=>by simp
 | w::ws=>by
  have h1:=divs n T ws;have h2:=Int.mul_ediv_add_emod (n * w) T;simp only [List.map_cons,List.sum_cons,Int.mul_add];lia
theorem GJ (n:Int)(ws:List Int):ws.sum * lf n ws=(rs n ws).sum:=by
 have h:=divs n ws.sum ws;unfold lf fs rs;rw [Int.mul_sub,Int.mul_comm ws.sum n];lia
theorem FP {n:Int}{ws:List Int}(h:OkW ws):∀ r∈rs n ws,0<=r:=fun r hr=>by
 obtain ⟨w,_,rfl⟩:=zA5.mp hr;have:=h.pos;exact Int.emod_nonneg _ (by lia)
theorem J1 {n:Int}{ws:List Int}(h:OkW ws):∀ r∈rs n ws,r<=ws.sum:=fun r hr=>by
 obtain ⟨w,_,rfl⟩:=zA5.mp hr;have:=h.pos;exact Int.le_of_lt (Int.emod_lt_of_pos _ (by lia))
theorem oO (n:Int)(ws:List Int):(fs n ws).length=ws.length:=zA1 _
theorem gB (n:Int)(ws:List Int):(rs n ws).length=ws.length:=zA1 _
theorem xO {n:Int}{ws:List Int}(h:OkW ws):0<=lf n ws:=by
 have h1:=GJ n ws;have h2:=jA (FP (n:=n) h);have h3:=h.pos;refine Int.le_of_not_gt fun c=>?_;have:=Int.mul_le_mul_of_nonneg_left (c:=ws.sum) (show lf n ws<=-1 by lia) (by lia);lia
theorem BL {n:Int}{ws:List Int}(h:OkW ws):lf n ws<=ws.length:=by
 have h1:=GJ n ws;have h2:=sW (J1 (n:=n) h);rw [gB] at h2;have h3:=h.pos;refine Int.le_of_not_gt fun c=>?_;have:=Int.mul_le_mul_of_nonneg_left (c:=ws.sum) (show (ws.length:Int)+1<=lf n ws by lia) (by lia);rw [Int.mul_add] at this;lia
theorem GK {ws:List Int}(h:OkW ws):lf ws.sum ws=0:=by
 have h1:=GJ ws.sum ws
 have h2:(rs ws.sum ws).sum<=0:=by
  have:=sW (B:=0) (l:=rs ws.sum ws) fun r hr=>by
   obtain ⟨w,_,rfl⟩:=zA5.mp hr;rw [Int.mul_emod_right];exact Int.le_refl _
  lia
 have h3:=h.pos;have h4:=xO (n:=ws.sum) h;refine Int.le_antisymm (Int.le_of_not_gt fun c=>?_) h4;have:=Int.mul_le_mul_of_nonneg_left (c:=ws.sum) (show 1<=lf ws.sum ws by lia) (by lia);lia
theorem qL:∀ (pl:List Nat) (l:List Int) (i:Nat),i < l.length->(cN l pl).getD i 0=l.getD i 0+pl.count i
 | [],l,i,_=>by simp [cN]
 | j::pl,l,i,h=>by
  show (cN (l.set j (l.getD j 0+1)) pl).getD i 0=_;rw [qL pl _ i (by rw [List.length_set];exact h),List.count_cons];by_cases e:j=i
  ·subst e;rw [zA7,List.getElem?_set_self h,Option.getD_some,beq_self_eq_true,zAx rfl];lia
  ·rw [List.getD_eq_getElem?_getD,List.getElem?_set_ne e,<- List.getD_eq_getElem?_getD,if_neg (by simp [e])];lia
theorem Ord.nd {r:List Int}{pl:List Nat}(h:Ord r pl):pl.Nodup:=h.pm.nodup_iff.mpr List.nodup_range
theorem Ord.len {r:List Int}{pl:List Nat}(h:Ord r pl):pl.length=r.length:=by rw [h.pm.length_eq,List.length_range]
theorem Ord.lt {r:List Int}{pl:List Nat}(h:Ord r pl):∀ i∈pl,i < r.length:=fun i hi=>List.mem_range.mp (h.pm.mem_iff.mp hi)
def res (n:Int)(ws:List Int):List Int:=cN (fs n ws) ((iu (rs n ws)).choose.take (lf n ws).toNat)
theorem BP {n:Int}{ws:List Int}{pl:List Nat}(h:Ord (rs n ws) pl):cN (fs n ws) (pl.take (lf n ws).toNat)=res n ws:=by
 unfold res;rw [GF h (iu (rs n ws)).choose_spec]
theorem res_len (n:Int)(ws:List Int):(res n ws).length=ws.length:=by
 unfold res;rw [je,oO]
theorem res_get {n:Int}{ws:List Int}(h:OkW ws)(n0:0<=n)(n1:n<=ws.sum){i:Nat}{r w:Int}(hr:(res n ws)[i]?=some r)(hw:ws[i]?=some w):0<=r/\r<=w:=by
 have hi:i < ws.length:=(zAa.mp hw).1;have hp:=h.pos;have ww:=h.2.2 w (zB7 hw)
 have e:r=n * w / ws.sum+((iu (rs n ws)).choose.take (lf n ws).toNat).count i:=by
  have:=qL ((iu (rs n ws)).choose.take (lf n ws).toNat) (fs n ws) i (by rw [oO];exact hi)
  have e2:(fs n ws).getD i 0=n * w / ws.sum:=by
   unfold fs;rw [zA7,zAb,hw];rfl
  rw [e2] at this;rw [<- this,show cN (fs n ws) _=res n ws from rfl,zA7,hr];rfl
 have c1:((iu (rs n ws)).choose.take (lf n ws).toNat).count i<=1:=List.nodup_iff_count.mp ((iu (rs n ws)).choose_spec.nd.sublist (List.take_sublist _ _)) i;have q0:0<=n * w / ws.sum:=Int.ediv_nonneg (Int.mul_nonneg n0 (by lia)) (by lia);refine ⟨by lia,?_⟩;by_cases en:n=ws.sum
 ·have:((iu (rs n ws)).choose.take (lf n ws).toNat)=[]:=by
   rw [en,GK h];rfl
  rw [this] at e;rw [en,Int.mul_ediv_cancel_left _ (by lia)] at e;simp at e;lia
 ·have:n * w / ws.sum < w:=by
   refine Int.ediv_lt_of_lt_mul (by lia) ?_;rw [Int.mul_comm w];exact Int.mul_lt_mul_of_pos_right (by lia) (by lia)
  lia
theorem qM {K:Frag}{te:TE}{p:Addr}{ws:List Int}{cK:St}{H0:Hp}{Fin:List V->Hp->Prop}(f:Int->Int)(ep:H0 p=some (.tup (ws.map V.int)))(hl:ws.length < sizeLine)
  (oj:∀ (z:Int) (Q:VK),z∈ws->Q (.int (f z)) H0->te (cK.set 0 (some (.int z))) H0 Q) (fin:Fin ((ws.map f).map V.int) H0):jm (Itt K p) (bw 0) tX te Fin cK H0:=by
 refine comp_gen ws.length (fun i ys σ H=>H=H0/\(∀ o,σ.set 0 o=cK.set 0 o)/\ys=((ws.take i).map f).map V.int) ⟨rfl,fun _=>rfl,rfl⟩ hl ?_ ?_
 ·rintro i ys σ H hi hy ⟨rfl,iL,rfl⟩;have hz:(ws.map V.int)[i]?=some (.int ws[i]):=by rw [zAb,zA0 hi];rfl
  refine ⟨⟨_,_,SqT.of ep,hz⟩,fun v H' y' R hR=>?_⟩;obtain ⟨rfl,y'⟩:=y';have hv:=y' _ (SqT.of ep);rw [hz] at hv;cases hv;show te (σ.set 0 (some (.int ws[i]))) _ _;rw [iL];refine oj ws[i] _ (zAh hi) (hR _ _ _ ⟨rfl,fun o=>by rw [List.set_set],?_⟩);rw [zAj,zA0 hi,zA4,zA4];rfl
 ·rintro ys σ H hy ⟨rfl,iL,rfl⟩;refine ⟨⟨_,SqT.of ep,by rw [zA1];exact zA3 _⟩,?_⟩;rw [zAm];exact fin
def wD (ws:List Int):PyData:=.tuple (ws.map PyData.int)
theorem uH:∀ (r:List Int),szs (r.map PyData.int)=r.length
 | []=>rfl
 | _::r=>by
  show 1+szs (r.map PyData.int)=r.length+1;rw [uH r,Nat.add_comm]
theorem JZ (ws:List Int):sz (wD ws)=1+ws.length:=by
 show 1+szs (ws.map PyData.int)=_;rw [uH]
theorem K1 {ws:List Int}(h:OkW ws):iW (wD ws)=true:=by
 unfold iW;rw [zAc];refine ⟨?_,List.all_eq_true.mpr fun d hd=>?_⟩
 ·show (true && (decide (1<=((ws.map PyData.int).length:Int)) && decide (((ws.map PyData.int).length:Int)<=80)))=true;have h1:=h.1;have h2:=h.2.1;rw [zA1,zAt (by lia),zAt (by lia)];rfl
 ·obtain ⟨w,hw,rfl⟩:=zA5.mp hd;have:=h.2.2 w hw;show (true && (decide (1<=w) && decide (w<=99)))=true;rw [zAt this.1,zAt this.2];rfl
inductive SpRefuseI (vs:List V)(H:Hp)(Q:VK):Prop
 | mk:∀ n p ws,(vs=[.int n,.ref p])->(H p=some (.tup (ws.map V.int)))->(OkW ws)->(0<=n)->(n<=ws.sum)->(∀ H',Same H H'->Q .non H')->SpRefuseI  vs H Q
def uI:Sp:=fun vs H Q _=>SpRefuseI  vs H Q
inductive SpPlacesI (vs:List V)(H:Hp)(Q:VK):Prop
 | mk:∀ p rests,(vs=[.ref p])->(H p=some (.lst ((rests:List Int).map V.int)))->(rests.length < sizeLine)->(∀ H' q pl,Ord rests pl->Same H H'->H q=none->H' q=some (.lst (pl.map fun j:Nat=>V.int (j:Int)))->Q (.ref q) H')->SpPlacesI  vs H Q
def uJ:Sp:=fun vs H Q _=>SpPlacesI  vs H Q
inductive SpPartsI (vs:List V)(H:Hp)(Q:VK):Prop
 | mk:∀ n p ws,(vs=[.int n,.ref p])->(H p=some (.tup (ws.map V.int)))->(OkW ws)->(0<=n)->(n<=ws.sum)->(∀ H' q,Same H H'->H' q=some (.tup ((res n ws).map V.int))->Q (.ref q) H')->SpPartsI  vs H Q
def spParts:Sp:=fun vs H Q _=>SpPartsI  vs H Q
def iG (H:Hp)(a:Addr):Nat:=match H a with
 | some (.tup [_,.int y])=>y.toNat
 | _=>0
def rowAt (H:Hp)(a:Addr):List Int:=match H a with
 | some (.tup [.int x,.int y])=>[x,y]
 | _=>[]
theorem J2 {rests:List Int}{i:Nat}{x:Int}(h:rests[i]?=some x):rr rests i=x:=by
 unfold rr;rw [zA7,h];rfl
theorem Ep {rests:List Int}{i j:Nat}(h:HT.lexLt [-(rr rests j),(j:Int)] [-(rr rests i),(i:Int)]=false):bef rests i j=true:=by
 rw [bef_iff];rw [HT.lexLt_cons] at h;by_cases e:-(rr rests j)=-(rr rests i)
 ·rw [zAx e,HT.lexLt_cons] at h;by_cases e2:(j:Int)=(i:Int)
  ·exact .inr ⟨by lia,by lia⟩
  ·rw [zAw e2] at h;have:=of_decide_eq_false h;exact .inr ⟨by lia,by lia⟩
 ·rw [zAw e] at h;have:=of_decide_eq_false h;exact .inl (by lia)
section
variable {P:Program}{w:World}{K:Frag}{mg:Str->Option Value}{base:Heap}{f:Addr}{fd:FuncData}
theorem K3:FnScope ["sacks","weights"] ["sacks","weights"] (aG (top 41)):=fS
theorem ok_refuse (F:Fun K "refuse_unpartable" "refuse_unpartable" (top 41) f fd)(Ts:mg "sum" = none)(c1:Cal P w K mg base 4 "are_weights" ["thing"] (spT iW))(c2:Cal P w K mg base 2 "is_whole_from" ["thing","least","most"] (lE mD)) :
  FnOk P w K mg base CX0 5 f fd ["sacks","weights"] uI:=by
 refine F.ok K3 (fun vs H Q E h=>?_) (fun ar A outer s H vs Q E hr h=>?_)
 ·obtain ⟨n,p,ws,rfl,_⟩:=h;rfl
 ·obtain ⟨n,p,ws,rfl,ep,ok,n0,n1,q⟩:=h
  refine ⟨_,aB (cF (cW (dF (aF c1 hr (aQ (pv 1) aj)))) (aD fO) bf)
   (aD (cF (cW (dF (aF c2 hr (aQ (pv 0) (aQ aA (aQ (aN (cV rfl) rfl Ts boot_sum (aq (pv 1) aj)) aj)))))) (aD fO) bf)),?_⟩
  refine aC ?_;refine ⟨_,rfl,fun _=>False,_,wD ws,rfl,.tup ep (IsThs.ints ws),by rw [JZ];have:=ok.2.1;lia,fun H1 s1=>⟨_,rfl,?_⟩⟩;rw [K1 ok];refine bB ?_;dsimp only;refine ⟨_,rfl,_,rfl,p,ws,rfl,.inr (SqT.of (s1 _ _ ep)),fun _=>False,_,.int n,0,_,rfl,.int n,(by show 1<=4000;decide),fun H2 s2=>⟨_,rfl,?_⟩⟩
  have e:mD (.int n) 0 ws.sum=true:=by
   show (true && (decide (0<=n) && decide (n<=ws.sum)))=true;rw [zAt n0,zAt n1];rfl
  rw [e];exact bB (q H2 (s1.trans s2))
theorem sc13:FnScope ["rests","ranked"] ["rests"] (aG (top 42)):=fS
theorem ok_places (F:Fun K "places_by_rest" "places_by_rest" (top 42) f fd)(Te:mg "enumerate" = none)(Ts:mg "sorted" = none):FnOk P w K mg base CX0 1 f fd ["rests"] uJ:=by
 refine F.ok sc13 (fun vs H Q E h=>?_) (fun ar A outer s H vs Q E hr h=>?_)
 ·obtain ⟨p,rests,rfl,_⟩:=h;rfl
 ·obtain ⟨p,rests,rfl,ep,hz,q⟩:=h
  refine ⟨_,aB (pss 1 sc13.nd (aN sy rfl Ts boot_sorted (aq (bC (g:=jj K 2 (bN (bw 0) (bN (bw 1) jo))) ["at","rest"] [none,none] rfl (EL.pi_enum rfl Te (aq (pv 0) aj))
    (fun C fp pins s₂ H₂=>⟨cZ rfl rfl (ao (bh (i:=0) (nd2 _ _ (by decide)) rfl (Or.inl rfl) (Or.inr rfl)) (ao (bh (i:=1) (nd2 _ _ (by decide)) rfl (Or.inl rfl) (Or.inr rfl)) aV)),bu,
     bD (aq (Ae v8 (pv 1)) (aq (pv 0) aj))⟩) (fun C=>trivial) ⟨rfl,rfl,rfl,rfl⟩) aj)))
   (aD (aR (bC (g:=jj K 2 (bN (bw 0) (bN (bw 1) jo))) ["minus","at"] [none,none] rfl (bW (pv 1))
    (fun C fp pins s₂ H₂=>⟨cZ rfl rfl (ao (bh (i:=0) (nd2 _ _ (by decide)) rfl (Or.inl rfl) (Or.inr rfl)) (ao (bh (i:=1) (nd2 _ _ (by decide)) rfl (Or.inl rfl) (Or.inr rfl)) aV)),bu,
     pv 1⟩) (fun C=>trivial) ⟨rfl,rfl,rfl,rfl⟩))),?_⟩
  refine aC ?_;refine ⟨_,rfl,p,_,rfl,SqL.of ep,comp_gen rests.length (fun i ys σ Hc=>Same H Hc/\(∃ o1 o2,σ=[o1,o2])/\∃ ts:List Addr,ys=ts.map V.ref/\∀ j,j < i->∃ a,ts[j]?=some a/\Hc a=some (.tup [.int (-(rr rests j)),.int (j:Int)])) ⟨Same.refl H,⟨_,_,rfl⟩,[],rfl,fun j hj=>absurd hj (Nat.not_lt_zero _)⟩ hz ?_ ?_⟩
  ·rintro i ys σ Hc hi hy ⟨s1,⟨o1,o2,rfl⟩,ts,rfl,EF⟩;rw [zA1] at hy;have gi:SqL K Hc p (rests.map V.int):=SqL.of (s1 _ _ ep)
   have hx:(rests.map V.int)[i]?=some (.int (rr rests i)):=by
    rw [zAb,zA0 hi,J2 (zA0 hi)];rfl
   refine ⟨⟨_,_,gi,hx⟩,fun v H' y R hR=>?_⟩;obtain ⟨T,nT,rfl,y⟩:=y;obtain ⟨x',fh,rfl⟩:=y _ gi;rw [hx] at fh;cases fh;have s2:=s1.updR (o:=.tup [.int (i:Int),.int (rr rests i)]) nT;refine ⟨T,_,rfl,SqT.of aa,rfl,_,_,rfl,_,_,rfl,rfl,_,rfl,rr rests i,rfl,_,rfl,zL,fun t ht=>?_⟩;refine hR _ _ _ ⟨s2.updR ht,⟨_,_,rfl⟩,ts++[t],by rw [zA4];rfl,fun j hj=>?_⟩;by_cases e:j < i
   ·obtain ⟨a,h1,h2⟩:=EF j e;refine ⟨a,by rw [zBc (by lia)];exact h1,?_⟩;exact Same.upd ht _ _ (Same.upd nT _ _ h2)
   ·have e:j=i:=by lia
    subst e;refine ⟨t,by rw [zB8 (by lia),hy,Nat.sub_self];rfl,aa⟩
  ·rintro ys σ Hc hy ⟨s1,_,ts,rfl,EF⟩;rw [zA1] at hy;refine ⟨⟨_,SqL.of (s1 _ _ ep),by rw [zA1];exact zA3 _⟩,fun D hD=>?_⟩;have s2:=s1.updR (o:=.lst (ts.map V.ref)) hD
   have vk:∀ j,j < rests.length->∃ a,ts[j]?=some a/\upd Hc D (.lst (ts.map V.ref)) a=some (.tup [.int (-(rr rests j)),.int (j:Int)]):=fun j hj=>by
    obtain ⟨a,h1,h2⟩:=EF j hj;exact ⟨a,h1,Same.upd hD _ _ h2⟩
   have eD:=aa (H:=Hc) (a:=D) (o:=.lst (ts.map V.ref));generalize upd Hc D (.lst (ts.map V.ref))=H2 at s2 vk eD ⊢;clear EF hD s1
   have rL:∀ a∈ts,∃ j,j < rests.length/\H2 a=some (.tup [.int (-(rr rests j)),.int (j:Int)]):=fun a ha=>by
    obtain ⟨j,hj,e⟩:=List.getElem_of_mem ha;obtain ⟨b,h1,h2⟩:=vk j (by lia);rw [zA0 hj] at h1;injection h1 with h1;refine ⟨j,by lia,?_⟩;rw [<- e,h1];exact h2
   refine ⟨D,ts,rowAt H2,rfl,SqL.of eD,fun a ha=>?_,fun q' l' hq pm so=>?_⟩
   ·obtain ⟨j,hj,e⟩:=rL a ha;have er:rowAt H2 a=[-(rr rests j),(j:Int)]:=by unfold rowAt;rw [e]
    rw [er];exact ⟨SqT.of e,by simp⟩
   have EG:∀ a∈l',∃ j,j < rests.length/\H2 a=some (.tup [.int (-(rr rests j)),.int (j:Int)]):=fun a ha=>rL a (pm.mem_iff.mp ha)
   have sn:∀ a∈l',H2 a=some (.tup [.int (-(rr rests (iG H2 a))),.int (iG H2 a:Int)])/\rowAt H2 a=[-(rr rests (iG H2 a)),(iG H2 a:Int)]:=fun a ha=>by
    obtain ⟨j,hj,e⟩:=EG a ha;have er:rowAt H2 a=[-(rr rests j),(j:Int)]:=by unfold rowAt;rw [e]
    have es:iG H2 a=j:=by unfold iG;rw [e];exact zAi j
    rw [er,es];exact ⟨e,rfl⟩
   have ord:Ord rests (l'.map (iG H2)):=by
    refine ⟨?_,?_⟩
    ·refine (pm.map _).trans (List.Perm.of_eq (List.ext_getElem? fun j=>?_));by_cases hj:j < rests.length
     ·obtain ⟨a,h1,h2⟩:=vk j hj;rw [zAb,h1,List.getElem?_range hj];show some (iG H2 a)=some j;unfold iG;rw [h2];exact congrArg some (zAi j)
     ·rw [List.getElem?_eq_none (by rw [zA1];lia),List.getElem?_eq_none (by rw [List.length_range];lia)]
    ·refine List.pairwise_map.mpr (so.imp_of_mem fun {a b} ha hb h=>?_);rw [(sn a ha).2,(sn b hb).2] at h;exact Ep h
   have s3:=s2.updR (o:=.lst (l'.map V.ref)) hq;have Wa:l'.length=rests.length:=by rw [pm.length_eq,hy]
   have A9:=aa (H:=H2) (a:=q') (o:=.lst (l'.map V.ref));have IP:∀ a∈l',upd H2 q' (.lst (l'.map V.ref)) a=some (.tup [.int (-(rr rests (iG H2 a))),.int (iG H2 a:Int)]):=fun a ha=>Same.upd hq _ _ (sn a ha).1;generalize iG H2=sd at ord IP;generalize upd H2 q' (.lst (l'.map V.ref))=H3 at s3 A9 IP ⊢;dsimp only;refine iU ?_;refine ⟨_,rfl,q',rfl,⟨_,SqL.of A9⟩,comp_gen rests.length (fun i ys σ Hc=>Same H3 Hc/\(∃ o1 o2,σ=[o1,o2])/\ys=((l'.take i).map sd).map fun j:Nat=>V.int (j:Int)) ⟨Same.refl H3,⟨_,_,rfl⟩,rfl⟩ hz ?_ ?_⟩
   ·rintro i ys σ Hc hi hy ⟨s4,⟨o1,o2,rfl⟩,rfl⟩;have fx:i < l'.length:=by lia
    have hu:(l'.map V.ref)[i]?=some (.ref l'[i]):=by rw [zAb,zA0 fx];rfl
    refine ⟨⟨_,_,SqL.of (s4 _ _ A9),hu⟩,fun v H' y R hR=>?_⟩;obtain ⟨rfl,y⟩:=y;have hv:=y _ (SqL.of (s4 _ _ A9));rw [hu] at hv;cases hv;refine ⟨l'[i],_,rfl,SqT.of (s4 _ _ (IP _ (zAh fx))),rfl,_,_,rfl,_,_,rfl,rfl,_,rfl,hR _ _ _ ⟨s4,⟨_,_,rfl⟩,?_⟩⟩;rw [zAj,zA0 fx,zA4,zA4];rfl
   ·rintro ys σ Hc gE ⟨s4,_,rfl⟩;refine ⟨⟨_,SqL.of (s4 _ _ A9),by rw [zA1];lia⟩,fun D' M5=>?_⟩;have s5:=s3.trans s4;have hn:H D'=none:=s5.free M5;refine q _ D' _ ord (s5.updR M5) hn ?_;rw [aa,List.take_of_length_le (by lia)]
end
theorem sY {n j:Nat}(h:j < n):ixN n (j:Int)=some j:=by
 unfold ixN;rw [zAx (by lia),zAx (by lia),zAi]
theorem BR {ws:List Int}(ok:OkW ws):ws.length < sizeLine:=by
 have:=ok.2.1;rw [sizeLine_eq];lia
section
variable {P:Program}{w:World}{K:Frag}{mg:Str->Option Value}{base:Heap}{f:Addr}{fd:FuncData}
theorem J3:(["weight","sacks","together"]:List Str).Nodup:=by decide +kernel
theorem sc14:FnScope ["sacks","weights","together","parts","rests","left","at"] ["sacks","weights"] (aG (top 43)):=fS
theorem ok_parts (F:Fun K "parts_of" "parts_of" (top 43) f fd)(T:Mg mg)(Ts:mg "sum" = none)(c1:Cal P w K mg base 1 "places_by_rest" ["rests"] uJ):FnOk P w K mg base CX0 2 f fd ["sacks","weights"] spParts:=by
 refine F.ok sc14 (fun vs H Q E h=>?_) (fun ar A outer s H vs Q E hr h=>?_)
 ·obtain ⟨n,p,ws,rfl,_⟩:=h;rfl
 ·obtain ⟨n,p,ws,rfl,ep,ok,n0,n1,q⟩:=h
  refine ⟨_,aB (kZ (i:=2) sc14.nd rfl (Or.inr rfl) (aN (cV rfl) rfl Ts boot_sum (aq (pv 1) aj)))
   (aB (fJ (i:=3) ["weight","sacks","together"] [none,some 0,some 2] rfl sc14.nd rfl (Or.inl rfl) (fQ (pv 1))
    (fun C fp pins s₂ H₂=>⟨pgn 0 J3,bu,aU j6 (aU eZ (pv 1) (pv 0)) (pv 2)⟩) (fun C=>cI (cI trivial)) ⟨rfl,rfl,rfl,rfl⟩)
   (aB (fJ (i:=4) ["weight","sacks","together"] [none,some 0,some 2] rfl sc14.nd rfl (Or.inl rfl) (fQ (pv 1))
    (fun C fp pins s₂ H₂=>⟨pgn 0 J3,bu,aU iJ (aU eZ (pv 1) (pv 0)) (pv 2)⟩) (fun C=>cI (cI trivial)) ⟨rfl,rfl,rfl,rfl⟩)
   (aB (pss 5 sc14.nd (aU cP (pv 0) (aN (cV rfl) rfl Ts boot_sum (aq (pv 3) aj))))
   (aB (bY zB3 rfl (bW (fV wF (aF c1 hr (aq (pv 4) aj)) gY (gZ (pv 5)))) (pgn 6 sc14.nd)
    (aD (mG (pv 3) (pv 6) gK aA uY set_list)))
   (aD (aR (bM bF rfl T.tuple boot_tuple (aq (pv 3) aj)))))))),?_⟩
  have hp:=ok.pos;have ht:=ok.top;have rS:=BR ok;refine aC ?_;refine ⟨_,rfl,p,ws,rfl,.inr (SqT.of ep),?_⟩;dsimp only;refine aC ?_;refine ⟨_,rfl,p,rfl,⟨_,SqT.of ep⟩,qM (fun z=>n * z / ws.sum) ep rS (fun z Q hz h=>⟨_,rfl,_,rfl,_,_,rfl,rfl,.inl ⟨by lia,by lia⟩,_,rfl,_,_,rfl,rfl,⟨by lia,by lia⟩,h⟩) ?_⟩;rw [show ws.map (fun z=>n * z / ws.sum)=fs n ws from rfl];intro l1 dv;have s1:=Same.upd (o:=.lst ((fs n ws).map V.int)) dv;have el1:=aa (H:=H) (a:=l1) (o:=.lst ((fs n ws).map V.int));generalize upd H l1 _=H1 at s1 el1 ⊢;dsimp only;refine aC ?_;refine ⟨_,rfl,p,rfl,⟨_,SqT.of (s1 _ _ ep)⟩,qM (fun z=>n * z % ws.sum) (s1 _ _ ep) rS (fun z Q hz h=>⟨_,rfl,_,rfl,_,_,rfl,rfl,.inl ⟨by lia,by lia⟩,_,rfl,_,_,rfl,rfl,(by show 0 < ws.sum;lia),h⟩) ?_⟩;rw [show ws.map (fun z=>n * z % ws.sum)=rs n ws from rfl];intro l2 fy;have s2:=s1.updR (o:=.lst ((rs n ws).map V.int)) fy;have el2:=aa (H:=H1) (a:=l2) (o:=.lst ((rs n ws).map V.int));have fR:=Same.upd (o:=.lst ((rs n ws).map V.int)) fy _ _ el1;have nr:H l1=none:=dv;clear dv fy;generalize upd H1 l2 _=H2 at s2 el2 fR ⊢;clear el1 s1;dsimp only;refine aC ?_;refine ⟨_,rfl,_,rfl,l1,fs n ws,rfl,.inl (SqL.of fR),_,_,rfl,rfl,?_⟩;show _;dsimp only;rw [show n - (fs n ws).sum=lf n ws from rfl];refine aC ?_;refine ⟨_,rfl,l2,rs n ws,rfl,el2,by rw [gB];exact rS,fun H3 l3 pl ord s3 P9 el3=>⟨_,rfl,_,rfl,l3,_,rfl,SqL.of el3,fun l4 yA=>⟨l4,rfl,⟨_,SqL.of aa⟩,?_⟩⟩⟩;have Qa:=xO (n:=n) ok;have Qb:=BL (n:=n) ok;have IQ:=ord.len;rw [gB] at IQ
  have IS:jF (pl.map fun j:Nat=>V.int (j:Int)) none (some (lf n ws))=(pl.take (lf n ws).toNat).map fun j:Nat=>V.int (j:Int):=by
   rw [List.map_take,<- jY (i:=(lf n ws).toNat) (by rw [zA1];lia),show ((lf n ws).toNat:Int)=lf n ws by lia]
  rw [IS];have fin:=BP ord
  have inr:∀ j∈pl.take (lf n ws).toNat,j < ws.length:=fun j hj=>by
   have:=ord.lt j (List.mem_of_mem_take hj);rw [gB] at this;exact this
  generalize pl.take (lf n ws).toNat=pk at fin inr yA ⊢;have s4:=(s2.trans s3).updR (o:=.lst (pk.map fun j:Nat=>V.int (j:Int))) yA;have el4:=aa (H:=H3) (a:=l4) (o:=.lst (pk.map fun j:Nat=>V.int (j:Int)));have Bi:=Same.upd (o:=.lst (pk.map fun j:Nat=>V.int (j:Int))) yA _ _ (s3 _ _ fR)
  have Qd:l4≠l1:=fun z=>by
   rw [z,s3 _ _ fR] at yA;cases yA
  generalize upd H3 l4 (.lst (pk.map fun j:Nat=>V.int (j:Int)))=H4 at s4 el4 Bi ⊢;clear yA el3 P9 s3 fR el2 s2;refine fU (xs:=pk.map fun j:Nat=>V.int (j:Int)) (fun i σ Hc=>∃ o6,σ=[some (.int n),some (.ref p),some (.int ws.sum),some (.ref l1),some (.ref l2),some (.int (lf n ws)),o6]/\Same H Hc/\Hc l4=some (.lst (pk.map fun j:Nat=>V.int (j:Int)))/\Hc l1=some (.lst ((cN (fs n ws) (pk.take i)).map V.int))) ?_ ?_ ?_ ?_
  ·exact ⟨none,rfl,s4,el4,Bi⟩
  ·rintro i σ Hc hi ⟨o6,rfl,s5,e4,e1⟩;exact SqL.of e4
  ·rintro i v σ Hc hv ⟨o6,rfl,s5,e4,e1⟩;rw [zAb] at hv
   cases hj:pk[i]? with
   | none=>rw [hj] at hv;cases hv
   | some j =>
    rw [hj] at hv;cases hv;refine aH ?_
    have kp:∀ o,Same H (upd Hc l1 o):=fun o b u e=>by
     rw [az (au e nr)];exact s5 _ _ e
    have ax:j < (cN (fs n ws) (pk.take i)).length:=by
     rw [je,oO];exact inr j (zB7 hj)
    have hx:((cN (fs n ws) (pk.take i)).map V.int)[((j:Nat):Int).toNat]?=some (.int ((cN (fs n ws) (pk.take i)).getD j 0)):=by
     rw [zAi,zAb,zA0 ax,zA7,zA0 ax];rfl
    refine ⟨_,rfl,_,rfl,l1,_,(j:Int),_,rfl,rfl,SqL.of e1,by lia,hx,_,_,rfl,rfl,l1,_,(j:Int),j,rfl,rfl,e1,sY (by rw [zA1];exact ax),?_⟩;refine ⟨_,rfl,kp _,by rw [az Qd];exact e4,?_⟩;rw [aa,zAj,hj];show _=some (HO.lst ((cN (fs n ws) (pk.take i++[j])).map V.int));rw [oN,List.map_set]
  ·rintro σ Hc ⟨o6,rfl,s5,e4,e1⟩;rw [zA1,zAm,fin] at e1;dsimp only;refine iU ?_;exact ⟨_,rfl,l1,_,rfl,.inl ⟨SqL.of e1,fun t ht=>q _ t (s5.updR ht) aa⟩⟩
theorem sc15:FnScope ["sacks","weights"] ["sacks","weights"] (aG (top 44)):=fS
theorem ok_parted (F:Fun K "parted" "parted" (top 44) f fd)(c1:Cal P w K mg base 5 "refuse_unpartable" ["sacks","weights"] uI)(c2:Cal P w K mg base 2 "parts_of" ["sacks","weights"] spParts):FnOk P w K mg base CX0 6 f fd ["sacks","weights"] spParts:=by
 refine F.ok sc15 (fun vs H Q E h=>?_) (fun ar A outer s H vs Q E hr h=>?_)
 ·obtain ⟨n,p,ws,rfl,_⟩:=h;rfl
 ·obtain ⟨n,p,ws,rfl,ep,ok,n0,n1,q⟩:=h;refine ⟨_,aB (cO (aF c1 hr (aq (pv 0) (aq (pv 1) aj)))) (aD (aR (aF c2 hr (aq (pv 0) (aq (pv 1) aj))))),?_⟩;refine aC ?_;refine ⟨_,rfl,_,rfl,n,p,ws,rfl,ep,ok,n0,n1,fun H1 s1=>?_⟩;dsimp only;refine iU ?_;exact ⟨_,rfl,_,rfl,n,p,ws,rfl,s1 _ _ ep,ok,n0,n1,fun H2 t s2 et=>q H2 t (s1.trans s2) et⟩
end
end K61P
namespace K61
open PySem L2
def aY:Int->List (List Int)->List Int
 | _,[]=>[]
 | w,r::rs=>(if w < fl r 3 then w else fl r 3)::aY (w - (if w < fl r 3 then w else fl r 3)) rs
theorem iw:∀ (w:Int) (rs:List (List Int)) (r:List Int),aY w (rs++[r])=aY w rs++[if w - (aY w rs).sum < fl r 3 then w - (aY w rs).sum else fl r 3]
 | w,[],r=>by
  show [_]=[_];rw [show (aY w []).sum=0 from rfl,Int.sub_zero]
 | w,q::rs,r=>by
  rw [List.cons_append];unfold aY;rw [iw _ rs r,List.cons_append,List.sum_cons,show ∀ a b c:Int,a - b - c=a - (b+c) from fun a b c=>by lia]
theorem du:∀ (w:Int) (rs:List (List Int)),(aY w rs).length=rs.length
 | _,[]=>rfl
 | w,r::rs=>by
  unfold aY;rw [zAe,zAe,du]
inductive SpMadeI (vs:List V)(H:Hp)(Q:VK):Prop
 | mk:∀ w l xs rs,(vs=[.int w,.ref l])->(H l=some (.lst xs))->(Els H xs rs)->((∀ r∈rs,r.length=4))->(rs.length<=100000)->(∀ m H',Same H H'->H m=none->H' m=some (.lst ((aY w rs).map V.int))->Q (.ref m) H')->SpMadeI  vs H Q
def BV:Sp:=fun vs H Q _=>SpMadeI  vs H Q
def aZ (w:Int)(rs:List (List Int)):List Int:=if (wts rs).sum<=w then wts rs else K61P.res w (wts rs)
inductive SpSharesI (vs:List V)(H:Hp)(Q:VK):Prop
 | mk:∀ w l xs rs,(vs=[.int w,.ref l])->(H l=some (.lst xs))->(Els H xs rs)->((∀ r∈rs,r.length=4/\1<=fl r 3/\fl r 3<=99))->(rs.length<=80)->(0<=w)->(∀ t H',Same H H'->H' t=some (.tup ((aZ w rs).map V.int))->Q (.ref t) H')->SpSharesI  vs H Q
def uK:Sp:=fun vs H Q _=>SpSharesI  vs H Q
variable {P:Program}{w:World}{K:Frag}{mg:Str->Option Value}{base:Heap}{f:Addr}{fd:FuncData}
theorem scT1:FnScope ["wool","owed","shares","left","due","number","holder","sacks","share"] ["wool","owed"] (aG (top 49)):=fS
theorem Er (F:Fun K "made_good" "made_good" (top 49) f fd)(Tn:mg "min" = none):FnOk P w K mg base CX0 1 f fd ["wool","owed"] BV:=by
 refine F.ok scT1 (fun vs H Q E h=>?_) (fun ar A outer s H vs Q E hr h=>?_)
 ·obtain ⟨w0,l,xs,rs,rfl,_⟩:=h;rfl
 ·obtain ⟨w0,l,xs,rs,rfl,el,els,h4,hz,q⟩:=h
  refine ⟨_,aB (pss 2 scT1.nd (cX aj))
   (aB (pss 3 scT1.nd (pv 0))
   (aB (bY zB3 rfl (bW (pv 1)) (bJ rfl (ao (pgn 4 scT1.nd) (ao (pgn 5 scT1.nd) (ao (pgn 6 scT1.nd) (ao (pgn 7 scT1.nd) aV)))))
    (aB (pss 8 scT1.nd (aN (fK rfl) rfl Tn boot_min (aq (pv 7) (aq (pv 3) aj))))
    (aB (cO (nG zBd zBg zBf fM (pv 2) (aq (pv 8) aj)))
    (aD (nj (i:=3) scT1.nd rfl (Or.inl rfl) (pv 8) Ad)))))
   (aD (aR (pv 2))))),?_⟩
  refine aC (aW ?_);refine ⟨zL,fun m hm=>?_⟩;refine aH ?_;dsimp only;refine aC (aW ?_);refine ⟨_,rfl,?_⟩;refine aH ?_;dsimp only;refine aC ?_;have s1:=Same.upd (o:=.lst []) hm;have nl:l≠m:=au el hm;refine ⟨_,rfl,l,rfl,⟨_,SqL.of (s1 _ _ el)⟩,?_⟩;refine fU (xs:=xs) (fun i σ Hc=>∃ x4 x5 x6 x7 x8,σ=[some (.int w0),some (.ref l),some (.ref m),some (.int (w0 - (aY w0 (rs.take i)).sum)),x4,x5,x6,x7,x8]/\(∀ b o,H b=some o->Hc b=some o)/\Hc m=some (.lst ((aY w0 (rs.take i)).map V.int))) ?_ ?_ ?_ ?_
  ·refine ⟨none,none,none,none,none,?_,fun b o e=>s1 _ _ e,aa⟩;rw [List.take_zero,show (aY w0 []).sum=0 from rfl,Int.sub_zero];rfl
  ·rintro i σ Hc hi ⟨x4,x5,x6,x7,x8,rfl,k,em⟩;exact SqL.of (k _ _ el)
  ·rintro i x σ Hc hx ⟨x4,x5,x6,x7,x8,rfl,k,em⟩
   have hi:i < rs.length:=by
    have:=(zAa.mp hx).1;rw [els.1] at this;exact this
   obtain ⟨t,ex,et⟩:=els.2 i rs[i] (zA0 hi);rw [ex] at hx;cases hx;rw [bR (h4 _ (zAh hi))] at et;refine ⟨t,_,rfl,SqT.of (k _ _ et),rfl,_,_,rfl,_,_,rfl,_,_,rfl,_,_,rfl,rfl,?_⟩;refine aC (aW ?_);refine ⟨_,rfl,_,rfl,_,_,rfl,?_⟩;refine aH ?_;dsimp only;refine aC ?_;refine ⟨_,rfl,.inl ⟨rfl,_,SqL.of em⟩,_,rfl,m,_,_,rfl,rfl,em,?_,?_⟩
   ·rw [zA1,du,zAd,sizeLine_eq];lia
   have bq:rs.take (i+1)=rs.take i++[rs[i]]:=by rw [zAj,zA0 hi];rfl
   dsimp only;refine ⟨_,rfl,_,rfl,_,_,rfl,rfl,some (.int (fl rs[i] 0)),some (.int (fl rs[i] 1)),some (.int (fl rs[i] 2)),some (.int (fl rs[i] 3)),some (.int (if w0 - (aY w0 (rs.take i)).sum < fl rs[i] 3 then w0 - (aY w0 (rs.take i)).sum else fl rs[i] 3)),?_,fun b o e=>?_,?_⟩
   ·rw [bq,iw,List.sum_append,List.sum_cons,List.sum_nil,Int.add_zero,show ∀ a b c:Int,a - (b+c)=a - b - c from fun a b c=>by lia];rfl
   ·rw [az (au e hm)];exact k _ _ e
   ·rw [aa,bq,iw,zA4];rfl
  ·rintro σ Hc ⟨x4,x5,x6,x7,x8,rfl,k,em⟩;rw [show xs.length=rs.length from els.1,zAm] at em;exact ⟨_,rfl,q m Hc (fun b o e=>k b o e) hm em⟩
theorem scT2:FnScope ["wool","claims","weights"] ["wool","claims"] (aG (top 48)):=fS
theorem zu (F:Fun K "shares_of" "shares_of" (top 48) f fd)(T:Mg mg)(Ts:mg "sum" = none)(c1:Cal P w K mg base 6 "parted" ["sacks","weights"] K61P.spParts):FnOk P w K mg base CX0 7 f fd ["wool","claims"] uK:=by
 refine F.ok scT2 (fun vs H Q E h=>?_) (fun ar A outer s H vs Q E hr h=>?_)
 ·obtain ⟨w0,l,xs,rs,rfl,_⟩:=h;rfl
 ·obtain ⟨w0,l,xs,rs,rfl,el,els,h4,hz,hw,q⟩:=h
  refine ⟨_,aB (pss 2 scT2.nd (bM bF rfl T.tuple boot_tuple (aq (bC (g:=jj K 4 (bN (bw 0) (bN (bw 1) (bN (bw 2) (bN (bw 3) jo))))) ["due","number","holder","sacks"] [none,none,none,none] rfl (bW (pv 1))
    (fun C fp pins s₂ H₂=>⟨cZ rfl rfl (ao (pgn 0 nd4) (ao (pgn 1 nd4) (ao (pgn 2 nd4) (ao (pgn 3 nd4) aV)))),bu,pv 3⟩) (fun C=>trivial) ⟨rfl,rfl,rfl,rfl⟩) aj)))
   (aD (aR (ni (bj cJ (aN (cV rfl) rfl Ts boot_sum (aq (pv 2) aj)) (pv 0) (bA _)) (pv 2) (aF c1 hr (aq (pv 0) (aq (pv 2) aj)))))),?_⟩
  refine aC (aW ?_);refine ⟨_,rfl,l,rfl,⟨_,SqL.of el⟩,comp_gen rs.length (fun i ys σ Hc=>Same H Hc/\(∃ o1 o2 o3 o4,σ=[o1,o2,o3,o4])/\ys=(wts (rs.take i)).map V.int) ⟨Same.refl H,⟨_,_,_,_,rfl⟩,rfl⟩ (by rw [sizeLine_eq];lia) ?_ ?_⟩
  ·rintro i ys σ Hc hi hy ⟨s1,⟨o1,o2,o3,o4,rfl⟩,rfl⟩;obtain ⟨t,ex,et⟩:=els.2 i rs[i] (zA0 hi);rw [bR (h4 _ (zAh hi)).1] at et;refine ⟨⟨_,_,SqL.of (s1 _ _ el),ex⟩,fun v H' y R hR=>?_⟩;obtain ⟨rfl,y⟩:=y;have hv:=y _ (SqL.of (s1 _ _ el));rw [ex] at hv;cases hv;refine ⟨t,_,rfl,SqT.of (s1 _ _ et),rfl,_,_,rfl,_,_,rfl,_,_,rfl,_,_,rfl,rfl,_,rfl,hR _ _ _ ⟨s1,⟨_,_,_,_,rfl⟩,?_⟩⟩;unfold wts;rw [zAj,zA0 hi,zA4,zA4];rfl
  ·rintro ys σ Hc hy ⟨s1,_,rfl⟩;refine ⟨⟨_,SqL.of (s1 _ _ el),by rw [els.1];exact zA3 _⟩,fun D hD=>?_⟩;rw [zAm];refine ⟨D,_,rfl,.inl ⟨SqL.of aa,fun t ht=>?_⟩⟩;have s2:=(s1.updR (o:=.lst ((wts rs).map V.int)) hD).updR (o:=.tup ((wts rs).map V.int)) ht;have et:=aa (H:=upd Hc D (.lst ((wts rs).map V.int))) (a:=t) (o:=.tup ((wts rs).map V.int));generalize upd (upd Hc D (.lst ((wts rs).map V.int))) t (.tup ((wts rs).map V.int))=H2 at s2 et ⊢;refine aH ?_;dsimp only;refine ⟨_,rfl,t,wts rs,rfl,.inr (SqT.of et),_,rfl,_,_,rfl,rfl,_,rfl,?_⟩;by_cases hs:(wts rs).sum<=w0
   ·rw [zAt hs];refine bQ ⟨_,rfl,q t H2 s2 ?_⟩;unfold aZ;rw [zAx hs];exact et
   ·rw [zAz hs];refine bB ⟨_,rfl,_,rfl,w0,t,wts rs,rfl,et,⟨?_,?_,fun x hx=>?_⟩,hw,by lia,fun H3 t3 s3 e3=>q t3 H3 (s2.trans s3) ?_⟩
    ·cases nv:rs with
     | nil =>
      rw [nv] at hs;exact absurd hw hs
     | cons r yB =>
      unfold wts;rw [zA1,zAe];lia
    ·unfold wts;rw [zA1];exact hz
    ·obtain ⟨r,nv,rfl⟩:=zA5.mp hx;exact (h4 r nv).2
    ·unfold aZ;rw [zAw hs];exact e3
theorem eQ {J:It}{g:TG}{tt:TT}{te:TE}{cK:St}{H0:Hp}{Fin:List V->Hp->Prop}(n:Nat)(Pv:Nat->List V->St->Hp->Prop)(h0:Pv 0 [] cK H0)(hz:n < sizeLine)
  (step:∀ i ys σ H,i < n->ys.length<=i->Pv i ys σ H->J.go i H/\∀ x H',J.yld i H x H'->∀ R:List V->St->Hp->Prop,(∀ oB aT H4,oB.length<=i+1->Pv (i+1) oB aT H4->R oB aT H4)->g x σ H' fun aT H2=>tt aT H2 fun b H3=>if b=true then te aT H3 fun y H4=>R (ys++[y]) aT H4 else R ys aT H3)
  (fin:∀ ys σ H,ys.length<=n->Pv n ys σ H->J.stop n H/\Fin ys H):jm J g tt te Fin cK H0:=by
 refine ⟨fun i m ys σ H=>m=n - i/\i<=n/\ys.length<=i/\Pv i ys σ H,⟨_,rfl,zAp _,zA3 _,h0⟩,?_⟩;rintro i m ys σ H ⟨rfl,hi,hy,p⟩;refine ⟨by lia,?_⟩;by_cases ax:i < n
 ·obtain ⟨go,st⟩:=step i ys σ H ax hy p;exact .inr ⟨go,fun x H' y=>st x H' y (fun oB aT H4=>∃ m',m' < n - i/\m'=n - (i+1)/\i+1<=n/\oB.length<=i+1/\Pv (i+1) oB aT H4) fun oB aT H4 l2 p2=>⟨n - (i+1),by lia,rfl,ax,l2,p2⟩⟩
 ·have e:i=n:=by lia
  subst e;exact .inl (fin ys σ H hy p)
def cj (P:List (List Int×Int)):List (List Int):=(P.filter fun p=>decide (0 < p.2)).map fun p=>[fl p.1 0,fl p.1 1,fl p.1 2,p.2]
def bz (P:List (List Int×Int)):List (List Int):=(P.filter fun p=>decide (p.2 < fl p.1 3)).map fun p=>[fl p.1 0,fl p.1 1,fl p.1 2,fl p.1 3 - p.2]
theorem gM (P:List (List Int×Int))(p:List Int×Int):cj (P++[p])=cj P++(if 0 < p.2 then [[fl p.1 0,fl p.1 1,fl p.1 2,p.2]] else []):=by
 unfold cj;rw [List.filter_append,zA4];congr 1;by_cases h:0 < p.2
 ·rw [zAx h,zBb (p:=fun (p:List Int×Int)=>decide (0 < p.2)) (zAt h)];rfl
 ·rw [zAw h,zB9 (p:=fun (p:List Int×Int)=>decide (0 < p.2)) (by rw [decide_eq_true_eq];exact h)];rfl
theorem jB (P:List (List Int×Int))(p:List Int×Int):bz (P++[p])=bz P++(if p.2 < fl p.1 3 then [[fl p.1 0,fl p.1 1,fl p.1 2,fl p.1 3 - p.2]] else []):=by
 unfold bz;rw [List.filter_append,zA4];congr 1;by_cases h:p.2 < fl p.1 3
 ·rw [zAx h,zBb (p:=fun (p:List Int×Int)=>decide (p.2 < fl p.1 3)) (zAt h)];rfl
 ·rw [zAw h,zB9 (p:=fun (p:List Int×Int)=>decide (p.2 < fl p.1 3)) (by rw [decide_eq_true_eq];exact h)];rfl
theorem shares_len {w:Int}{rs:List (List Int)}:(aZ w rs).length=rs.length:=by
 unfold aZ;split
 ·unfold wts;rw [zA1]
 ·rw [K61P.res_len];unfold wts;rw [zA1]
def shr (w:Int)(cl ow:List (List Int)):List Int:=aZ w cl++aY (w - (aZ w cl).sum) ow
inductive SpSortI (vs:List V)(H:Hp)(Q:VK):Prop
 | mk:∀ w lc xc cl lo xo ow,(vs=[.int w,.ref lc,.ref lo])->(H lc=some (.lst xc))->(Els H xc cl)->((∀ r∈cl,r.length=4/\1<=fl r 3/\fl r 3<=99))->(cl.length<=80)->(0<=w)->(H lo=some (.lst xo))->(Els H xo ow)->((∀ r∈ow,r.length=4))->(ow.length<=10000)->(∀ t g k xg xk H',Same H H'->H' t=some (.tup [.ref g,.ref k])->H g=none->H k=none->H' g=some (.lst xg)->Els H' xg (cj ((cl++ow).zip (shr w cl ow)))->H' k=some (.lst xk)->Els H' xk (bz ((cl++ow).zip (shr w cl ow)))->Q (.ref t) H')->SpSortI  vs H Q
def BW:Sp:=fun vs H Q _=>SpSortI  vs H Q
theorem mj:bootBuiltins "list" = some (.type "list"):=by decide +kernel
theorem nd5:(["due","number","holder","sacks","share"]:List Str).Nodup:=by decide +kernel
theorem scU1:FnScope ["wool","claims","owed","shares","rows","gifts","lacking"] ["wool","claims","owed"] (aG (top 50)):=fS
theorem BX (F:Fun K "sort_given" "sort_given" (top 50) f fd)(Ts:mg "sum" = none)(Tl:mg "list" = none)(Tz:mg "zip" = none)(c1:Cal P w K mg base 7 "shares_of" ["wool","claims"] uK)(c2:Cal P w K mg base 1 "made_good" ["wool","owed"] BV):FnOk P w K mg base CX0 8 f fd ["wool","claims","owed"] BW:=by
 refine F.ok scU1 (fun vs H Q E h=>?_) (fun ar A outer s H vs Q E hr h=>?_)
 ·obtain ⟨w0,lc,xc,cl,lo,xo,ow,rfl,_⟩:=h;rfl
 ·obtain ⟨w0,lc,xc,cl,lo,xo,ow,rfl,ec,Bn,M6,Qe,hw,eo,oD,M7,Qf,q⟩:=h
  refine ⟨_,aB (pss 3 scU1.nd (bM ie rfl Tl mj (aq (aF c1 hr (aq (pv 0) (aq (pv 1) aj))) aj)))
   (aB (pss 4 scU1.nd (aU vp (pv 1) (pv 2)))
   (aB (nj (i:=3) scU1.nd rfl (Or.inl rfl) (aF c2 hr (aq (aU cP (pv 0) (aN (cV rfl) rfl Ts boot_sum (aq (pv 3) aj))) (aq (pv 2) aj))) sE)
   (aB (fJ (g:=jj K 2 (bN (jj K 4 (bN (bw 0) (bN (bw 1) (bN (bw 2) (bN (bw 3) jo))))) (bN (bw 4) jo))) (i:=5) ["due","number","holder","sacks","share"] [none,none,none,none,none] rfl scU1.nd rfl (Or.inl rfl) (ZL.pi_zip rfl Tz (aq (pv 4) (aq (pv 3) aj))) (fun C fp pins s₂ H₂=>⟨cZ rfl rfl (ao (cZ rfl rfl (ao (pgn 0 nd5) (ao (pgn 1 nd5) (ao (pgn 2 nd5) (ao (pgn 3 nd5) aV))))) (ao (pgn 4 nd5) aV)),gm (bj jD (pv 4) aA (bA _)),bD (aq (pv 0) (aq (pv 1) (aq (pv 2) (aq (pv 4) aj))))⟩) (fun C=>trivial) ⟨rfl,rfl,rfl,rfl⟩)
   (aB (fJ (g:=jj K 2 (bN (jj K 4 (bN (bw 0) (bN (bw 1) (bN (bw 2) (bN (bw 3) jo))))) (bN (bw 4) jo))) (i:=6) ["due","number","holder","sacks","share"] [none,none,none,none,none] rfl scU1.nd rfl (Or.inl rfl) (ZL.pi_zip rfl Tz (aq (pv 4) (aq (pv 3) aj))) (fun C fp pins s₂ H₂=>⟨cZ rfl rfl (ao (cZ rfl rfl (ao (pgn 0 nd5) (ao (pgn 1 nd5) (ao (pgn 2 nd5) (ao (pgn 3 nd5) aV))))) (ao (pgn 4 nd5) aV)),gm (bj jD (pv 3) (pv 4) (bA _)),bD (aq (pv 0) (aq (pv 1) (aq (pv 2) (aq (aU cP (pv 3) (pv 4)) aj))))⟩) (fun C=>trivial) ⟨rfl,rfl,rfl,rfl⟩)
   (aD (aR (bD (aq (pv 5) (aq (pv 6) aj))))))))),?_⟩
  refine cC fun c_ ba=>?_;refine aW ?_;refine ⟨_,rfl,_,rfl,w0,lc,xc,cl,rfl,ec,Bn,M6,Qe,hw,fun t H1 s1 et=>⟨t,_,rfl,.inr (SqT.of et),fun ls Bz=>?_⟩⟩;have s2:=s1.updR (o:=.lst ((aZ w0 cl).map V.int)) Bz;have IT:H ls=none:=s1.free Bz;have els:=aa (H:=H1) (a:=ls) (o:=.lst ((aZ w0 cl).map V.int));generalize upd H1 ls (.lst ((aZ w0 cl).map V.int))=H2 at s2 els ⊢;refine aH ?_;refine ba _ _ ?_;clear ba c_
  try dsimp only
  refine cC fun c_ ba=>?_;refine aW ?_;refine ⟨_,rfl,_,rfl,lc,lo,xc,xo,rfl,rfl,s2 _ _ ec,s2 _ _ eo,by rw [Bn.1,oD.1,sizeLine_eq];lia,fun lr jS=>?_⟩;have s3:=s2.updR (o:=.lst (xc++xo)) jS;have Wb:H lr=none:=s2.free jS;have oI:=Same.upd (o:=.lst (xc++xo)) jS _ _ els;have IU:=aa (H:=H2) (a:=lr) (o:=.lst (xc++xo))
  have Qg:lr≠ls:=fun z=>by rw [z,els] at jS;cases jS
  generalize upd H2 lr (.lst (xc++xo))=H3 at s3 oI IU ⊢;refine aH ?_;refine ba _ _ ?_;clear ba c_
  try dsimp only
  refine cC fun c_ ba=>?_;refine ⟨_,rfl,_,rfl,_,rfl,ls,aZ w0 cl,rfl,.inl (SqL.of oI),_,_,rfl,rfl,_,rfl,_,lo,xo,ow,rfl,s3 _ _ eo,oD.same s3,M7,by lia,fun m H4 s4 nm em=>?_⟩;refine ⟨ls,m,_,_,rfl,rfl,s4 _ _ oI,em,by rw [zA1,zA1,shares_len,du,sizeLine_eq];lia,?_⟩;have kG:(aZ w0 cl).map V.int++(aY (w0 - (aZ w0 cl).sum) ow).map V.int=(shr w0 cl ow).map V.int:=by unfold shr;rw [zA4]
  rw [kG]
  have vn:(shr w0 cl ow).length=(cl++ow).length:=by
   unfold shr;rw [zA2,zA2,shares_len,du]
  generalize shr w0 cl ow=SH at q vn;refine ba _ _ ?_;clear ba c_
  try dsimp only
  have k5:Same H (upd H4 ls (.lst (SH.map V.int))):=fun b o e=>by
   rw [az (au e IT)];exact s4 _ _ (s3 _ _ e)
  have e8:=aa (H:=H4) (a:=ls) (o:=.lst (SH.map V.int));have hX:upd H4 ls (.lst (SH.map V.int)) lr=some (.lst (xc++xo)):=by rw [az Qg];exact s4 _ _ IU
  generalize upd H4 ls (.lst (SH.map V.int))=H5 at k5 e8 hX ⊢;have yT:Els H (xc++xo) (cl++ow):=Bn.app oD;have M8:∀ r∈cl++ow,r.length=4:=fun r hr=>(zA6.mp hr).elim (fun z=>(M6 r z).1) (M7 r);have Qh:(cl++ow).length<=20000:=by rw [zA2];lia
  generalize xc++xo=xr at hX yT;generalize cl++ow=rr at q vn yT M8 Qh;clear els oI IU kG s1 s2 s3 s4 em et
  obtain ⟨ZP,EH⟩:∃ ZP,ZP=rr.zip SH:=⟨_,rfl⟩
  rw [<- EH] at q;have oP:ZP.length=rr.length:=by rw [EH,zAs,vn,Nat.min_self]
  have vw:∀ i (h:i < ZP.length),rr[i]?=some ZP[i].1:=fun i h=>by
   have hi:i < rr.length:=by lia
   rw [zA0 hi];congr 1;simp only [EH,List.getElem_zip]
  have BA:∀ i (h:i < ZP.length),SH[i]?=some ZP[i].2:=fun i h=>by
   have hi:i < SH.length:=by lia
   rw [zA0 hi];congr 1;simp only [EH,List.getElem_zip]
  have BB:∀ i (h:i < ZP.length),(ZP[i].1).length=4:=fun i h=>M8 _ (zB7 (vw i h));refine cC fun c_ ba=>?_;refine ⟨_,rfl,_,rfl,lr,ls,xr,_,rfl,SqL.of hX,SqL.of e8,eQ rr.length (fun i ys σ Hc=>Same H5 Hc/\(∃ o1 o2 o3 o4 o5,σ=[o1,o2,o3,o4,o5])/\Els Hc ys (cj (ZP.take i))) ⟨Same.refl _,⟨_,_,_,_,_,rfl⟩,Els.nil⟩ (by rw [sizeLine_eq];lia) ?_ ?_⟩
  ·rintro i ys σ Hc hi hy ⟨sc,⟨o1,o2,o3,o4,o5,rfl⟩,ht⟩;have hP:i < ZP.length:=by rw [oP];exact hi
   obtain ⟨tr,ex,et⟩:=yT.2 i ZP[i].1 (vw i hP);have er:SqL K Hc lr xr:=SqL.of (sc _ _ hX);have es:SqL K Hc ls (SH.map V.int):=SqL.of (sc _ _ e8);have gE:(SH.map V.int)[i]?=some (.int ZP[i].2):=by rw [zAb,BA i hP];rfl
   have bq:ZP.take (i+1)=ZP.take i++[ZP[i]]:=by rw [zAj,zA0 hP];rfl
   have BC:=sc _ _ (k5 _ _ et);rw [bR (BB i hP)] at BC;refine ⟨⟨_,_,_,_,er,es,ex,gE⟩,fun x H' yv R hR=>?_⟩;obtain ⟨T0,nT,rfl,yv⟩:=yv;obtain ⟨x',y',ko,vx,rfl⟩:=yv _ _ er es;rw [ex] at ko;cases ko;rw [gE] at vx;cases vx;have rV:=sc.updR (o:=.tup [.ref tr,.int ZP[i].2]) nT;refine ⟨T0,_,rfl,SqT.of aa,rfl,_,_,rfl,?_⟩;refine ⟨tr,_,rfl,SqT.of (Same.upd nT _ _ BC),rfl,_,_,rfl,_,_,rfl,_,_,rfl,_,_,rfl,rfl,?_⟩;refine ⟨_,_,rfl,rfl,?_⟩;refine ⟨_,rfl,_,_,rfl,rfl,_,rfl,?_⟩;by_cases aE:0 < ZP[i].2
   ·rw [zAt aE];refine bQ ⟨_,rfl,_,rfl,_,rfl,_,rfl,zL,fun t fw=>hR _ _ _ (by rw [zA2];show ys.length+1<=i+1;lia) ⟨rV.updR fw,⟨_,_,_,_,_,rfl⟩,?_⟩⟩;rw [bq,gM,zAx aE];exact (((ht.same (Same.upd nT)).same (Same.upd fw))).app (Els.one aa)
   ·rw [zAz aE];refine bB (hR _ _ _ (by lia) ⟨rV,⟨_,_,_,_,_,rfl⟩,?_⟩);rw [bq,gM,zAw aE,zAn];exact ht.same (Same.upd nT)
  rintro ys σ Hc hy ⟨sc,_,ht⟩;rw [<- oP,zAm] at ht;refine ⟨⟨_,_,SqL.of (sc _ _ hX),SqL.of (sc _ _ e8),.inl (by rw [yT.1];exact zA3 _)⟩,fun g hg=>?_⟩;have k6:=(k5.trans sc).updR (o:=.lst ys) hg;have ng:H g=none:=(k5.trans sc).free hg;have eg:=aa (H:=Hc) (a:=g) (o:=.lst ys);have elg:=ht.same (Same.upd (o:=.lst ys) hg);have oQ:=Same.upd (o:=.lst ys) hg _ _ (sc _ _ hX);have gp:=Same.upd (o:=.lst ys) hg _ _ (sc _ _ e8);generalize upd Hc g (.lst ys)=H6 at k6 eg elg oQ gp ⊢;clear sc ht hy e8 hX k5;refine ba _ _ ?_;clear ba c_
  try dsimp only
  refine cC fun c_ ba=>?_;refine ⟨_,rfl,_,rfl,lr,ls,xr,_,rfl,SqL.of oQ,SqL.of gp,eQ rr.length (fun i ys σ Hc=>Same H6 Hc/\(∃ o1 o2 o3 o4 o5,σ=[o1,o2,o3,o4,o5])/\Els Hc ys (bz (ZP.take i))) ⟨Same.refl _,⟨_,_,_,_,_,rfl⟩,Els.nil⟩ (by rw [sizeLine_eq];lia) ?_ ?_⟩
  ·rintro i ys σ Hc hi hy ⟨sc,⟨o1,o2,o3,o4,o5,rfl⟩,ht⟩;have hP:i < ZP.length:=by rw [oP];exact hi
   obtain ⟨tr,ex,et⟩:=yT.2 i ZP[i].1 (vw i hP);have er:SqL K Hc lr xr:=SqL.of (sc _ _ oQ);have es:SqL K Hc ls (SH.map V.int):=SqL.of (sc _ _ gp);have gE:(SH.map V.int)[i]?=some (.int ZP[i].2):=by rw [zAb,BA i hP];rfl
   have bq:ZP.take (i+1)=ZP.take i++[ZP[i]]:=by rw [zAj,zA0 hP];rfl
   have BC:=sc _ _ (k6 _ _ et);rw [bR (BB i hP)] at BC;refine ⟨⟨_,_,_,_,er,es,ex,gE⟩,fun x H' yv R hR=>?_⟩;obtain ⟨T0,nT,rfl,yv⟩:=yv;obtain ⟨x',y',ko,vx,rfl⟩:=yv _ _ er es;rw [ex] at ko;cases ko;rw [gE] at vx;cases vx;have rV:=sc.updR (o:=.tup [.ref tr,.int ZP[i].2]) nT;refine ⟨T0,_,rfl,SqT.of aa,rfl,_,_,rfl,?_⟩;refine ⟨tr,_,rfl,SqT.of (Same.upd nT _ _ BC),rfl,_,_,rfl,_,_,rfl,_,_,rfl,_,_,rfl,rfl,?_⟩;refine ⟨_,_,rfl,rfl,?_⟩;refine ⟨_,rfl,_,rfl,_,_,rfl,rfl,_,rfl,?_⟩;by_cases aE:ZP[i].2 < fl ZP[i].1 3
   ·rw [zAt aE];refine bQ ⟨_,rfl,_,rfl,_,rfl,_,rfl,_,rfl,_,_,rfl,rfl,zL,fun t fw=>hR _ _ _ (by rw [zA2];show ys.length+1<=i+1;lia) ⟨rV.updR fw,⟨_,_,_,_,_,rfl⟩,?_⟩⟩;rw [bq,jB,zAx aE];exact (((ht.same (Same.upd nT)).same (Same.upd fw))).app (Els.one aa)
   ·rw [zAz aE];refine bB (hR _ _ _ (by lia) ⟨rV,⟨_,_,_,_,_,rfl⟩,?_⟩);rw [bq,jB,zAw aE,zAn];exact ht.same (Same.upd nT)
  rintro IX σ Hc hy ⟨sc,_,ht⟩;rw [<- oP,zAm] at ht;refine ⟨⟨_,_,SqL.of (sc _ _ oQ),SqL.of (sc _ _ gp),.inl (by rw [yT.1];exact zA3 _)⟩,fun k hk=>?_⟩;have k7:=(k6.trans sc).updR (o:=.lst IX) hk;have nk:H k=none:=(k6.trans sc).free hk;have sk:=Same.upd (o:=.lst IX) hk;refine ba _ _ ?_;clear ba c_
  try dsimp only
  refine ⟨_,rfl,_,rfl,zL,fun t fw=>?_⟩;have st:=Same.upd (o:=.tup [.ref g,.ref k]) fw;exact q t g k ys IX _ (k7.trans st) aa ng nk (st _ _ (sk _ _ (sc _ _ eg))) (((elg.same sc).same sk).same st) (st _ _ aa) ((ht.same sk).same st)
def dH (L:List Int)(i:Nat):List (List Int):=((List.range i).filter fun h=>decide (0 < L.getD h 0)).map fun (h:Nat)=>[(h:Int),L.getD h 0]
theorem gr (L:List Int)(i:Nat):dH L (i+1)=dH L i++(if 0 < L.getD i 0 then [[(i:Int),L.getD i 0]] else []):=by
 unfold dH;rw [List.range_succ,List.filter_append,zA4];congr 1;by_cases h:0 < L.getD i 0
 ·rw [zAx h,zBb (p:=fun h=>decide (0 < L.getD h 0)) (zAt h)];rfl
 ·rw [zAw h,zB9 (p:=fun h=>decide (0 < L.getD h 0)) (by rw [decide_eq_true_eq];exact h)];rfl
theorem vL (L:List Int)(i:Nat):(dH L i).length<=i:=by
 unfold dH;rw [zA1];have:=List.length_filter_le (fun h=>decide (0 < L.getD h 0)) (List.range i);rw [List.length_range] at this;exact this
def iH (ps ss:List (List Int))(sort year:Int)(n:Nat):List (List Int):=if fl (ps.getD n []) 1=sort then (dH (bU (ps.getD n []) ss n year) 8).map (fun r=>year::(n:Int)::r) else []
def iy (ps ss:List (List Int))(sort year:Int):Nat->List (List Int)
 | 0=>[]
 | k+1=>iy ps ss sort year k++iH ps ss sort year k
def aK (ps ss:List (List Int))(sort year:Int):List (List Int):=iy ps ss sort year ps.length
theorem BZ (ps ss:List (List Int))(sort year:Int)(n:Nat):(iH ps ss sort year n).length<=8:=by
 unfold iH;split
 ·rw [zA1];exact vL _ 8
 ·exact zAp _
theorem kh (ps ss:List (List Int))(sort year:Int):∀ k,(iy ps ss sort year k).length<=8 * k
 | 0=>zA3 _
 | k+1=>by
  unfold iy;rw [zA2];have:=kh ps ss sort year k;have:=BZ ps ss sort year k;lia
inductive SpClaimsI (vs:List V)(H:Hp)(Q:VK):Prop
 | mk:∀ ap xp ps ae xs ss sort year,(vs=[.ref ap,.ref ae,.int sort,.int year])->(RowsAt H ap xp ps)->(ps.length<=10)->((∀ r∈ps,okP r))->(RowsAt H ae xs ss)->(ss.length<=12)->((∀ s∈ss,okS s))->(∀ l xl H',Same H H'->H l=none->H' l=some (.lst xl)->Els H' xl (aK ps ss sort year)->Q (.ref l) H')->SpClaimsI  vs H Q
def uL:Sp:=fun vs H Q _=>SpClaimsI  vs H Q
theorem ndV:(["holder","sacks","year","number"]:List Str).Nodup:=by decide +kernel
theorem scV1:FnScope ["promises","sales","sort","year","claims","number","promise","held"] ["promises","sales","sort","year"] (aG (top 47)):=fS
theorem zx (F:Fun K "claims_in" "claims_in" (top 47) f fd)(Te:mg "enumerate" = none)(c1:Cal P w K mg base 1 "held_in" ["promises","sales","number","year"] vJ):FnOk P w K mg base CX0 2 f fd ["promises","sales","sort","year"] uL:=by
 refine F.ok scV1 (fun vs H Q E h=>?_) (fun ar A outer s H vs Q E hr h=>?_)
 ·obtain ⟨ap,xp,ps,ae,xs,ss,sort,year,rfl,_⟩:=h;rfl
 ·obtain ⟨ap,xp,ps,ae,xs,ss,sort,year,rfl,rp,lp,okp,rs,ls,fI,q⟩:=h
  refine ⟨_,aB (pss 4 scV1.nd (cX aj))
   (aB (bY zB3 rfl (pi_enum rfl Te (aq (pv 0) aj)) (bJ rfl (ao (bh (i:=5) scV1.nd rfl (Or.inr rfl)) (ao (pgn 6 scV1.nd) aV)))
    (aD (cF (bj jk (pX bO (pv 6) aA) (pv 2) (bA _))
     (aB (pss 7 scV1.nd (aF c1 hr (aq (pv 0) (aq (pv 1) (aq (pv 5) (aq (pv 3) aj))))))
     (aD (nj (i:=4) scV1.nd rfl (Or.inl rfl) (bC (g:=jj K 2 (bN (bw 0) (bN (bw 1) jo))) ["holder","sacks","year","number"] [none,none,some 3,some 5] rfl (EL.pi_enum rfl Te (aq (pv 7) aj))
      (fun C fp pins s₂ H₂=>⟨cZ rfl rfl (ao (pgn 0 ndV) (ao (pgn 1 ndV) aV)),gm (bj jD (pv 1) aA (bA _)),bD (aq (pv 2) (aq (pv 3) (aq (pv 0) (aq (pv 1) aj))))⟩)
      (fun C=>cI (cI trivial)) ⟨rfl,rfl,rfl,rfl⟩) sE))) bf)))
   (aD (aR (pv 4)))),?_⟩
  refine aC (aW ?_);refine ⟨zL,fun l hl=>?_⟩;refine aH ?_;dsimp only;refine aC ?_;have s0:=Same.upd (o:=.lst []) hl;refine ⟨_,rfl,ap,xp,rfl,SqT.of (s0 _ _ rp.e),?_⟩;refine gF (xs:=xp) (fun i σ Hc=>∃ x5 x6 x7 xl,σ=[some (.ref ap),some (.ref ae),some (.int sort),some (.int year),some (.ref l),x5,x6,x7]/\(∀ b o,H b=some o->Hc b=some o)/\Hc l=some (.lst xl)/\Els Hc xl (iy ps ss sort year i)) ?_ ?_ ?_ ?_
  ·exact ⟨none,none,none,[],rfl,fun b o e=>s0 _ _ e,aa,Els.nil⟩
  ·rintro i σ Hc hi ⟨x5,x6,x7,xl,rfl,k,el,ht⟩;exact SqT.of (k _ _ rp.e)
  ·rintro i x σ Hc T0 hx ⟨x5,x6,x7,xl,rfl,k,el,ht⟩ nT
   have hi:i < ps.length:=by
    have:=(zAa.mp hx).1;rw [rp.l] at this;exact this
   obtain ⟨tr,dA,cx⟩:=rp.g i ps[i] (zA0 hi)
   have:x=.ref tr:=by
    rw [hx] at dA;exact zAl dA
   subst this;have op:=okp ps[i] (zAh hi);have ep:ps.getD i []=ps[i]:=getD_get hi;rw [six_row op.1] at cx;have sT:=Same.upd (o:=.tup [V.int i,V.ref tr]) nT;have kT:Same H (upd Hc T0 (.tup [V.int i,V.ref tr])):=fun b o e=>sT _ _ (k _ _ e);have iN:=sT _ _ el;have vE:=ht.same sT;have eT:=aa (H:=Hc) (a:=T0) (o:=.tup [V.int i,V.ref tr]);generalize upd Hc T0 (.tup [V.int i,V.ref tr])=H1 at kT iN vE eT ⊢;refine ⟨T0,_,rfl,SqT.of eT,rfl,_,_,rfl,_,_,rfl,rfl,?_⟩;refine ⟨_,rfl,tr,_,1,.int (fl ps[i] 1),rfl,rfl,SqT.of (kT _ _ cx),rfl,_,rfl,rfl,_,rfl,?_⟩;by_cases hs:fl ps[i] 1=sort
   ·rw [zAt (by rw [hs])];refine bQ (aC ?_);refine aW ?_;refine ⟨_,rfl,_,rfl,_,rfl,_,rfl,ap,xp,ps,ae,xs,ss,i,year,rfl,rp.same kT,rs.same kT,by lia,by lia,by rw [zAi,ep];exact op,ls,fI,fun hd H2 s2 e2=>?_⟩;rw [zAi,ep] at e2;have EI:=dW ps[i] ss i year
    have ma:iH ps ss sort year i=(dH (bU ps[i] ss i year) 8).map (fun r=>year::(i:Int)::r):=by
     unfold iH;rw [ep,zAx hs]
    generalize bU ps[i] ss i year=L at e2 EI ma;have k2:=kT.trans s2;have el2:=s2 _ _ iN;have IY:=vE.same s2;refine aH ?_;dsimp only;refine ⟨_,rfl,_,rfl,hd,_,rfl,SqL.of e2,eQ 8 (fun j ys σ Hj=>Same H2 Hj/\(∃ o1 o2,σ=[o1,o2,some (.int year),some (.int i)])/\Els Hj ys ((dH L j).map (fun r=>year::(i:Int)::r))) ⟨Same.refl _,⟨_,_,rfl⟩,Els.nil⟩ (by rw [sizeLine_eq];decide) ?_ ?_⟩
    ·rintro j ys σ Hj hj hy ⟨sc,⟨o1,o2,rfl⟩,kq⟩;have gi:SqL K Hj hd (L.map V.int):=SqL.of (sc _ _ e2)
     have BD:(L.map V.int)[j]?=some (.int (L.getD j 0)):=by
      have eI:j < L.length:=by lia
      rw [zAb,zA7,zA0 eI];rfl
     refine ⟨⟨_,_,gi,BD⟩,fun x H' yv R hR=>?_⟩;obtain ⟨T1,oS,rfl,yv⟩:=yv;obtain ⟨x',fh,rfl⟩:=yv _ gi;rw [BD] at fh;cases fh;have rV:=sc.updR (o:=.tup [.int (j:Int),.int (L.getD j 0)]) oS;refine ⟨T1,_,rfl,SqT.of aa,rfl,_,_,rfl,_,_,rfl,rfl,?_⟩;refine ⟨_,rfl,_,_,rfl,rfl,_,rfl,?_⟩;by_cases aE:0 < L.getD j 0
     ·rw [zAt aE];refine bQ ⟨_,rfl,_,rfl,_,rfl,_,rfl,zL,fun t fw=>hR _ _ _ (by rw [zA2];show ys.length+1<=j+1;lia) ⟨rV.updR fw,⟨_,_,rfl⟩,?_⟩⟩;rw [gr,zAx aE,zA4];exact ((kq.same (Same.upd oS)).same (Same.upd fw)).app (Els.one aa)
     ·rw [zAz aE];refine bB (hR _ _ _ (by lia) ⟨rV,⟨_,_,rfl⟩,?_⟩);rw [gr,zAw aE,zAn];exact kq.same (Same.upd oS)
    ·rintro ys σ Hj hy ⟨sc,_,kq⟩;refine ⟨⟨_,SqL.of (sc _ _ e2),by rw [zA1];lia⟩,fun D hD=>?_⟩;have sD:=sc.updR (o:=.lst ys) hD
     have nD:D≠l:=fun z=>by rw [z,sc _ _ el2] at hD;cases hD
     have ll:=kh ps ss sort year i;have:=ht.1;refine ⟨l,D,xl,ys,rfl,rfl,sD _ _ el2,aa,by rw [sizeLine_eq];lia,?_⟩;refine ⟨_,_,_,xl++ys,rfl,fun b o e=>?_,aa,?_⟩
     ·rw [az (au e hl)];exact sD _ _ (k2 _ _ e)
     ·have e3:=(IY.same sD).app (kq.same (Same.upd (o:=.lst ys) hD));rw [<- ma] at e3;refine e3.keep fun b z e=>?_;rw [az fun w=>by rw [w,sD _ _ el2] at e;cases e];exact e
   ·rw [zAz (fun z=>hs (by injection z))];refine bB ?_;refine ⟨_,_,_,xl,rfl,fun b o e=>kT _ _ e,iN,?_⟩
    have:iy ps ss sort year (i+1)=iy ps ss sort year i:=by
     show iy ps ss sort year i++iH ps ss sort year i=_;unfold iH;rw [ep,zAw hs,zAn]
    rw [this];exact vE
  ·rintro σ Hc ⟨x5,x6,x7,xl,rfl,k,el,ht⟩;rw [show xp.length=ps.length from rp.l] at ht;exact ⟨_,rfl,q l xl Hc (fun b o e=>k b o e) hl el ht⟩
theorem sum_set:∀ (L:List Int) (i:Nat) (a:Int),i < L.length->(L.set i a).sum=L.sum - L.getD i 0+a
 | [],i,a,h=>by simp at h
 | x::L,0,a,h=>by
  rw [List.set_cons_zero,List.sum_cons,List.sum_cons,List.getD_cons_zero];lia
 | x::L,i+1,a,h=>by
  rw [List.set_cons_succ,List.sum_cons,List.sum_cons,List.getD_cons_succ,sum_set L i a (by simpa using h)];lia
theorem uM {L:List Int}{i v:Int}(h:i.toNat < L.length):(dN L i v).sum=L.sum+v:=by
 unfold dN;rw [sum_set _ _ _ h];lia
theorem jA:∀ {L:List Int},(∀ x∈L,0<=x)->0<=L.sum/\∀ x∈L,x<=L.sum
 | [],_=>⟨Int.le_refl _,fun x hx=>by cases hx⟩
 | y::L,h=>by
  obtain ⟨h1,h2⟩:=jA (L:=L) fun x hx=>h x (.tail _ hx);have hy:=h y (.head _);rw [List.sum_cons];refine ⟨by lia,fun x hx=>?_⟩;rcases zAo.mp hx with z | z
  ·lia
  ·have:=h2 x z;lia
theorem jg {L:List Int}(h:∀ x∈L,0<=x)(i:Nat):0<=L.getD i 0:=by
 rw [zA7]
 cases e:L[i]? with
 | none=>exact Int.le_refl _
 | some y=>exact h y (zB7 e)
theorem xP {L:List Int}{i v:Int}(h:∀ x∈L,0<=x)(hv:0<=L.getD i.toNat 0+v):∀ x∈dN L i v,0<=x:=by
 intro x hx;unfold dN at hx;rcases List.mem_or_eq_of_mem_set hx with z | z
 ·exact h x z
 ·rw [z];exact hv
theorem Ca {ps ss:List (List Int)}(h:un ps ss=none):∀ j,j < ss.length->cH ps (ss.take j) (ss.getD j [])=true:=fun j hj=>by
 unfold un at h;have:=List.find?_eq_none.mp h j (List.mem_range.mpr hj);simpa using this
theorem Es {ps ss:List (List Int)}{n:Nat}{y:Int}(hu:un ps ss=none)(h5:∀ s∈ss,s.length=5)(op:okP (ps.getD n [])) :
  ∀ k,k<=ss.length->(∀ x∈bU (ps.getD n []) (ss.take k) n y,0<=x)/\(bU (ps.getD n []) (ss.take k) n y).sum<=99:=by
 intro k;by_cases hy:fl (ps.getD n []) 2<=y/\y<=fl (ps.getD n []) 3
 ·obtain ⟨_,⟨a1,a2⟩,_,_,⟨e1,e2⟩,_⟩:=id op
  induction k with
  | zero =>
   intro _;rw [List.take_zero];unfold bU;rw [zAx hy];show (∀ x∈base0 (ps.getD n []),0<=x)/\(base0 (ps.getD n [])).sum<=99;unfold base0;refine ⟨fun x hx=>?_,?_⟩
   ·rcases List.mem_or_eq_of_mem_set hx with z | z
    ·rw [List.eq_of_mem_replicate z];exact Int.le_refl _
    ·lia
   ·rw [sum_set _ _ _ (by rw [List.length_replicate];lia)];have:(List.replicate 8 (0:Int)).sum=0:=rfl
    have e:(List.replicate 8 (0:Int)).getD (fl (ps.getD n []) 0).toNat 0=0:=by
     rw [zA7,List.getElem?_replicate,zAx (by lia)];rfl
    rw [this,e];lia
  | succ k ih =>
   intro hk;have eI:k < ss.length:=by lia
   obtain ⟨i1,i2⟩:=ih (by lia);have hB:=Ca hu k eI;rw [getD_get eI] at hB;have bq:ss.take (k+1)=ss.take k++[ss[k]]:=by rw [zAj,zA0 eI];rfl
   have eh:bU (ps.getD n []) (ss.take (k+1)) n y=hstep n y (bU (ps.getD n []) (ss.take k) n y) ss[k]:=by
    unfold bU;rw [zAx hy,zAx hy,bq,List.foldl_append];rfl
   have Qi:=oM (h5 _ (zAh eI)) hB;obtain ⟨_,⟨b1,b2⟩,c1,c2⟩:=Qi;have hl:=dW (ps.getD n []) (ss.take k) n y;rw [eh];unfold hstep;by_cases hc:fl ss[k] 0=n/\fl ss[k] 4<=y
   ·rw [zAx hc];unfold cH at hB;rw [zAc] at hB;obtain ⟨IZ,IJ⟩:=hB
    have ep:sU ps ss[k]=ps.getD n []:=by
     unfold sU;rw [hc.1,zAi]
    have uj:fl ss[k] 3<=(bU (ps.getD n []) (ss.take k) n y).getD (fl ss[k] 1).toNat 0:=by
     have:=List.all_eq_true.mp IJ y (by
      unfold years;refine zA5.mpr ⟨(y - fl ss[k] 4).toNat,List.mem_range.mpr ?_,?_⟩
      ·rw [ep];lia
      ·lia)
     have:=zB5 this;rw [ep,hc.1] at this;exact this
    unfold uG at IZ;simp only [Bool.and_eq_true,decide_eq_true_eq,Bool.not_eq_true',decide_eq_false_iff_not] at IZ;obtain ⟨_,_,_,Wc,⟨v1,v2⟩,_⟩:=IZ;generalize bU (ps.getD n []) (ss.take k) n y=L at i1 i2 hl uj;have n1:=xP (i:=fl ss[k] 1) (v:=-(fl ss[k] 3)) i1 (by lia);refine ⟨xP n1 ?_,?_⟩
    ·have:=jg n1 (fl ss[k] 2).toNat;lia
    ·rw [uM (by rw [gJ];lia),uM (by lia)];lia
   ·rw [zAw hc];exact ⟨i1,i2⟩
 ·intro _;unfold bU;rw [zAw hy];refine ⟨fun x hx=>by rw [List.eq_of_mem_replicate hx];exact Int.le_refl _,by decide⟩
theorem FQ {ps ss:List (List Int)}{sort year:Int}(hu:un ps ss=none)(h5:∀ s∈ss,s.length=5)(okp:∀ r∈ps,okP r):∀ k,k<=ps.length->∀ r∈iy ps ss sort year k,r.length=4/\1<=fl r 3/\fl r 3<=99/\fl r 0=year/\0<=fl r 1/\fl r 1 < k:=by
 intro k
 induction k with
 | zero=>intro _ r hr;cases hr
 | succ k ih =>
  intro hk r hr;rcases zA6.mp (show r∈iy ps ss sort year k++iH ps ss sort year k from hr) with z | z
  ·obtain ⟨h1,h2,h3,h4,h6,h7⟩:=ih (by lia) r z;exact ⟨h1,h2,h3,h4,h6,by lia⟩
  ·unfold iH at z;split at z
   ·obtain ⟨q,hq,rfl⟩:=zA5.mp z;unfold dH at hq;obtain ⟨h,hh,rfl⟩:=zA5.mp hq;have hp:=zB5 (zAq.mp hh).2;have eI:k < ps.length:=by lia
    obtain ⟨a,b⟩:=Es (n:=k) (y:=year) hu h5 (by rw [getD_get eI];exact okp _ (zAh eI)) ss.length (zA3 _);rw [zAm] at a b
    have le:(bU (ps.getD k []) ss k year).getD h 0<=99:=by
     rw [zA7] at hp ⊢
     cases e:(bU (ps.getD k []) ss k year)[h]? with
     | none=>show (0:Int)<=99;decide
     | some y =>
      have:=(jA a).2 y (zB7 e);show y<=99;lia
    refine ⟨rfl,?_,le,rfl,?_,?_⟩
    ·show 1<=(bU (ps.getD k []) ss k year).getD h 0;lia
    ·show (0:Int)<=(k:Int);lia
    ·show (k:Int) < ((k+1:Nat):Int);lia
   ·cases z
end K61
namespace K61P
open PySem L2
theorem sum_set:∀ {l:List Int} {i:Nat} {x:Int},i < l.length->(l.set i (l.getD i 0+x)).sum=l.sum+x
 | a::l,0,x,_=>by simp;lia
 | a::l,i+1,x,h=>by
  have:=sum_set (l:=l) (i:=i) (x:=x) (by simpa using h);simp only [List.set_cons_succ,List.sum_cons,List.getD_cons_succ];lia
theorem qN:∀ (pl:List Nat) (l:List Int),(∀ i∈pl,i < l.length)->(cN l pl).sum=l.sum+pl.length
 | [],l,_=>by simp [cN]
 | i::pl,l,h=>by
  show (cN (l.set i (l.getD i 0+1)) pl).sum=_;rw [qN pl _ fun j hj=>by rw [List.length_set];exact h j (.tail _ hj),sum_set (h i (.head _)),zAe];lia
theorem res_sum {n:Int}{ws:List Int}(ok:OkW ws):(res n ws).sum=n:=by
 have o:=(iu (rs n ws)).choose_spec;have hl:=o.len;rw [gB] at hl;have l0:=xO (n:=n) ok;have l1:=BL (n:=n) ok;unfold res;rw [qN _ _ fun i hi=>by rw [oO];have:=o.lt i (List.mem_of_mem_take hi);rw [gB] at this;exact this,zAd,Nat.min_eq_left (by lia)];have:lf n ws=n - (fs n ws).sum:=rfl;lia
end K61P
namespace K61
open PySem L2
theorem oR:∀ {w:Int} {rs:List (List Int)},0<=w->(∀ r∈rs,0<=fl r 3)->(∀ x∈aY w rs,0<=x)/\0<=(aY w rs).sum/\(aY w rs).sum<=w
 | w,[],h,_=>⟨fun x hx=>(by cases hx),Int.le_refl _,h⟩
 | w,r::rs,h,hr=>by
  have h3:=hr r (.head _);unfold aY;by_cases hc:w < fl r 3
  ·rw [zAx hc];obtain ⟨a,b,c⟩:=oR (w:=w - w) (rs:=rs) (by lia) fun q hq=>hr q (.tail _ hq);refine ⟨fun x hx=>?_,by rw [List.sum_cons];lia,by rw [List.sum_cons];lia⟩;rcases zAo.mp hx with z | z
   ·lia
   ·exact a x z
  ·rw [zAw hc];obtain ⟨a,b,c⟩:=oR (w:=w - fl r 3) (rs:=rs) (by lia) fun q hq=>hr q (.tail _ hq);refine ⟨fun x hx=>?_,by rw [List.sum_cons];lia,by rw [List.sum_cons];lia⟩;rcases zAo.mp hx with z | z
   ·lia
   ·exact a x z
theorem xQ:∀ {rs:List (List Int)} {sh:List Int},sh.length=rs.length->(∀ x∈sh,0<=x)->dZ (cj (rs.zip sh))=sh.sum
 | [],[],_,_=>rfl
 | [],_::_,h,_=>by simp at h
 | _::_,[],h,_=>by simp at h
 | r::rs,x::sh,h,hn=>by
  have ih:=xQ (rs:=rs) (sh:=sh) (by simpa using h) fun y hy=>hn y (.tail _ hy);have hx:=hn x (.head _);rw [List.zip_cons_cons,List.sum_cons,<- ih];unfold cj;by_cases hp:0 < x
  ·rw [zBb (p:=fun (p:List Int×Int)=>decide (0 < p.2)) (zAt hp),zAk];unfold dZ wts;rw [zAk,List.sum_cons];rfl
  ·rw [zB9 (p:=fun (p:List Int×Int)=>decide (0 < p.2)) (by rw [decide_eq_true_eq];exact hp)];have:x=0:=by lia
   rw [this,Int.zero_add]
theorem vM {w:Int}{cl ow:List (List Int)}(hw:0<=w)(hc:∀ r∈cl,r.length=4/\1<=fl r 3/\fl r 3<=99)(hz:cl.length<=80)(ho:∀ r∈ow,0<=fl r 3):(∀ x∈shr w cl ow,0<=x)/\0<=(shr w cl ow).sum/\(shr w cl ow).sum<=w:=by
 have hs:(∀ x∈aZ w cl,0<=x)/\(aZ w cl).sum<=w:=by
  unfold aZ;by_cases h:(wts cl).sum<=w
  ·rw [zAx h];refine ⟨fun x hx=>?_,h⟩;obtain ⟨r,hr,rfl⟩:=zA5.mp hx;have:=(hc r hr).2.1;lia
  ·rw [zAw h]
   have ok:K61P.OkW (wts cl):=by
    refine ⟨?_,by unfold wts;rw [zA1];exact hz,fun x hx=>?_⟩
    ·cases nv:cl with
     | nil =>
      rw [nv] at h;exact absurd hw h
     | cons r yB =>
      unfold wts;rw [zA1,zAe];lia
    ·obtain ⟨r,hr,rfl⟩:=zA5.mp hx;exact (hc r hr).2
   refine ⟨fun x hx=>?_,by rw [K61P.res_sum ok];exact Int.le_refl _⟩;obtain ⟨i,hi,e⟩:=List.getElem_of_mem hx;have fx:i < (wts cl).length:=by rw [K61P.res_len] at hi;exact hi
   exact (K61P.res_get ok hw (by lia) (i:=i) (r:=x) (w:=(wts cl)[i]) (by rw [zA0 hi,e]) (zA0 fx)).1
 obtain ⟨h1,h2⟩:=hs;have h3:=(jA h1).1;obtain ⟨m1,m2,m3⟩:=oR (w:=w - (aZ w cl).sum) (rs:=ow) (by lia) ho;unfold shr;refine ⟨fun x hx=>(zA6.mp hx).elim (h1 x) (m1 x),?_,?_⟩
 ·rw [List.sum_append];lia
 ·rw [List.sum_append];lia
theorem xR {w:Int}{cl ow:List (List Int)}(hw:0<=w)(hc:∀ r∈cl,r.length=4/\1<=fl r 3/\fl r 3<=99)(hz:cl.length<=80)(ho:∀ r∈ow,0<=fl r 3):dZ (cj ((cl++ow).zip (shr w cl ow)))=(shr w cl ow).sum/\0<=w - dZ (cj ((cl++ow).zip (shr w cl ow))):=by
 obtain ⟨a,b,c⟩:=vM hw hc hz ho;have e:=xQ (rs:=cl++ow) (sh:=shr w cl ow) (by unfold shr;rw [zA2,zA2,shares_len,du]) a;exact ⟨e,by rw [e];lia⟩
def rle (a b:List Int):Bool:=!HT.lexLt b a
theorem vN (a b c:List Int)(h1:rle a b=true)(h2:rle b c=true):rle a c=true:=by
 unfold rle at *;rw [Bool.not_eq_true'] at *
 cases h:HT.lexLt c a with
 | false=>rfl
 | true =>
  rcases wZ c b a h with z | z
  ·rw [z] at h2;cases h2
  ·rw [z] at h1;cases h1
theorem sZ (a b:List Int):(rle a b || rle b a)=true:=by
 unfold rle
 cases h:HT.lexLt b a with
 | false=>rfl
 | true =>
  cases h':HT.lexLt a b with
  | false=>rfl
  | true =>
   have:=rZ a b a h' h;rw [rY] at this;cases this
def srt (rs:List (List Int)):List (List Int):=rs.mergeSort rle
theorem gC {rs yB:List (List Int)}(pm:yB.Perm rs)(so:yB.Pairwise (fun a b=>HT.lexLt b a=false)):yB=srt rs:=by
 have EJ:yB.Pairwise (fun a b=>rle a b=true):=so.imp fun {a b} h=>by unfold rle;rw [h];rfl
 refine List.Perm.eq_of_pairwise (le:=fun a b=>rle a b=true) (fun a b _ _ h1 h2=>?_) EJ (List.pairwise_mergeSort vN sZ rs) (pm.trans (List.mergeSort_perm rs rle).symm);unfold rle at h1 h2;rw [Bool.not_eq_true'] at h1 h2;exact mO a b h2 h1
structure Yr where
 g:List (List Int)
 k:List (List Int)
 l:List Int
 d:Int
def aM (ps ow:List (List Int))(sort:Int):List (List Int):=ow.filter fun r=>decide (fl (ps.getD (fl r 1).toNat []) 1=sort)
def J5 (c:List Int)(ps ss ow:List (List Int))(y:Int)(a:Yr)(sort:Nat):Yr :=
 ⟨a.g++cj ((aK ps ss sort y++aM ps ow sort).zip (shr (c.getD sort 0+a.d) (aK ps ss sort y) (aM ps ow sort))),
  a.k++bz ((aK ps ss sort y++aM ps ow sort).zip (shr (c.getD sort 0+a.d) (aK ps ss sort y) (aM ps ow sort))),
  a.l++[c.getD sort 0+a.d - dZ (cj ((aK ps ss sort y++aM ps ow sort).zip (shr (c.getD sort 0+a.d) (aK ps ss sort y) (aM ps ow sort))))],
  c.getD sort 0+a.d - dZ (cj ((aK ps ss sort y++aM ps ow sort).zip (shr (c.getD sort 0+a.d) (aK ps ss sort y) (aM ps ow sort))))⟩
def yTo (c:List Int)(ps ss ow:List (List Int))(y:Int):Nat->Yr
 | 0=>⟨[],[],[],0⟩
 | n+1=>J5 c ps ss ow y (yTo c ps ss ow y n) n
def okO (ps:List (List Int))(r:List Int):Prop:=r.length=4/\0<=fl r 1/\fl r 1 < ps.length/\1<=fl r 3
theorem iY {ps ow:List (List Int)}{sort:Int}(h:∀ r∈ow,okO ps r):∀ r∈aM ps ow sort,okO ps r:=fun r hr=>h r (zAq.mp hr).1
theorem qO (ps ow:List (List Int))(sort:Int):(aM ps ow sort).length<=ow.length:=List.length_filter_le _ _
theorem gO {ps ss:List (List Int)}{sort year:Int}(hu:un ps ss=none)(h5:∀ s∈ss,s.length=5)(okp:∀ r∈ps,okP r):∀ r∈aK ps ss sort year,r.length=4/\1<=fl r 3/\fl r 3<=99:=fun r hr=>by
 obtain ⟨a,b,c,_⟩:=FQ (sort:=sort) (year:=year) hu h5 okp ps.length (zA3 _) r hr;exact ⟨a,b,c⟩
theorem dI {ps ss:List (List Int)}{sort year:Int}(h:ps.length<=10):(aK ps ss sort year).length<=80:=by
 have:=kh ps ss sort year ps.length;unfold aK;lia
theorem Cd {c:List Int}{ps ss ow:List (List Int)}{y:Int}(hc:∀ x∈c,0<=x)(hu:un ps ss=none)(h5:∀ s∈ss,s.length=5)(okp:∀ r∈ps,okP r)(hl:ps.length<=10)(ho:∀ r∈ow,okO ps r):∀ n,0<=(yTo c ps ss ow y n).d
 | 0=>Int.le_refl _
 | n+1=>by
  have ih:=Cd (y:=y) hc hu h5 okp hl ho n
  have hw:0<=c.getD n 0+(yTo c ps ss ow y n).d:=by
   have:=jg hc n;lia
  exact (xR hw (gO hu h5 okp) (dI hl) fun r hr=>by have:=(iY ho r hr).2.2.2;lia).2
theorem xT (P:List (List Int×Int)):(cj P).length<=P.length:=by
 unfold cj;rw [zA1];exact List.length_filter_le _ _
theorem oU (P:List (List Int×Int)):(bz P).length<=P.length:=by
 unfold bz;rw [zA1];exact List.length_filter_le _ _
theorem Ce {c:List Int}{ps ss ow:List (List Int)}{y:Int}(hl:ps.length<=10):∀ n,(yTo c ps ss ow y n).g.length<=n * (80+ow.length)/\(yTo c ps ss ow y n).k.length<=n * (80+ow.length)/\(yTo c ps ss ow y n).l.length=n
 | 0=>⟨zAp _,zAp _,rfl⟩
 | n+1=>by
  obtain ⟨a,b,d⟩:=Ce (c:=c) (ss:=ss) (ow:=ow) (y:=y) hl n;have h1:=dI (ss:=ss) (sort:=n) (year:=y) hl;have h2:=qO ps ow n
  have hz:∀ sh:List Int,((aK ps ss n y++aM ps ow n).zip sh).length<=80+ow.length:=fun sh=>by
   rw [zAs,zA2];lia
  rw [Nat.succ_mul];refine ⟨?_,?_,?_⟩
  ·show ((yTo c ps ss ow y n).g++cj _).length<=_;rw [zA2];have:=xT ((aK ps ss n y++aM ps ow n).zip (shr (c.getD n 0+(yTo c ps ss ow y n).d) (aK ps ss n y) (aM ps ow n)));have:=hz (shr (c.getD n 0+(yTo c ps ss ow y n).d) (aK ps ss n y) (aM ps ow n));lia
  ·show ((yTo c ps ss ow y n).k++bz _).length<=_;rw [zA2];have:=oU ((aK ps ss n y++aM ps ow n).zip (shr (c.getD n 0+(yTo c ps ss ow y n).d) (aK ps ss n y) (aM ps ow n)));have:=hz (shr (c.getD n 0+(yTo c ps ss ow y n).d) (aK ps ss n y) (aM ps ow n));lia
  ·show ((yTo c ps ss ow y n).l++[_]).length=n+1;rw [zA2,d];rfl
theorem y_row {c:List Int}{ps ss ow:List (List Int)}{y:Int}:∀ n,(∀ r∈(yTo c ps ss ow y n).g,r.length=4)/\∀ r∈(yTo c ps ss ow y n).k,r.length=4
 | 0=>⟨fun r hr=>(by cases hr),fun r hr=>(by cases hr)⟩
 | n+1=>by
  obtain ⟨a,b⟩:=y_row (c:=c) (ps:=ps) (ss:=ss) (ow:=ow) (y:=y) n;refine ⟨fun r hr=>?_,fun r hr=>?_⟩
  ·rcases zA6.mp (show r∈(yTo c ps ss ow y n).g++cj _ from hr) with z | z
   ·exact a r z
   ·obtain ⟨p,_,rfl⟩:=zA5.mp z;rfl
  ·rcases zA6.mp (show r∈(yTo c ps ss ow y n).k++bz _ from hr) with z | z
   ·exact b r z
   ·obtain ⟨p,_,rfl⟩:=zA5.mp z;rfl
def vInt:V->Int
 | .int i=>i
 | _=>0
def gP (H:Hp)(a:Addr):List Int:=match H a with
 | some (.tup xs)=>xs.map vInt
 | _=>[]
theorem Et {H:Hp}{a:Addr}{r:List Int}(e:H a=some (.tup (r.map V.int))):gP H a=r:=by
 unfold gP;rw [e];show (r.map V.int).map vInt=r;rw [zAr];exact List.map_id _
theorem km {H:Hp}:∀ {xs:List V} {rs:List (List Int)},Els H xs rs->∃ ads:List Addr,xs=ads.map V.ref/\rs=ads.map (gP H)/\∀ a∈ads,H a=some (.tup ((gP H a).map V.int))
 | [],[],_=>⟨[],rfl,rfl,fun a ha=>(by cases ha)⟩
 | [],_::_,h=>by have:=h.1;simp at this
 | _::_,[],h=>by have:=h.1;simp at this
 | x::xs,r::rs,h=>by
  obtain ⟨t,e1,e2⟩:=h.2 0 r rfl;rw [List.getElem?_cons_zero] at e1;cases e1
  obtain ⟨ads,f1,f2,f3⟩:=km (xs:=xs) (rs:=rs) ⟨by have:=h.1;simpa using this,fun i q e=>by
   obtain ⟨u,g1,g2⟩:=h.2 (i+1) q (by rw [List.getElem?_cons_succ];exact e);rw [List.getElem?_cons_succ] at g1
   exact ⟨u,g1,g2⟩⟩
  have er:=Et e2;refine ⟨t::ads,by rw [f1];rfl,by rw [f2,zAk,er,<- f2],fun a ha=>?_⟩;rcases zAo.mp ha with z | z
  ·rw [z,er];exact e2
  ·exact f3 a z
theorem Cg {H H':Hp}{l':List Addr}(h:∀ a∈l',H' a=some (.tup ((gP H a).map V.int))):Els H' (l'.map V.ref) (l'.map (gP H)):=by
 refine ⟨by rw [zA1,zA1],fun i r e=>?_⟩;rw [zAb] at e
 cases z:l'[i]? with
 | none=>rw [z] at e;cases e
 | some a =>
  rw [z] at e;cases e;exact ⟨a,by rw [zAb,z];rfl,h a (zB7 z)⟩
inductive SpYearI (vs:List V)(H:Hp)(Q:VK):Prop
 | mk:∀ bk y lo ac xc cs ap xp ps ae xs ss xo ow,(vs=[.ref bk,.int y,.ref lo])->(H bk=some (.tup [.ref ac,.ref ap,.ref ae]))->(RowsAt H ac xc cs)->((∀ r∈cs,r.length=3/\∀ x∈r,0<=x))->(0<=y)->(y < cs.length)->(RowsAt H ap xp ps)->(ps.length<=10)->((∀ r∈ps,okP r))->(RowsAt H ae xs ss)->(ss.length<=12)->((∀ s∈ss,s.length=5))->(un ps ss=none)->(H lo=some (.lst xo))->(Els H xo ow)->((∀ r∈ow,okO ps r))->(ow.length<=10000)->(∀ t g k tl xg xk H',Same H H'->H' t=some (.tup [.ref g,.ref k,.ref tl])->H g=none->H k=none->(g≠sysModules/\k≠sysModules)->H' g=some (.lst xg)->Els H' xg (srt (yTo (cs.getD y.toNat []) ps ss ow y 3).g)->H' k=some (.lst xk)->Els H' xk (srt (yTo (cs.getD y.toNat []) ps ss ow y 3).k)->H' tl=some (.tup ((yTo (cs.getD y.toNat []) ps ss ow y 3).l.map V.int))->Q (.ref t) H')->SpYearI  vs H Q
def Ci:Sp:=fun vs H Q _=>SpYearI  vs H Q
theorem Eu {ps ss:List (List Int)}(h:un ps ss=none)(h5:∀ s∈ss,s.length=5):∀ s∈ss,okS s:=fun s hs=>by
 obtain ⟨j,hj,e⟩:=List.getElem_of_mem hs;have:=Ca h j hj;rw [getD_get hj,e] at this;exact oM (h5 s hs) this
theorem tu {D:Ends}{tb:TS}{σ:L2.St}{H:Hp}(R:Hp->Prop)(h:R H)(g:∀ H,R H->tb D σ H):tb D σ H:=g H h
variable {P:Program}{w:World}{K:Frag}{mg:Str->Option Value}{base:Heap}{f:Addr}{fd:FuncData}
theorem boot_sorted:bootBuiltins "sorted" = some (.builtin "sorted"):=by decide +kernel
theorem ndZ:(["row","promises","sort"]:List Str).Nodup:=by decide +kernel
theorem scZ1:FnScope ["book","year","owed","clips","promises","sales","gifts","lacking","left","down","sort","wool","claims","ahead","given","lacked"] ["book","year","owed"] (aG (top 51)):=fS
theorem Ew (F:Fun K "year_given" "year_given" (top 51) f fd)(T:Mg mg)(N:Nums mg)(Tr:mg "range" = none)(Ts:mg "sorted" = none)(c1:Cal P w K mg base 2 "claims_in" ["promises","sales","sort","year"] uL)(c2:Cal P w K mg base 8 "sort_given" ["wool","claims","owed"] BW)(c3:Cal P w K mg base 1 "sacks_of" ["rows"] xN):FnOk P w K mg base CX0 9 f fd ["book","year","owed"] Ci:=by
 refine F.ok scZ1 (fun vs H Q E h=>?_) (fun ar A outer s H vs Q E hr h=>?_)
 ·obtain ⟨bk,y,lo,ac,xc,cs,ap,xp,ps,ae,xs,ss,xo,ow,rfl,_⟩:=h;rfl
 ·obtain ⟨bk,y,lo,ac,xc,cs,ap,xp,ps,ae,xs,ss,xo,ow,rfl,eb,rc,okc,y0,y1,rp,lp,okp,rs,ls,h5,hu,eo,oD,iO,Qf,q⟩:=h;obtain ⟨t3,e3⟩:=N.sorts
  refine K61P.ok_b (aJ ⟨cz (pv 0) (bJ rfl (ao (pgn 3 scZ1.nd) (ao (bh (i:=4) scZ1.nd rfl (Or.inr rfl)) (ao (pgn 5 scZ1.nd) aV))))⟩
   (aJ (gA 6 scZ1.nd (rQ f9))
   (aJ (gA 7 scZ1.nd (rQ f9))
   (aJ (gA 8 scZ1.nd (rQ f9))
   (aJ (gA 9 scZ1.nd Gu)
   (aJ ⟨bY zB3 rfl (cD rfl Tr (aq (bV (v:=.int 3) rfl e3 ⟨_,rfl⟩) aj)) (bh (i:=10) scZ1.nd rfl (Or.inr rfl))
    (iD (aJ (gA 11 scZ1.nd (Aw bZ (Ax bO (Ax bO ⟨pv 3⟩ ⟨pv 1⟩ (fun _ _=>rfl)) ⟨pv 10⟩ (fun _ _=>rfl)) ⟨pv 9⟩))
    (aJ (gA 12 scZ1.nd ⟨aF c1 hr (aq (pv 4) (aq (pv 5) (aq (pv 10) (aq (pv 1) aj))))⟩)
    (aJ ⟨fJ (i:=13) ["row","promises","sort"] [none,some 4,some 10] rfl scZ1.nd rfl (Or.inl rfl) (bW (pv 2)) (fun C fp pins s₂ H₂=>⟨pgn 0 ndZ,gm (bj jk (pX (K61P.ix_tupK (K:=K) rfl) (pX (K61P.ix_tupK (K:=K) rfl) (pv 1) (pX (K61P.ix_tupK (K:=K) rfl) (pv 0) aA)) aA) (pv 2) (bA _)),pv 0⟩) (fun C=>cI (cI trivial)) ⟨rfl,rfl,rfl,rfl⟩⟩
    (aJ ⟨cz (aF c2 hr (aq (pv 11) (aq (pv 12) (aq (pv 13) aj)))) (bJ rfl (ao (pgn 14 scZ1.nd) (ao (pgn 15 scZ1.nd) aV)))⟩
    (aJ (gA 9 scZ1.nd (Aw cP ⟨pv 11⟩ ⟨aF c3 hr (aq (pv 14) aj)⟩))
    (aJ ⟨nj (i:=6) scZ1.nd rfl (Or.inl rfl) (pv 14) sE⟩
    (aJ ⟨nj (i:=7) scZ1.nd rfl (Or.inl rfl) (pv 15) sE⟩
    (bT ⟨cO (nG zBd zBg zBf fM (pv 8) (aq (pv 9) aj))⟩)))))))))⟩
   (bT (rR (nY (eO ⟨aN dB rfl Ts boot_sorted (aq (pv 6) aj)⟩ (eO ⟨aN dB rfl Ts boot_sorted (aq (pv 7) aj)⟩ (eO ⟨bM bF rfl T.tuple boot_tuple (aq (pv 8) aj)⟩ f9)))))))))))) ?_
  refine aC ?_;refine ⟨_,rfl,bk,_,rfl,SqT.of eb,rfl,_,_,rfl,_,_,rfl,_,_,rfl,rfl,?_⟩;dsimp only;refine aC (aW ?_);refine ⟨zL,fun lg rX=>?_⟩;refine aH ?_;dsimp only;refine aC (aW ?_);refine ⟨zL,fun lk lI=>?_⟩;refine aH ?_;dsimp only;refine aC (aW ?_);refine ⟨zL,fun ll fk=>?_⟩;refine aH ?_;dsimp only;refine aC (aW ?_);refine aH ?_;dsimp only;have s1:=Same.upd (o:=.lst []) rX;have s2:=Same.upd (o:=.lst []) lI;have s3:=Same.upd (o:=.lst []) fk;have Qj:H lg=none:=rX;have vF:H lk=none:=s1.free lI;have Qk:H ll=none:=(s1.trans s2).free fk
  have M9:lg≠lk:=fun z=>by rw [<- z,aa] at lI;cases lI
  have Na:lk≠ll:=fun z=>by rw [<- z,aa] at fk;cases fk
  have Nb:lg≠ll:=fun z=>by rw [<- z,s2 _ _ aa] at fk;cases fk
  refine tu (fun H1=>Same H H1/\H1 lg=some (.lst [])/\H1 lk=some (.lst [])/\H1 ll=some (.lst [])) ⟨(s1.trans s2).trans s3,s3 _ _ (s2 _ _ aa),s3 _ _ aa,aa⟩ fun H1 ⟨k1,ot,Ql,el1⟩=>?_;clear s1 s2 s3 rX lI fk;have Jn:y.toNat < cs.length:=by lia
  obtain ⟨tc,BF,BG⟩:=rows_at rc y0 (show cs[y.toNat]?=some cs[y.toNat] from zA0 Jn);have Qm:cs.getD y.toNat []=cs[y.toNat]:=getD_get Jn;have vS:=okc _ (zAh Jn);rw [Qm] at q;generalize cs[y.toNat]=c at q BG vS;have fI:=Eu hu h5;refine aC ?_;refine ⟨3,rfl,by decide,by decide,?_⟩;refine di (lo:=0) (fun i σ Hc=>∃ bX bP bS bg aS cm xg xk,σ=[some (.ref bk),some (.int y),some (.ref lo),some (.ref ac),some (.ref ap),some (.ref ae),some (.ref lg),some (.ref lk),some (.ref ll),some (.int (yTo c ps ss ow y i).d),bX,bP,bS,bg,aS,cm]/\Same H Hc/\Hc lg=some (.lst xg)/\Els Hc xg (yTo c ps ss ow y i).g/\Hc lk=some (.lst xk)/\Els Hc xk (yTo c ps ss ow y i).k/\Hc ll=some (.lst ((yTo c ps ss ow y i).l.map V.int))) ?_ ?_ ?_
  ·exact ⟨none,none,none,none,none,none,[],[],rfl,k1,ot,Els.nil,Ql,Els.nil,el1⟩
  ·rintro i σ Hc hi ⟨bX,bP,bS,bg,aS,cm,xg,xk,rfl,k,eg,elg,ek,dP,el⟩;have hi:i < 3:=hi;obtain ⟨We,Wf,Qn⟩:=Ce (c:=c) (ss:=ss) (ow:=ow) (y:=y) lp i;refine aH ?_;have z0:(0:Int)+(i:Int)=i:=by lia
   rw [z0];refine pU fun De yY=>?_
   have Qo:(c.map V.int)[i]?=some (.int (c.getD i 0)):=by
    have eI:i < c.length:=by lia
    rw [zAb,zA7,zA0 eI];rfl
   refine aC (aW ?_);refine ⟨_,rfl,_,rfl,ac,xc,y,.ref tc,rfl,rfl,SqT.of (k _ _ rc.e),BF,_,rfl,tc,_,i,.int (c.getD i 0),rfl,rfl,SqT.of (k _ _ BG),cY Qo,_,rfl,_,_,rfl,rfl,?_⟩;refine aH ?_;dsimp only;have dn:=Cd (c:=c) (y:=y) vS.2 hu h5 okp lp iO i;have cn:=jg vS.2 i;refine aC (aW ?_);refine ⟨_,rfl,_,rfl,_,rfl,_,rfl,ap,xp,ps,ae,xs,ss,i,y,rfl,rp.same k,lp,okp,rs.same k,ls,fI,fun lc Qp H2 s2 Wg Bn JA=>?_⟩;refine aH ?_;dsimp only;have k2:=k.trans s2;refine aC ?_;refine ⟨_,rfl,lo,rfl,⟨_,SqL.of (k2 _ _ eo)⟩,eQ ow.length (fun j ys σ Hj=>Same H2 Hj/\(∃ o1,σ=[o1,some (.ref ap),some (.int i)])/\Els Hj ys (aM ps (ow.take j) i)) ⟨Same.refl _,⟨_,rfl⟩,Els.nil⟩ (by rw [sizeLine_eq];lia) ?_ ?_⟩
   ·rintro j ys σ Hj hj hy ⟨sc,⟨o1,rfl⟩,kq⟩;have kj:=k2.trans sc;have gi:SqL K Hj lo xo:=SqL.of (kj _ _ eo);obtain ⟨tr,ex,cx⟩:=oD.2 j ow[j] (zA0 hj);obtain ⟨o4,o5,o6,o7⟩:=iO _ (zAh hj);have JE:=cx;rw [bR o4] at cx;obtain ⟨p,hp,ep,op⟩:=prom_ok okp o5 o6;obtain ⟨tp,gg,hV⟩:=rows_at rp o5 hp;rw [six_row op.1] at hV
    have bq:aM ps (ow.take (j+1)) i=aM ps (ow.take j) i++(if fl p 1=i then [ow[j]] else []):=by
     rw [zAj,zA0 hj];unfold aM;rw [show (some ow[j]).toList=[ow[j]] from rfl,List.filter_append];congr 1;by_cases h:fl p 1=i
     ·rw [zAx h,zBb (by rw [ep];exact zAt h)];rfl
     ·rw [zAw h,zB9 (by rw [ep,decide_eq_true_eq];exact h)];rfl
    refine ⟨⟨_,_,gi,ex⟩,fun x H' yv R hR=>?_⟩;obtain ⟨rfl,yv⟩:=yv;have yv:=yv _ gi;rw [ex] at yv;cases yv;refine aH ?_;refine ⟨_,rfl,_,rfl,tr,_,1,.int (fl ow[j] 1),rfl,rfl,SqT.of (kj _ _ cx),rfl,ap,xp,_,.ref tp,rfl,rfl,SqT.of (kj _ _ rp.e),gg,tp,_,1,.int (fl p 1),rfl,rfl,SqT.of (kj _ _ hV),rfl,_,rfl,rfl,_,rfl,?_⟩;by_cases h:fl p 1=i
    ·rw [zAt (by rw [h])];refine bQ ⟨_,rfl,hR _ _ _ (by rw [zA2];show ys.length+1<=j+1;lia) ⟨sc,⟨_,rfl⟩,?_⟩⟩;rw [bq,zAx h];exact kq.app (Els.one (kj _ _ JE))
    ·rw [zAz (fun z=>h (by injection z))];refine bB (hR _ _ _ (by lia) ⟨sc,⟨_,rfl⟩,?_⟩);rw [bq,zAw h,zAn];exact kq
   rintro ya σ Hj hy ⟨sc,_,rL⟩;rw [zAm] at rL;refine ⟨⟨_,SqL.of (sc _ _ (k2 _ _ eo)),by rw [oD.1];exact zA3 _⟩,fun la EG=>?_⟩;have sa:=sc.updR (o:=.lst ya) EG;have EK:=aa (H:=Hj) (a:=la) (o:=.lst ya);have rL:=rL.same (Same.upd (o:=.lst ya) EG);generalize upd Hj la (.lst ya)=H3 at sa EK rL ⊢;have k3:=k2.trans sa;have sH:=s2.trans sa;dsimp only;have gI:=gO (sort:=i) (year:=y) hu h5 okp;have rS:=dI (ss:=ss) (sort:=i) (year:=y) lp;have Qq:=iY (sort:=i) iO;have Wh:=qO ps ow i;refine aC ?_;refine ⟨_,rfl,_,rfl,_,rfl,c.getD i 0+(yTo c ps ss ow y i).d,lc,Qp,aK ps ss i y,la,ya,aM ps ow i,rfl,sa _ _ Bn,JA.same sa,gI,rS,by lia,EK,rL,fun r hr=>(Qq r hr).1,by lia,fun t g kk me oT H4 s4 et ng nk Nd pb Qr vT=>⟨t,_,rfl,SqT.of et,rfl,_,_,rfl,_,_,rfl,rfl,?_⟩⟩;have k4:=k3.trans s4;have Qs:=sH.trans s4;have gl:=xT ((aK ps ss i y++aM ps ow i).zip (shr (c.getD i 0+(yTo c ps ss ow y i).d) (aK ps ss i y) (aM ps ow i)));have kl:=oU ((aK ps ss i y++aM ps ow i).zip (shr (c.getD i 0+(yTo c ps ss ow y i).d) (aK ps ss i y) (aM ps ow i)))
   have zl:((aK ps ss i y++aM ps ow i).zip (shr (c.getD i 0+(yTo c ps ss ow y i).d) (aK ps ss i y) (aM ps ow i))).length<=80+ow.length:=by
    rw [zAs,zA2];lia
   have e1:(yTo c ps ss ow y (i+1)).g=(yTo c ps ss ow y i).g++cj ((aK ps ss i y++aM ps ow i).zip (shr (c.getD i 0+(yTo c ps ss ow y i).d) (aK ps ss i y) (aM ps ow i))):=rfl;have e2:(yTo c ps ss ow y (i+1)).k=(yTo c ps ss ow y i).k++bz ((aK ps ss i y++aM ps ow i).zip (shr (c.getD i 0+(yTo c ps ss ow y i).d) (aK ps ss i y) (aM ps ow i))):=rfl;have e3:(yTo c ps ss ow y (i+1)).l=(yTo c ps ss ow y i).l++[c.getD i 0+(yTo c ps ss ow y i).d - dZ (cj ((aK ps ss i y++aM ps ow i).zip (shr (c.getD i 0+(yTo c ps ss ow y i).d) (aK ps ss i y) (aM ps ow i))))]:=rfl;have e4:(yTo c ps ss ow y (i+1)).d=c.getD i 0+(yTo c ps ss ow y i).d - dZ (cj ((aK ps ss i y++aM ps ow i).zip (shr (c.getD i 0+(yTo c ps ss ow y i).d) (aK ps ss i y) (aM ps ow i)))):=rfl
   have g4:∀ r∈cj ((aK ps ss i y++aM ps ow i).zip (shr (c.getD i 0+(yTo c ps ss ow y i).d) (aK ps ss i y) (aM ps ow i))),r.length=4:=fun r hr=>by
    obtain ⟨p,_,rfl⟩:=zA5.mp hr;rfl
   rw [e1,e2,e3,e4] at yY;generalize cj ((aK ps ss i y++aM ps ow i).zip (shr (c.getD i 0+(yTo c ps ss ow y i).d) (aK ps ss i y) (aM ps ow i)))=GG at pb g4 gl yY ⊢;generalize bz ((aK ps ss i y++aM ps ow i).zip (shr (c.getD i 0+(yTo c ps ss ow y i).d) (aK ps ss i y) (aM ps ow i)))=KK at vT kl yY ⊢;dsimp only;refine aC (aW ?_);refine ⟨_,rfl,_,rfl,g,me,GG,rfl,Nd,pb,g4,by lia,fun H5 s5=>⟨_,_,rfl,rfl,?_⟩⟩;refine aH ?_;dsimp only;have k5:=k4.trans s5;have BH:=Qs.trans s5;have Wi:g≠lg:=(au (sH _ _ eg) ng).symm;have Qt:kk≠lg:=(au (sH _ _ eg) nk).symm;have Nf:=BH _ _ eg;have Qu:=BH _ _ ek;have el5:=BH _ _ el;refine aC ?_;refine ⟨_,rfl,_,rfl,lg,g,xg,me,rfl,rfl,Nf,s5 _ _ Nd,by rw [elg.1,pb.1,sizeLine_eq];have:i * (80+ow.length)<=3 * (80+ow.length):=Nat.mul_le_mul_right _ (by lia);lia,?_⟩;dsimp only
   have JI:∀ b z,H5 b=some (.tup z)->upd H5 lg (.lst (xg++me)) b=some (.tup z):=fun b z e=>by
    rw [az fun w=>by rw [w,Nf] at e;cases e];exact e
   have k6:Same H (upd H5 lg (.lst (xg++me))):=fun b o e=>by
    rw [az (au e Qj)];exact k5 _ _ e
   have Ng:=aa (H:=H5) (a:=lg) (o:=.lst (xg++me));have BI:=((elg.same BH).app (pb.same s5)).keep JI;have JJ:upd H5 lg (.lst (xg++me)) lk=some (.lst xk):=by rw [az M9.symm];exact Qu
   have BM:upd H5 lg (.lst (xg++me)) kk=some (.lst oT):=by rw [az Qt];exact s5 _ _ Qr
   have Nh:upd H5 lg (.lst (xg++me)) ll=some (.lst ((yTo c ps ss ow y i).l.map V.int)):=by rw [az Nb.symm];exact el5
   have mf:=(dP.same BH).keep JI;have se:=(vT.same s5).keep JI;generalize upd H5 lg (.lst (xg++me))=H6 at k6 Ng BI JJ BM Nh mf se ⊢;refine aC ?_;refine ⟨_,rfl,_,rfl,lk,kk,xk,oT,rfl,rfl,JJ,BM,by rw [dP.1,vT.1,sizeLine_eq];have:i * (80+ow.length)<=3 * (80+ow.length):=Nat.mul_le_mul_right _ (by lia);lia,?_⟩;dsimp only
   have Ni:∀ b z,H6 b=some (.tup z)->upd H6 lk (.lst (xk++oT)) b=some (.tup z):=fun b z e=>by
    rw [az fun w=>by rw [w,JJ] at e;cases e];exact e
   have k7:Same H (upd H6 lk (.lst (xk++oT))):=fun b o e=>by
    rw [az (au e vF)];exact k6 _ _ e
   have Nj:upd H6 lk (.lst (xk++oT)) lg=some (.lst (xg++me)):=by rw [az M9];exact Ng
   have BN:=BI.keep Ni;have Nk:=aa (H:=H6) (a:=lk) (o:=.lst (xk++oT));have BQ:=(mf.app se).keep Ni;have EM:upd H6 lk (.lst (xk++oT)) ll=some (.lst ((yTo c ps ss ow y i).l.map V.int)):=by rw [az Na.symm];exact Nh
   generalize upd H6 lk (.lst (xk++oT))=H7 at k7 Nj BN Nk BQ EM ⊢;refine ⟨_,rfl,.inl ⟨rfl,_,SqL.of EM⟩,_,rfl,ll,_,_,rfl,rfl,EM,by rw [zA1,Qn,sizeLine_eq];lia,?_⟩
   have Nl:∀ {o:HO} b z,H7 b=some (.tup z)->upd H7 ll o b=some (.tup z):=fun b z e=>by
    rw [az fun w=>by rw [w,EM] at e;cases e];exact e
   refine yY _ _ ⟨_,_,_,_,_,_,xg++me,xk++oT,rfl,fun b o e=>?_,?_,BN.keep Nl,?_,BQ.keep Nl,?_⟩
   ·rw [az (au e Qk)];exact k7 _ _ e
   ·rw [az Nb];exact Nj
   ·rw [az Na];exact Nk
   ·rw [aa,zA4];rfl
  ·rintro σ Hc ⟨bX,bP,bS,bg,aS,cm,xg,xk,rfl,k,eg,elg,ek,dP,el⟩;obtain ⟨Qv,Qw⟩:=y_row (c:=c) (ps:=ps) (ss:=ss) (ow:=ow) (y:=y) 3;have q:∀ t g k tl xg xk H',Same H H'->H' t=some (.tup [.ref g,.ref k,.ref tl])->H g=none->H k=none->(g≠sysModules/\k≠sysModules)->H' g=some (.lst xg)->Els H' xg (srt (yTo c ps ss ow y 3).g)->H' k=some (.lst xk)->Els H' xk (srt (yTo c ps ss ow y 3).k)->H' tl=some (.tup ((yTo c ps ss ow y 3).l.map V.int))->Q (.ref t) H':=q;have elg:Els Hc xg (yTo c ps ss ow y 3).g:=elg;have dP:Els Hc xk (yTo c ps ss ow y 3).k:=dP;have el:Hc ll=some (.lst ((yTo c ps ss ow y 3).l.map V.int)):=el;obtain ⟨ag,Qx,Nm,Nn⟩:=km elg;obtain ⟨ak,Qy,yb,Np⟩:=km dP;subst Qx Qy;dsimp only
   have nn:∀ {rs:List (List Int)} {ads:List Addr},rs=ads.map (gP Hc)->(∀ r∈rs,r.length=4)->∀ a∈ads,gP Hc a≠[]:=fun {rs ads} h h4 a ha z=>by
    have:=h4 (gP Hc a) (by rw [h];exact List.mem_map_of_mem ha);rw [z] at this;cases this
   refine ⟨_,rfl,lg,ag,gP Hc,rfl,SqL.of eg,fun a ha=>⟨SqT.of (Nn a ha),nn Nm Qv a ha⟩,fun g l1 hg JO JU JY=>?_⟩;have sg:=Same.upd (o:=.lst (l1.map V.ref)) hg;refine ⟨_,rfl,lk,ak,gP Hc,rfl,SqL.of (sg _ _ ek),fun a ha=>⟨SqT.of (sg _ _ (Np a ha)),nn yb Qw a ha⟩,fun kk l2 hk Kb BU y6=>?_⟩;have sk:=sg.updR (o:=.lst (l2.map V.ref)) hk;refine ⟨_,rfl,ll,_,rfl,.inl ⟨SqL.of (sk _ _ el),fun tl EN=>?_⟩⟩;have sl:=sk.updR (o:=.tup ((yTo c ps ss ow y 3).l.map V.int)) EN;refine ⟨zL,fun t ht=>?_⟩;have st:=sl.updR (o:=.tup [.ref g,.ref kk,.ref tl]) ht;have u1:=Same.upd (o:=.lst (l2.map V.ref)) hk;have u2:=Same.upd (o:=.tup ((yTo c ps ss ow y 3).l.map V.int)) EN;have u3:=Same.upd (o:=.tup [.ref g,.ref kk,.ref tl]) ht;have EO:l1.map (gP Hc)=srt (yTo c ps ss ow y 3).g:=gC (by rw [Nm];exact JU.map _) (List.pairwise_map.mpr JY);have Qz:l2.map (gP Hc)=srt (yTo c ps ss ow y 3).k:=gC (by rw [yb];exact BU.map _) (List.pairwise_map.mpr y6);refine q t g kk tl _ _ _ (k.trans st) aa (k.free hg) (k.free (sg.free hk)) ⟨JO,Kb⟩ (u3 _ _ (u2 _ _ (u1 _ _ aa))) ?_ (u3 _ _ (u2 _ _ aa)) ?_ (u3 _ _ aa)
   ·rw [<- EO];exact Cg fun a ha=>st _ _ (Nn a (JU.mem_iff.mp ha))
   ·rw [<- Qz];exact Cg fun a ha=>st _ _ (Np a (BU.mem_iff.mp ha))
def cnt (ps ow:List (List Int)):Nat->Nat
 | 0=>0
 | n+1=>cnt ps ow n+(aM ps ow n).length
theorem cnt_nil (ps:List (List Int)):∀ n,cnt ps [] n=0
 | 0=>rfl
 | n+1=>by
  unfold cnt;rw [cnt_nil ps n];rfl
theorem cnt_cons (ps ow:List (List Int))(r:List Int):∀ n,cnt ps (r::ow) n=cnt ps ow n+(if 0<=fl (ps.getD (fl r 1).toNat []) 1/\fl (ps.getD (fl r 1).toNat []) 1 < n then 1 else 0)
 | 0=>by
  rw [zAw (by lia)];rfl
 | n+1=>by
  show cnt ps (r::ow) n+(aM ps (r::ow) n).length=cnt ps ow n+(aM ps ow n).length+_;rw [cnt_cons ps ow r n];unfold aM;by_cases h:fl (ps.getD (fl r 1).toNat []) 1=n
  ·rw [zBb (p:=fun (r:List Int)=>decide (fl (ps.getD (fl r 1).toNat []) 1=(n:Int))) (zAt h),zAe,zAw (by lia),zAx (by lia)];lia
  ·rw [zB9 (p:=fun (r:List Int)=>decide (fl (ps.getD (fl r 1).toNat []) 1=(n:Int))) (by rw [decide_eq_true_eq];exact h)];by_cases h2:0<=fl (ps.getD (fl r 1).toNat []) 1/\fl (ps.getD (fl r 1).toNat []) 1 < n
   ·rw [zAx h2,zAx (by lia)];lia
   ·rw [zAw h2,zAw (by lia)];lia
theorem Cj (ps:List (List Int))(n:Nat):∀ ow:List (List Int),cnt ps ow n<=ow.length
 | []=>by rw [cnt_nil];exact zA3 _
 | r::ow=>by
  rw [cnt_cons,zAe];have:=Cj ps n ow;split <;> lia
theorem FT {c:List Int}{ps ss ow:List (List Int)}{y:Int}(hl:ps.length<=10):∀ n,(yTo c ps ss ow y n).k.length<=80 * n+cnt ps ow n
 | 0=>zAp _
 | n+1=>by
  have a:=FT (c:=c) (ss:=ss) (ow:=ow) (y:=y) hl n;have h1:=dI (ss:=ss) (sort:=n) (year:=y) hl;have h3:=oU ((aK ps ss n y++aM ps ow n).zip (shr (c.getD n 0+(yTo c ps ss ow y n).d) (aK ps ss n y) (aM ps ow n)));show ((yTo c ps ss ow y n).k++bz _).length<=80 * (n+1)+(cnt ps ow n+(aM ps ow n).length);rw [zA2];rw [zAs,zA2] at h3;lia
theorem J6 {c:List Int}{ps ss ow:List (List Int)}{y:Int}(hu:un ps ss=none)(h5:∀ s∈ss,s.length=5)(okp:∀ r∈ps,okP r)(ho:∀ r∈ow,okO ps r):∀ n,∀ r∈(yTo c ps ss ow y n).k,okO ps r
 | 0,r,hr=>by cases hr
 | n+1,r,hr=>by
  rcases zA6.mp (show r∈(yTo c ps ss ow y n).k++bz _ from hr) with z | z
  ·exact J6 (c:=c) (y:=y) hu h5 okp ho n r z
  ·obtain ⟨p,hp,rfl⟩:=zA5.mp z;obtain ⟨h1,h2⟩:=zAq.mp hp;have h2:=zB5 h2;have hm:p.1∈aK ps ss n y++aM ps ow n:=(List.of_mem_zip (show (p.1,p.2)∈_ from h1)).1
   have hn:0<=fl p.1 1/\fl p.1 1 < ps.length:=by
    rcases zA6.mp hm with w | w
    ·obtain ⟨_,_,_,_,a,b⟩:=FQ (sort:=n) (year:=y) hu h5 okp ps.length (zA3 _) p.1 w;exact ⟨a,b⟩
    ·have:=iY ho p.1 w;exact ⟨this.2.1,this.2.2.1⟩
   refine ⟨rfl,hn.1,hn.2,?_⟩;show 1<=fl p.1 3 - p.2;lia
def dX (cs ps ss:List (List Int)):Nat->List (List Int)
 | 0=>[]
 | n+1=>srt (yTo (cs.getD n []) ps ss (dX cs ps ss n) n 3).k
theorem uN {cs ps ss:List (List Int)}(hl:ps.length<=10)(hu:un ps ss=none)(h5:∀ s∈ss,s.length=5)(okp:∀ r∈ps,okP r):∀ n,(∀ r∈dX cs ps ss n,okO ps r)/\(dX cs ps ss n).length<=240 * n
 | 0=>⟨fun r hr=>(by cases hr),zA3 _⟩
 | n+1=>by
  obtain ⟨a,b⟩:=uN (cs:=cs) hl hu h5 okp n;have pm:=List.mergeSort_perm (yTo (cs.getD n []) ps ss (dX cs ps ss n) n 3).k rle;refine ⟨fun r hr=>J6 (c:=cs.getD n []) (y:=n) hu h5 okp a 3 r (pm.mem_iff.mp hr),?_⟩;show (srt (yTo (cs.getD n []) ps ss (dX cs ps ss n) n 3).k).length<=_;unfold srt;rw [pm.length_eq];have:=FT (c:=cs.getD n []) (ss:=ss) (ow:=dX cs ps ss n) (y:=n) hl 3;have:=Cj ps 3 (dX cs ps ss n);lia
def tD (cs ps ss:List (List Int))(j:Nat):Yr:=yTo (cs.getD j []) ps ss (dX cs ps ss j) j 3
def YAt (H0:Hp)(l:Addr)(cs ps ss:List (List Int))(H:Hp)(a:Addr)(j:Nat):Prop:=∃ g k tl xg xk,H a=some (.tup [.ref g,.ref k,.ref tl])/\H0 g=none/\H0 k=none/\g≠l/\k≠l/\H g=some (.lst xg)/\Els H xg (srt (tD cs ps ss j).g)/\H k=some (.lst xk)/\Els H xk (dX cs ps ss (j+1))/\H tl=some (.tup ((tD cs ps ss j).l.map V.int))/\(g≠sysModules/\k≠sysModules)
theorem YAt.keep {H0 H H':Hp}{l a:Addr}{cs ps ss:List (List Int)}{j:Nat}(h:YAt H0 l cs ps ss H a j)(k:∀ b o,b≠l->H b=some o->H' b=some o)(hl:∃ xs,H l=some (.lst xs)):YAt H0 l cs ps ss H' a j:=by
 obtain ⟨xs,hl⟩:=hl;obtain ⟨g,kk,tl,xg,xk,e1,n1,n2,d1,d2,e2,e3,e4,e5,e6,e7⟩:=h
 have nt:∀ b z,H b=some (.tup z)->b≠l:=fun b z e w=>by rw [w,hl] at e;cases e
 exact ⟨g,kk,tl,xg,xk,k _ _ (nt _ _ e1) e1,n1,n2,d1,d2,k _ _ d1 e2,e3.keep fun b z e=>k _ _ (nt _ _ e) e,k _ _ d2 e4,e5.keep fun b z e=>k _ _ (nt _ _ e) e,k _ _ (nt _ _ e6) e6,e7⟩
inductive SpYearsI (vs:List V)(H:Hp)(Q:VK):Prop
 | mk:∀ bk y ac xc cs ap xp ps ae xs ss,(vs=[.ref bk,.int y])->(H bk=some (.tup [.ref ac,.ref ap,.ref ae]))->(RowsAt H ac xc cs)->((∀ r∈cs,r.length=3/\∀ x∈r,0<=x))->(cs.length<=20)->(0<=y)->(y < cs.length)->(RowsAt H ap xp ps)->(ps.length<=10)->((∀ r∈ps,okP r))->(RowsAt H ae xs ss)->(ss.length<=12)->((∀ s∈ss,s.length=5))->(un ps ss=none)->(∀ l (ts:List Addr) H',Same H H'->H l=none->H' l=some (.lst (ts.map V.ref))->(ts.length:Int)=y+1->(∀ j a,ts[j]?=some a->YAt H l cs ps ss H' a j)->Q (.ref l) H')->SpYearsI  vs H Q
def xU:Sp:=fun vs H Q _=>SpYearsI  vs H Q
theorem scYB:FnScope ["book","year","years","owed","at","gifts","left"] ["book","year"] (aG (top 52)):=fS
theorem Ck (F:Fun K "years_given" "years_given" (top 52) f fd)(Tr:mg "range" = none)(c1:Cal P w K mg base 9 "year_given" ["book","year","owed"] Ci):FnOk P w K mg base CX0 10 f fd ["book","year"] xU:=by
 refine F.ok scYB (fun vs H Q E h=>?_) (fun ar A outer s H vs Q E hr h=>?_)
 ·obtain ⟨bk,y,ac,xc,cs,ap,xp,ps,ae,xs,ss,rfl,_⟩:=h;rfl
 ·obtain ⟨bk,y,ac,xc,cs,ap,xp,ps,ae,xs,ss,rfl,eb,rc,okc,lc,y0,y1,rp,lp,okp,rs,ls,h5,hu,q⟩:=h
  refine ⟨_,aB (pss 2 scYB.nd (cX aj))
   (aB (pss 3 scYB.nd (cX aj))
   (aB (bY zB3 rfl (cD rfl Tr (aq (aU bZ (pv 1) aA) aj)) (pgn 4 scYB.nd)
    (aB (cz (aF c1 hr (aq (pv 0) (aq (pv 4) (aq (pv 3) aj)))) (bJ rfl (ao (pgn 5 scYB.nd) (ao (pgn 3 scYB.nd) (ao (pgn 6 scYB.nd) aV)))))
    (aD (cO (nG zBd zBg zBf fM (pv 2) (aq (bD (aq (pv 5) (aq (pv 3) (aq (pv 6) aj)))) aj))))))
   (aD (aR (pv 2))))),?_⟩
  refine aC (aW ?_);refine ⟨zL,fun l hl=>?_⟩;refine aH ?_;dsimp only;refine aC (aW ?_);refine ⟨zL,fun Ki cE=>?_⟩;refine aH ?_;dsimp only;have s1:=Same.upd (o:=.lst []) hl;have s2:=Same.upd (o:=.lst []) cE
  have QA:Ki≠l:=fun z=>by rw [z,aa] at cE;cases cE
  refine tu (fun H1=>Same H H1/\H1 l=some (.lst [])/\H1 Ki=some (.lst [])) ⟨s1.trans s2,s2 _ _ aa,aa⟩ fun H1 ⟨k1,el1,QB⟩=>?_;refine aC ?_;refine ⟨_,rfl,_,_,rfl,rfl,y+1,rfl,by lia,by lia,?_⟩;refine di (lo:=0) (fun i σ Hc=>∃ x4 x5 x6 lo xo,∃ ts:List Addr,σ=[some (.ref bk),some (.int y),some (.ref l),some (.ref lo),x4,x5,x6]/\Same H Hc/\Hc l=some (.lst (ts.map V.ref))/\ts.length=i/\(∀ j a,ts[j]?=some a->YAt H l cs ps ss Hc a j)/\lo≠l/\Hc lo=some (.lst xo)/\Els Hc xo (dX cs ps ss i)) ?_ ?_ ?_
  ·exact ⟨none,none,none,Ki,[],[],rfl,k1,el1,rfl,fun j a e=>(by simp at e),QA,QB,Els.nil⟩
  ·rintro i σ Hc hi ⟨x4,x5,x6,lo,xo,ts,rfl,k,el,lt,hy,dl,eo,oD⟩;obtain ⟨iO,Kj⟩:=uN (cs:=cs) lp hu h5 okp i;refine aH ?_;have z0:(0:Int)+(i:Int)=i:=by lia
   rw [z0];refine aC ?_;refine ⟨_,rfl,_,rfl,_,rfl,bk,i,lo,ac,xc,cs,ap,xp,ps,ae,xs,ss,xo,dX cs ps ss i,rfl,k _ _ eb,rc.same k,okc,by lia,by lia,rp.same k,lp,okp,rs.same k,ls,h5,hu,eo,oD,iO,by lia,fun t g kk tl xg xk H2 s2 et ng nk JO eg elg ek dP BY=>?_⟩;rw [zAi] at elg dP BY;refine ⟨t,_,rfl,SqT.of et,rfl,_,_,rfl,_,_,rfl,_,_,rfl,rfl,?_⟩;dsimp only;have k2:=k.trans s2;have el2:=s2 _ _ el;have dg:g≠l:=(au el ng).symm;have dk:kk≠l:=(au el nk).symm;refine ⟨_,rfl,.inl ⟨rfl,_,SqL.of el2⟩,_,rfl,_,rfl,_,rfl,zL,fun tt ER=>⟨l,_,_,rfl,rfl,Same.upd ER _ _ el2,by rw [zA1,lt,sizeLine_eq];lia,?_⟩⟩;have s3:=Same.upd (o:=.tup [.ref g,.ref kk,.ref tl]) ER
   have nt:tt≠l:=fun z=>by rw [z,el2] at ER;cases ER
   have kp:∀ {o:HO} b u,b≠l->H2 b=some u->upd (upd H2 tt (.tup [.ref g,.ref kk,.ref tl])) l o b=some u:=fun b u n e=>by
    rw [az n];exact s3 _ _ e
   have ke:∀ {o:HO} b z,H2 b=some (.tup z)->upd (upd H2 tt (.tup [.ref g,.ref kk,.ref tl])) l o b=some (.tup z):=fun b z e=>kp b _ (fun w=>by rw [w,el2] at e;cases e) e;refine ⟨_,_,_,kk,xk,ts++[tt],rfl,fun b o e=>?_,?_,by rw [zA2,lt];rfl,fun j a e=>?_,dk,kp _ _ dk ek,dP.keep ke⟩
   ·exact kp _ _ (au e hl) (k2 _ _ e)
   ·rw [aa,zA4];rfl
   ·by_cases hj:j < ts.length
    ·rw [zBc hj] at e;exact (hy j a e).keep (fun b o n z=>kp _ _ n (s2 _ _ z)) ⟨_,el⟩
    ·have mT:j=i:=by
      have:=(zAa.mp e).1;rw [zA2] at this;simp at this;lia
     subst mT;rw [zB8 (by lia),lt,Nat.sub_self] at e;cases e;exact ⟨g,kk,tl,xg,xk,by rw [az nt];exact aa,k.free ng,k.free nk,dg,dk,kp _ _ dg eg,elg.keep ke,kp _ _ dk ek,dP.keep ke,ke _ _ BY,JO⟩
  ·rintro σ Hc ⟨x4,x5,x6,lo,xo,ts,rfl,k,el,lt,hy,dl,eo,oD⟩;exact ⟨_,rfl,q l ts Hc k hl el (by rw [lt];lia) hy⟩
inductive SpRefBI (vs:List V)(H:Hp)(Q:VK):Prop
 | mk:∀ S v d,(vs=[v])->(IsTh S H v d)->(sz d<=4000)->(jZ d=true)->(∀ H',Same H H'->Q .non H')->SpRefBI  vs H Q
def Cm:Sp:=fun vs H Q _=>SpRefBI  vs H Q
inductive SpRefYI (vs:List V)(H:Hp)(Q:VK):Prop
 | mk:∀ ac xc cs y,(vs=[.ref ac,.int y])->(RowsAt H ac xc cs)->(0<=y)->(y < cs.length)->(∀ H',Same H H'->Q .non H')->SpRefYI  vs H Q
def vO:Sp:=fun vs H Q _=>SpRefYI  vs H Q
theorem J7:FnScope ["thing","least","most"] ["thing","least","most"] (aG (top 12)):=fS
theorem pW (F:Fun K "is_whole_from" "is_whole_from" (top 12) f fd)(c1:Cal P w K mg base 1 "is_whole" ["thing"] (spT dz)):FnOk P w K mg base CX0 2 f fd ["thing","least","most"] (lE mD):=by
 refine F.ok J7 (fun vs H Q E h=>?_) (fun ar A outer s H vs Q E hr h=>?_)
 ·obtain ⟨S,v,d,n,m,rfl,_⟩:=h;rfl
 ·obtain ⟨S,v,d,n,m,rfl,th,hz,q⟩:=h;refine ⟨_,aD (aR (cM (aF c1 hr (aQ (pv 0) aj)) (eV (dh cJ cJ (pv 1) (pv 0) (pv 2))))),?_⟩;refine ⟨_,rfl,S,v,d,rfl,th,hz,fun H1 s1=>⟨_,rfl,?_⟩⟩;have fin:=q H1 s1;unfold mD at fin
  cases e:dz d with
  | false =>
   rw [e] at fin;exact bB fin
  | true =>
   rw [e] at fin;obtain ⟨i,rfl,rfl⟩:=lG th e;exact bQ (cT (gh rfl) (gh rfl) (gh rfl) _ fin)
theorem J8:FnScope ["thing"] ["thing"] (aG (top 36)):=fS
theorem Ex (F:Fun K "refuse_no_book" "refuse_no_book" (top 36) f fd)(c1:Cal P w K mg base 6 "is_book" ["thing"] (spT jZ)):FnOk P w K mg base CX0 7 f fd ["thing"] Cm:=by
 refine F.ok J8 (fun vs H Q E h=>?_) (fun ar A outer s H vs Q E hr h=>?_)
 ·obtain ⟨S,v,d,rfl,_⟩:=h;rfl
 ·obtain ⟨S,v,d,rfl,th,hz,hb,q⟩:=h;refine ⟨_,aD (cF (cW (dF (aF c1 hr (aQ (pv 0) aj)))) (aD fO) bf),?_⟩;refine ⟨_,rfl,S,v,d,rfl,th,hz,fun H1 s1=>⟨_,rfl,?_⟩⟩;rw [hb];exact bB (q _ s1)
theorem J9:FnScope ["clips","year"] ["clips","year"] (aG (top 53)):=fS
theorem Ey (F:Fun K "refuse_no_year_of" "refuse_no_year_of" (top 53) f fd)(T:Mg mg)(c1:Cal P w K mg base 2 "is_whole_from" ["thing","least","most"] (lE mD)):FnOk P w K mg base CX0 3 f fd ["clips","year"] vO:=by
 refine F.ok J9 (fun vs H Q E h=>?_) (fun ar A outer s H vs Q E hr h=>?_)
 ·obtain ⟨ac,xc,cs,y,rfl,_⟩:=h;rfl
 ·obtain ⟨ac,xc,cs,y,rfl,rc,y0,y1,q⟩:=h;refine ⟨_,aD (cF (cW (dF (aF c1 hr (aq (pv 1) (aq aA (aq (aU cP (aN cg rfl T.len PySem.boot_len (aq (pv 0) aj)) aA) aj)))))) (aD fO) bf),?_⟩;refine ⟨_,rfl,_,rfl,ac,_,rfl,.inr (SqT.of rc.e),_,_,rfl,rfl,fun _=>False,.int y,.int y,0,_,rfl,.int _,(by show 1<=4000;decide),fun H1 s1=>⟨_,rfl,?_⟩⟩
  have e:mD (.int y) 0 ((xc.length:Int) - 1)=true:=by
   show (true && (decide (0<=y) && decide (y<=(xc.length:Int) - 1)))=true;rw [zAt y0,zAt (by rw [rc.l];lia)];rfl
  rw [e];exact bB (q _ s1)
structure BookAt (H:Hp)(bk ac:Addr)(xc:List V)(cs:List (List Int))(ap:Addr)(xp:List V)(ps:List (List Int))(ae:Addr)(xs:List V)(ss:List (List Int)):Prop where
 e:H bk=some (.tup [.ref ac,.ref ap,.ref ae])
 rc:RowsAt H ac xc cs
 okc:∀ r∈cs,r.length=3/\∀ x∈r,0<=x
 lc:cs.length<=20
 rp:RowsAt H ap xp ps
 lp:ps.length<=10
 okp:∀ r∈ps,okP r
 rs:RowsAt H ae xs ss
 ls:ss.length<=12
 h5:∀ s∈ss,s.length=5
 un:un ps ss=none
theorem BookAt.same {H H':Hp}{bk ac:Addr}{xc:List V}{cs:List (List Int)}{ap:Addr}{xp:List V}{ps:List (List Int)}{ae:Addr}{xs:List V}{ss:List (List Int)}(b:BookAt H bk ac xc cs ap xp ps ae xs ss)(s:Same H H'):BookAt H' bk ac xc cs ap xp ps ae xs ss :=
 ⟨s _ _ b.e,b.rc.same s,b.okc,b.lc,b.rp.same s,b.lp,b.okp,b.rs.same s,b.ls,b.h5,b.un⟩
def Ja (R:List (List Int)->List (List Int)->List (List Int)->Int->VK->Hp->Prop):Sp:=fun vs H Q _=>∃ S bk y d ac xc cs ap xp ps ae xs ss,vs=[.ref bk,.int y]/\IsTh S H (.ref bk) d/\sz d<=4000/\jZ d=true/\BookAt H bk ac xc cs ap xp ps ae xs ss/\0<=y/\y < cs.length/\R cs ps ss y Q H
def Jb:List (List Int)->List (List Int)->List (List Int)->Int->VK->Hp->Prop:=fun _ _ _ _ Q H=>∀ H',Same H H'->Q .non H'
theorem Jc:FnScope ["book","year"] ["book","year"] (aG (top 54)):=fS
theorem Cp (F:Fun K "refuse_no_year" "refuse_no_year" (top 54) f fd)(c1:Cal P w K mg base 7 "refuse_no_book" ["thing"] Cm)(c2:Cal P w K mg base 3 "refuse_no_year_of" ["clips","year"] vO):FnOk P w K mg base CX0 8 f fd ["book","year"] (Ja Jb):=by
 refine F.ok Jc (fun vs H Q E h=>?_) (fun ar A outer s H vs Q E hr h=>?_)
 ·obtain ⟨S,bk,y,d,ac,xc,cs,ap,xp,ps,ae,xs,ss,rfl,_⟩:=h;rfl
 ·obtain ⟨S,bk,y,d,ac,xc,cs,ap,xp,ps,ae,xs,ss,rfl,th,hz,hb,B,y0,y1,q⟩:=h;refine ⟨_,aB (cO (aF c1 hr (aq (pv 0) aj))) (aD (cO (aF c2 hr (aq (pX bO (pv 0) aA) (aq (pv 1) aj))))),?_⟩;refine aC ?_;refine ⟨_,rfl,S,_,d,rfl,th,hz,hb,fun H1 s1=>?_⟩;dsimp only;have B1:=B.same s1;exact ⟨_,rfl,bk,_,0,.ref ac,rfl,rfl,SqT.of B1.e,rfl,_,rfl,ac,xc,cs,y,rfl,B1.rc,y0,y1,fun H2 s2=>q _ (s1.trans s2)⟩
def FW:List (List Int)->List (List Int)->List (List Int)->Int->VK->Hp->Prop:=fun cs ps ss y Q H=>∀ k xk H',Same H H'->H k=none->k≠sysModules->H' k=some (.lst xk)->Els H' xk (dX cs ps ss (y.toNat+1))->Q (.ref k) H'
def Jd (R:List (List Int)->List (List Int)->List (List Int)->Int->VK->Hp->Prop):Sp:=fun vs H Q _=>∃ bk y ac xc cs ap xp ps ae xs ss,vs=[.ref bk,.int y]/\BookAt H bk ac xc cs ap xp ps ae xs ss/\0<=y/\y < cs.length/\R cs ps ss y Q H
theorem scYF1:FnScope ["book","year","gifts","owed","left"] ["book","year"] (aG (top 56)):=fS
theorem Cq (F:Fun K "owed_behind" "owed_behind" (top 56) f fd)(c2:Cal P w K mg base 10 "years_given" ["book","year"] xU):FnOk P w K mg base CX0 11 f fd ["book","year"] (Jd FW):=by
 refine F.ok scYF1 (fun vs H Q E h=>?_) (fun ar A outer s H vs Q E hr h=>?_)
 ·obtain ⟨bk,y,ac,xc,cs,ap,xp,ps,ae,xs,ss,rfl,_⟩:=h;rfl
 ·obtain ⟨bk,y,ac,xc,cs,ap,xp,ps,ae,xs,ss,rfl,B,y0,y1,q⟩:=h
  refine ⟨_,aB (cz (pX bL (aF c2 hr (aq (pv 0) (aq (pv 1) aj))) (pv 1)) (bJ rfl (ao (pgn 2 scYF1.nd) (ao (pgn 3 scYF1.nd) (ao (pgn 4 scYF1.nd) aV)))))
   (aD (aR (pv 3))),?_⟩
  refine aC ?_;refine ⟨_,rfl,_,rfl,bk,y,ac,xc,cs,ap,xp,ps,ae,xs,ss,rfl,B.e,B.rc,B.okc,B.lc,y0,y1,B.rp,B.lp,B.okp,B.rs,B.ls,B.h5,B.un,fun l ts H2 s2 nl el lt hy=>?_⟩;have hl:y.toNat < ts.length:=by lia
  obtain ⟨g,k,tl,xg,xk,e1,n1,n2,d1,d2,e2,e3,e4,e5,e6,e7⟩:=hy y.toNat ts[y.toNat] (zA0 hl)
  have gg:atI (ts.map V.ref) y=some (.ref ts[y.toNat]):=by
   have:(ts.map V.ref)[y.toNat]?=some (.ref ts[y.toNat]):=by rw [zAb,zA0 hl];rfl
   have:=cY this;rw [show ((y.toNat:Nat):Int)=y by lia] at this;exact this
  refine ⟨_,rfl,l,_,y,.ref ts[y.toNat],rfl,rfl,SqL.of el,gg,ts[y.toNat],_,rfl,SqT.of e1,rfl,_,_,rfl,_,_,rfl,_,_,rfl,rfl,?_⟩;dsimp only;exact ⟨_,rfl,q k xk H2 s2 n2 e7.2 e4 e5⟩
abbrev ky (n y:Int):List Key:=[.inl n,.inl y]
theorem tE {n y n' y':Int}(h:ky n y=ky n' y'):n=n'/\y=y':=by
 injection h with h1 h2;injection h2 with h2 _;injection h1 with h1;injection h2 with h2;exact ⟨h1,h2⟩
def dom (ps:List (List Int))(n y:Int):Prop:=0<=n/\n < ps.length/\fl (ps.getD n.toNat []) 2<=y/\y<=fl (ps.getD n.toNat []) 3
def hl (ps ss:List (List Int))(n y:Int):List Int:=bU (ps.getD n.toNat []) ss n y
structure Lts (fo:Addr)(H0 H:Hp)(dm:Int->Int->Prop)(f:Int->Int->List Int)(kvs:List (List Key×V)):Prop where
 sm:Same H0 H
 nf:H0 fo=none
 e:H fo=some (.dT kvs)
 g:∀ n y,dm n y->∃ d,d9 kvs (ky n y)=some (.ref d)/\H d=some (.lst ((f n y).map V.int))
 no:∀ n y,¬ dm n y->d9 kvs (ky n y)=none
 i:∀ n y n' y' d,d9 kvs (ky n y)=some (.ref d)->d9 kvs (ky n' y')=some (.ref d)->n=n'/\y=y'
 fr:∀ n y d,d9 kvs (ky n y)=some (.ref d)->H0 d=none/\d≠fo
 kd:(kvs.map (·.1)).Nodup
 kk:∀ k∈kvs.map (·.1),∃ n y,k=ky n y/\dm n y
theorem Ez {kvs:List (List Key×V)}{k:List Key}(h:d9 kvs k=none):¬ k∈kvs.map (·.1):=fun hk=>by
 obtain ⟨p,hp,e⟩:=zA5.mp hk
 have:(d9 kvs k).isSome=true:=by
  rw [<- eG,List.any_eq_true];exact ⟨p,hp,zAt e⟩
 rw [h] at this;cases this
theorem Cr {kvs:List (List Key×V)}{k:List Key}{v:V}(hn:(kvs.map (·.1)).Nodup)(h:d9 kvs k=none):((putK kvs k v).map (·.1)).Nodup:=by
 rw [jJ _ h,zA4,List.nodup_append];refine ⟨hn,(by simp),fun a ha b hb z=>?_⟩;rw [List.mem_singleton.mp hb] at z;have z':a=k:=z;rw [z'] at ha;exact Ez h ha
section
variable {fo:Addr}{H0 H H':Hp}{dm:Int->Int->Prop}{f f':Int->Int->List Int}{kvs:List (List Key×V)}
theorem Lts.same (g:Lts fo H0 H dm f kvs)(s:Same H H'):Lts fo H0 H' dm f kvs :=
 ⟨g.sm.trans s,g.nf,s _ _ g.e,fun n y h=>by
  obtain ⟨d,e1,e2⟩:=g.g n y h
  exact ⟨d,e1,s _ _ e2⟩,g.no,g.i,g.fr,g.kd,g.kk⟩
theorem Lts.wr {d:Addr}{N Y:Int}{L:List Int}(g:Lts fo H0 H dm f kvs)(hv:d9 kvs (ky N Y)=some (.ref d))(h1:f' N Y=L)(h2:∀ n y,dm n y->¬ (n=N/\y=Y)->f' n y=f n y):Lts fo H0 (upd H d (.lst (L.map V.int))) dm f' kvs:=by
 obtain ⟨w1,w2⟩:=g.fr _ _ _ hv;refine ⟨fun c o e=>by rw [az (au e w1)];exact g.sm _ _ e,g.nf,by rw [az w2.symm];exact g.e,fun n y hd=>?_,g.no,g.i,g.fr,g.kd,g.kk⟩;by_cases hk:n=N/\y=Y
 ·obtain ⟨rfl,rfl⟩:=hk;exact ⟨d,hv,by rw [aa,h1]⟩
 ·obtain ⟨d',q1,q2⟩:=g.g n y hd;have nd:d'≠d:=fun z=>hk (g.i _ _ _ _ _ (z ▸ q1) hv);exact ⟨d',q1,by rw [az nd,h2 n y hd hk];exact q2⟩
theorem Lts.cast (g:Lts fo H0 H dm f kvs)(h:∀ n y,dm n y->f' n y=f n y):Lts fo H0 H dm f' kvs :=
 ⟨g.sm,g.nf,g.e,fun n y hd=>by
  obtain ⟨d,e1,e2⟩:=g.g n y hd
  exact ⟨d,e1,by rw [h n y hd];exact e2⟩,g.no,g.i,g.fr,g.kd,g.kk⟩
theorem Lts.put {d:Addr}{N Y:Int}{L:List Int}{Nq:Int->Int->Prop}(g:Lts fo H0 H dm f kvs)(sH:Same H H')(B0:H d=none)(ed:H' d=some (.lst (L.map V.int)))(hL:f N Y=L)(hn:¬ dm N Y)(B6:∀ n y,Nq n y↔(dm n y\/(n=N/\y=Y))):Lts fo H0 (upd H' fo (.dT (putK kvs (ky N Y) (.ref d)))) Nq f (putK kvs (ky N Y) (.ref d)):=by
 have Nr:d≠fo:=fun z=>by rw [z,g.e] at B0;cases B0
 have kp:∀ b o,b≠fo->H b=some o->upd H' fo (.dT (putK kvs (ky N Y) (.ref d))) b=some o:=fun b o n e=>by
  rw [az n];exact sH _ _ e
 have nn:=g.no N Y hn;refine ⟨fun b o e=>kp b o (au e g.nf) (g.sm _ _ e),g.nf,aa,fun n y z=>?_,fun n y z=>?_,fun n y n' y' d' z z'=>?_,fun n y d' z=>?_,Cr g.kd nn,fun k hk=>?_⟩
 ·by_cases hk:ky n y=ky N Y
  ·obtain ⟨rfl,rfl⟩:=tE hk;exact ⟨d,by rw [iM,zAx rfl],by rw [az Nr,hL];exact ed⟩
  ·have hd:=((B6 n y).mp z).resolve_right fun w=>hk (by rw [w.1,w.2]);obtain ⟨d',q1,q2⟩:=g.g n y hd;exact ⟨d',by rw [iM,zAw hk];exact q1,kp _ _ (g.fr n y d' q1).2 q2⟩
 ·have hk:¬ ky n y=ky N Y:=fun w=>z ((B6 n y).mpr (.inr (tE w)));rw [iM,zAw hk];exact g.no n y fun w=>z ((B6 n y).mpr (.inl w))
 ·have key:∀ {n y},d9 kvs (ky n y)=some (.ref d)->False:=fun {n y} w=>by
   by_cases hd:dm n y
   ·obtain ⟨Wj,q1,q2⟩:=g.g n y hd;rw [w] at q1;cases q1;rw [q2] at B0;cases B0
   ·rw [g.no n y hd] at w;cases w
  rw [iM] at z z';by_cases h1:ky n y=ky N Y <;> by_cases h2:ky n' y'=ky N Y
  ·obtain ⟨rfl,rfl⟩:=tE h1;obtain ⟨rfl,rfl⟩:=tE h2;exact ⟨rfl,rfl⟩
  ·rw [zAx h1] at z;rw [zAw h2] at z';cases z;exact (key z').elim
  ·rw [zAw h1] at z;rw [zAx h2] at z';cases z';exact (key z).elim
  ·rw [zAw h1] at z;rw [zAw h2] at z';exact g.i _ _ _ _ _ z z'
 ·rw [iM] at z;by_cases h1:ky n y=ky N Y
  ·rw [zAx h1] at z;cases z;exact ⟨g.sm.free B0,Nr⟩
  ·rw [zAw h1] at z;exact g.fr n y d' z
 ·rw [jJ _ nn,zA4] at hk;rcases zA6.mp hk with z | z
  ·obtain ⟨n,y,a,b⟩:=g.kk k z;exact ⟨n,y,a,(B6 n y).mpr (.inl b)⟩
  ·rw [List.mem_singleton.mp z];exact ⟨N,Y,rfl,(B6 N Y).mpr (.inr ⟨rfl,rfl⟩)⟩
end
inductive SpRowsI (vs:List V)(H:Hp)(Q:VK):Prop
 | mk:∀ ap xp ps ae xs ss,(vs=[.ref ap,.ref ae])->(RowsAt H ap xp ps)->(ps.length<=10)->((∀ r∈ps,okP r))->(RowsAt H ae xs ss)->(ss.length<=100)->((∀ s∈ss,s.length=5))->(∀ t fo H',Same H H'->H' t=some (.tup [.ref fo,unV (un ps ss)])->(un ps ss=none->∃ kvs,Lts fo H H' (dom ps) (hl ps ss) kvs)->Q (.ref t) H')->SpRowsI  vs H Q
def spRows:Sp:=fun vs H Q _=>SpRowsI  vs H Q
def Cu (p:List Int):List Int:=(List.range 8).map fun i=>fl p 4 * (if ((i:Nat):Int)=fl p 0 then 1 else 0)
theorem EY {ps:List (List Int)}{n y:Int}(op:okP (ps.getD n.toNat []))(hy:fl (ps.getD n.toNat []) 2<=y/\y<=fl (ps.getD n.toNat []) 3):hl ps [] n y=Cu (ps.getD n.toNat []):=by
 unfold hl bU;rw [zAx hy];show base0 (ps.getD n.toNat [])=Cu _;generalize ps.getD n.toNat []=p at op;obtain ⟨_,⟨a,b⟩,_⟩:=op;unfold base0 Cu
 obtain ⟨h,eh⟩:∃ h:Nat,fl p 0=h:=⟨(fl p 0).toNat,by lia⟩
 rw [eh,zAi];have hb:h < 8:=by lia
 generalize fl p 4=k;have:h=0\/h=1\/h=2\/h=3\/h=4\/h=5\/h=6\/h=7:=by lia
 rcases this with rfl | rfl | rfl | rfl | rfl | rfl | rfl | rfl <;> simp [List.range_succ,List.replicate]
theorem Cv (ps ss:List (List Int))(n y:Int):(hl ps ss n y).length=8:=dW _ _ _ _
theorem Fb {ps ss:List (List Int)}{s:List Int}{n y:Int}(hd:dom ps n y):hl ps (ss++[s]) n y=hstep n y (hl ps ss n y) s:=by
 unfold hl bU;rw [zAx hd.2.2,zAx hd.2.2,List.foldl_append];rfl
theorem holds_iff {ps sa:List (List Int)}{s:List Int}{n a b k y:Int}(ea:fl s 0=n)(eb:fl s 1=a)(ec:fl s 2=b)(ed:fl s 3=k)(ee:fl s 4=y):cH ps sa s=true↔(dom ps n y/\(0<=a/\a < 8)/\(0<=b/\b < 8)/\a≠b/\(1<=k/\k<=99))/\∀ z,dom ps n z->y<=z->k<=(hl ps sa n z).getD a.toNat 0:=by
 have em:∀ {u v z:Int},z∈years u v↔u<=z/\z<=v:=fun {u v z}=>by
  unfold years;rw [zA5];constructor
  ·rintro ⟨i,hi,rfl⟩;have:=List.mem_range.mp hi;lia
  ·rintro ⟨h1,h2⟩;exact ⟨(z - u).toNat,List.mem_range.mpr (by lia),by lia⟩
 unfold cH uG sU;rw [ea,eb,ec,ed,ee];simp only [Bool.and_eq_true,decide_eq_true_eq,Bool.not_eq_true',decide_eq_false_iff_not,List.all_eq_true];unfold dom;constructor
 ·rintro ⟨⟨h1,h2,h3,h4,h5,h6⟩,h7⟩;exact ⟨⟨⟨h1.1,h1.2,h6.1,h6.2⟩,h2,h3,h4,h5⟩,fun z hz hy=>h7 z (em.mpr ⟨hy,hz.2.2.2⟩)⟩
 ·rintro ⟨⟨h1,h2,h3,h4,h5⟩,h7⟩
  exact ⟨⟨⟨h1.1,h1.2.1⟩,h2,h3,h4,h5,h1.2.2⟩,fun z hz=>by
   obtain ⟨q1,q2⟩:=em.mp hz
   exact h7 z ⟨h1.1,h1.2.1,by lia,q2⟩ q1⟩
def yk (n y:Int)(p:List Key×V):Option Int:=match p.1 with
 | [.inl n',.inl z]=>if n'=n/\y<=z then some z else none
 | _=>none
theorem qP:bootBuiltins "min" = some (.builtin "min"):=by decide +kernel
theorem zy:bootBuiltins "max" = some (.builtin "max"):=by decide +kernel
theorem K4:(["_law_one","_law_sacks","_law_holder"]:List Str).Nodup:=by decide +kernel
theorem Je:(["_law_number_of","_law_one","_law_number","_law_year"]:List Str).Nodup:=by decide +kernel
theorem K5:(["_law_one","_law_rows_here","_law_number","_law_seller"]:List Str).Nodup:=by decide +kernel
theorem scX:FnScope ["_law_promises","_law_sales","_law_rows_here","_law_number","_law_holder","_law_sort","_law_first","_law_last","_law_sacks","_law_price","_law_year","_law_at","_law_seller","_law_buyer","_law_years_here","_law_least","_law_one"] ["_law_promises","_law_sales"] (aG (top 71)):=fS
theorem Fd (F:Fun K "_law_rows" "_law_rows" (top 71) f fd)(T:Mg mg)(Te:mg "enumerate" = none)(Tr:mg "range" = none)(Tn:mg "min" = none)(Tm:mg "max" = none):FnOk P w K mg base CX0 1 f fd ["_law_promises","_law_sales"] spRows:=by
 refine F.ok scX (fun vs H Q E h=>?_) (fun ar A outer s H vs Q E hr h=>?_)
 ·obtain ⟨ap,xp,ps,ae,xs,ss,rfl,_⟩:=h;rfl
 ·obtain ⟨ap,xp,ps,ae,xs,ss,rfl,rp,lp,okp,rs,ls,h5,q⟩:=h
  refine K61P.ok_b (aJ (vq (i:=2) scX.nd rfl (Or.inr rfl) ⟨uf⟩)
   (aJ ⟨bY zB3 rfl (pi_enum rfl Te (aq (pv 0) aj)) (bJ rfl (ao (bh (i:=3) scX.nd rfl (Or.inr rfl)) (ao (bJ rfl (ao (bh (i:=4) scX.nd rfl (Or.inr rfl)) (ao (pgn 5 scX.nd) (ao (pgn 6 scX.nd)
     (ao (pgn 7 scX.nd) (ao (bh (i:=8) scX.nd rfl (Or.inr rfl)) (ao (pgn 9 scX.nd) aV))))))) aV)))
    (iD (bT ⟨bY zB3 rfl (qb rfl Tr (aq (pv 6) (aq (aU bZ (pv 7) aA) aj))) (bh (i:=10) scX.nd rfl (Or.inr rfl))
     (iD (bT ⟨wH (fW hr) (pv 2) (bD (aq (pv 3) (aq (pv 10) aj))) (bC ["_law_one","_law_sacks","_law_holder"] [none,some 8,some 4] rfl (cD rfl Tr (aq aA aj)) (fun C fp pins s₂ H₂=>⟨pgn 0 K4,bu,aU eZ (pv 1) (bM yE rfl T.int boot_int (aq (jE jk (pv 0) (pv 2) (bA _)) aj))⟩) (fun C=>cI (cI trivial)) ⟨rfl,rfl,rfl,rfl⟩) rfl⟩))⟩))⟩
   (aJ ⟨bY zB3 rfl (pi_enum rfl Te (aq (pv 1) aj)) (bJ rfl (ao (pgn 11 scX.nd) (ao (bJ rfl (ao (bh (i:=3) scX.nd rfl (Or.inr rfl)) (ao (bh (i:=12) scX.nd rfl (Or.inr rfl)) (ao (pgn 13 scX.nd)
     (ao (bh (i:=8) scX.nd rfl (Or.inr rfl)) (ao (bh (i:=10) scX.nd rfl (Or.inr rfl)) aV)))))) aV)))
    (iD (aJ ⟨cF (PW.pt (tO (bj jk (pv 12) (pv 13) (bA _)) (tO (bj jl (aN (fK rfl) rfl Tn qP (aq (pv 12) (aq (pv 13) aj))) aA (bA _)) (tO (bj jD (aN (j7 rfl) rfl Tm zy (aq (pv 12) (aq (pv 13) aj))) aA (bA _)) (uW (Ab (yM (fW hr) (bD (aq (pv 3) (aq (pv 10) aj))) (pv 2)))))))) (aD (aR (bD (aq (pv 2) (aq (pv 11) aj))))) bf⟩
    (aJ ⟨GC (fJ (i:=14) (g:=jj K 2 (bN (bw 0) (bN (bw 1) jo))) ["_law_number_of","_law_one","_law_number","_law_year"] [none,none,some 3,some 10] rfl scX.nd rfl (Or.inl rfl) (xu (pv 2)) (fun C fp pins s₂ H₂=>⟨cZ rfl rfl (ao (pgn 0 Je) (ao (pgn 1 Je) aV)),gm (PW.pt (rA (bj jk (pv 0) (pv 2) (bA _)) (mF (bj Ag (pv 1) (pv 3) (bA _))))),pv 1⟩) (fun C=>cI (cI trivial)) ⟨rfl,rfl,rfl,rfl⟩)⟩
    (aJ (gA 15 scX.nd ⟨aN (pL rfl) rfl Tn qP (aQ (bC ["_law_one","_law_rows_here","_law_number","_law_seller"] [none,some 2,some 3,some 12] rfl (bW (pv 14)) (fun C fp pins s₂ H₂=>⟨pgn 0 K5,bu,pX (jW (K:=K) rfl) (dY (fW hr) (pv 1) (bD (aq (pv 2) (aq (pv 0) aj))) (fun _ _=>rfl)) (pv 3)⟩) (fun C=>cI (cI (cI trivial))) ⟨rfl,rfl,rfl,rfl⟩) aj)⟩)
    (aJ ⟨cF (PW.pt (tO (cW (nA cJ cJ aA (pv 8) aA)) (uW (bj jl (pv 15) (pv 8) (bA _))))) (aD (aR (bD (aq (pv 2) (aq (pv 11) aj))))) bf⟩
    (bT ⟨bY zB3 rfl (bW (pv 14)) (pgn 16 scX.nd)
     (iD (aJ ⟨cz (aU cP (pX bL (dY (fW hr) (pv 2) (bD (aq (pv 3) (aq (pv 16) aj))) (fun _ _=>rfl)) (pv 12)) (pv 8)) (fP (dY (fW hr) (pv 2) (bD (aq (pv 3) (aq (pv 16) aj))) (fun _ _=>rfl)) (pv 12) set_list)⟩
     (bT ⟨cz (aU bZ (pX bL (dY (fW hr) (pv 2) (bD (aq (pv 3) (aq (pv 16) aj))) (fun _ _=>rfl)) (pv 13)) (pv 8)) (fP (dY (fW hr) (pv 2) (bD (aq (pv 3) (aq (pv 16) aj))) (fun _ _=>rfl)) (pv 13) set_list)⟩)))⟩))))))⟩
   (bT (rR ⟨bD (aq (pv 2) (aq rm aj))⟩))))) ?_
  refine aC (aW ?_);refine fun fo Nt=>?_;refine aH ?_;dsimp only
  have d0:Lts fo H (upd H fo (.dT [])) (fun _ _=>False) (hl ps []) []:=⟨Same.upd Nt,Nt,aa,fun _ _ z=>z.elim,fun _ _ _=>rfl,fun _ _ _ _ _ z=>(by cases z),fun _ _ _ z=>(by cases z),List.nodup_nil,fun k hk=>(by cases hk)⟩
  generalize upd H fo (.dT [])=H1 at d0 ⊢;refine aC ?_;refine ⟨_,rfl,ap,xp,rfl,SqT.of (d0.sm _ _ rp.e),?_⟩;refine gF (xs:=xp) (fun i σ Hc=>∃ x3 x4 x5 x6 x7 x8 x9 bX bP bS bg aS cm fe kvs,σ=[some (.ref ap),some (.ref ae),some (.ref fo),x3,x4,x5,x6,x7,x8,x9,bX,bP,bS,bg,aS,cm,fe]/\Lts fo H Hc (fun n y=>dom ps n y/\n < i) (hl ps []) kvs/\kvs.length<=20 * i) ?_ ?_ ?_ ?_
  ·exact ⟨none,none,none,none,none,none,none,none,none,none,none,none,none,none,[],rfl,⟨d0.sm,d0.nf,d0.e,fun n y z=>by
    have:=z.1.1;have:=z.2
    lia,fun n y _=>rfl,d0.i,d0.fr,d0.kd,fun k hk=>(by cases hk)⟩,zA3 _⟩
  ·rintro i σ Hc hi ⟨x3,x4,x5,x6,x7,x8,x9,bX,bP,bS,bg,aS,cm,fe,kvs,rfl,dt,lk⟩;exact SqT.of (dt.sm _ _ rp.e)
  ·rintro i x σ Hc T0 hx ⟨x3,x4,x5,x6,x7,x8,x9,bX,bP,bS,bg,aS,cm,fe,kvs,rfl,dt,lk⟩ nT
   have hi:i < ps.length:=by
    have:=(zAa.mp hx).1;rw [rp.l] at this;exact this
   obtain ⟨tr,dA,cx⟩:=rp.g i ps[i] (zA0 hi)
   have:x=.ref tr:=by
    rw [hx] at dA;exact zAl dA
   subst this;have op:=okp ps[i] (zAh hi)
   have ep:ps.getD ((i:Int)).toNat []=ps[i]:=by
    rw [zAi];exact getD_get hi
   have dT:=dt.same (Same.upd (o:=.tup [V.int i,V.ref tr]) nT);generalize Wl:ps[i]=p at cx op ep;have iP:=dT.sm _ _ cx;rw [six_row op.1] at iP;have QC:=op;obtain ⟨_,⟨a1,a2⟩,_,⟨c1,c2,c3⟩,⟨e1,e2⟩,_⟩:=op;refine ⟨T0,_,rfl,SqT.of aa,rfl,_,_,rfl,_,_,rfl,?_⟩;refine ⟨tr,_,rfl,SqT.of iP,rfl,_,_,rfl,_,_,rfl,_,_,rfl,_,_,rfl,_,_,rfl,_,_,rfl,rfl,rfl,?_⟩;refine pU fun De Cb=>?_;refine ⟨_,rfl,_,rfl,_,_,rfl,rfl,fl p 2,fl p 3+1,rfl,⟨by lia,by lia,by lia,by lia⟩,?_⟩;generalize upd Hc T0 (.tup [V.int i,V.ref tr])=H2 at dT ⊢;refine di (lo:=fl p 2) (n:=(fl p 3+1 - fl p 2).toNat) (fun j σ Hj=>∃ bX kvs,σ=[some (.ref ap),some (.ref ae),some (.ref fo),some (.int i),some (.int (fl p 0)),some (.int (fl p 1)),some (.int (fl p 2)),some (.int (fl p 3)),some (.int (fl p 4)),some (.int (fl p 5)),bX,bP,bS,bg,aS,cm,fe]/\Lts fo H Hj (fun n y=>dom ps n y/\(n < i\/(n=i/\y < fl p 2+j))) (hl ps []) kvs/\kvs.length<=20 * i+j) ?_ ?_ ?_
   ·refine ⟨bX,kvs,rfl,⟨dT.sm,dT.nf,dT.e,fun n y z=>dT.g n y ⟨z.1,?_⟩,fun n y z=>dT.no n y fun z'=>z ⟨z'.1,.inl z'.2⟩,dT.i,dT.fr,dT.kd,fun k hk=>?_⟩,lk⟩
    ·rcases z.2 with z2 | ⟨z2,z3⟩
     ·exact z2
     ·obtain ⟨_,_,w1,_⟩:=z.1;rw [z2,ep] at w1;lia
    ·obtain ⟨n,y,a,b⟩:=dT.kk k hk;exact ⟨n,y,a,b.1,.inl b.2⟩
   ·rintro j σ Hj hj ⟨bX,kvs,rfl,dj,lj⟩;refine aH ?_;refine pU fun Nu jv=>?_;refine ⟨8,rfl,by decide,by decide,comp_gen 8 (fun i ys σ Hc=>Hc=Hj/\(∃ o1,σ=[o1,some (.int (fl p 4)),some (.int (fl p 0))])/\ys=(((List.range i).map fun i=>fl p 4 * (if ((i:Nat):Int)=fl p 0 then 1 else 0)):List Int).map V.int) ⟨rfl,⟨_,rfl⟩,rfl⟩ (by rw [sizeLine_eq];decide) ?_ ?_⟩
    ·rintro i' ys σ Hc fx hy ⟨rfl,⟨o1,rfl⟩,rfl⟩;refine ⟨fx,fun v H' y' R hR=>?_⟩;obtain ⟨rfl,rfl⟩:=y';refine aH ?_;have z0:(0:Int)+(i':Int)=i':=by lia
     rw [z0];refine ⟨_,rfl,_,rfl,_,rfl,rfl,.inr ⟨_,rfl,_,_,rfl,rfl,.inl ⟨by lia,by lia⟩,hR _ _ _ ⟨rfl,⟨_,rfl⟩,?_⟩⟩⟩;rw [List.range_succ,zA4,zA4];congr 1;show [V.int _]=[V.int _];congr 2;dsimp only;by_cases hh:(i':Int)=fl p 0
     ·rw [zAx hh,zAt (by rw [hh])];rfl
     ·rw [zAw hh,zAz (fun z=>hh (by injection z))];rfl
    rintro ys σ Hc hy ⟨rfl,_,rfl⟩;refine ⟨zA3 _,fun d hd=>?_⟩;have ud:=Same.upd (o:=.lst ((Cu p).map V.int)) hd;have ed:=aa (H:=Hc) (a:=d) (o:=.lst ((Cu p).map V.int));refine ⟨_,rfl,_,rfl,_,rfl,zL,fun t ht=>⟨fo,_,rfl,DPut.t (k:=ky i (fl p 2+j)) (Same.upd ht _ _ (ud _ _ dj.e)) aa (by rw [sizeLine_eq];lia),?_⟩⟩;have u2:=ud.updR (o:=.tup [V.int i,V.int (fl p 2+j)]) ht
    refine jv _ _ ⟨_,_,rfl,dj.put u2 hd (Same.upd ht _ _ ed) (EY (by rw [ep];exact QC) (by rw [ep];lia) |>.trans (by rw [ep])) (fun z=>by
     rcases z.2 with z2 | ⟨z2,z3⟩ <;> lia) (fun n y=>⟨fun z=>?_,fun z=>?_⟩),?_⟩
    ·rcases z.2 with z2 | ⟨z2,z3⟩
     ·exact .inl ⟨z.1,.inl z2⟩
     ·by_cases gE:y=fl p 2+j
      ·exact .inr ⟨z2,gE⟩
      ·exact .inl ⟨z.1,.inr ⟨z2,by lia⟩⟩
    ·rcases z with z | ⟨rfl,rfl⟩
     ·exact ⟨z.1,z.2.imp id fun w=>⟨w.1,by lia⟩⟩
     ·exact ⟨⟨by lia,by lia,by rw [ep];lia,by rw [ep];lia⟩,.inr ⟨rfl,by lia⟩⟩
    ·rw [jJ _ (dj.no _ _ fun z=>by rcases z.2 with z2 | ⟨z2,z3⟩ <;> lia),zA2];show kvs.length+1<=20 * i+(j+1);lia
   ·rintro σ Hj ⟨bX,kvs,rfl,dj,lj⟩;refine Cb _ _ ⟨_,_,_,_,_,_,_,_,_,_,_,_,_,_,kvs,rfl,⟨dj.sm,dj.nf,dj.e,fun n y z=>dj.g n y ⟨z.1,?_⟩,fun n y z=>dj.no n y fun z'=>z ⟨z'.1,?_⟩,dj.i,dj.fr,dj.kd,fun k hk=>?_⟩,by lia⟩
    ·by_cases hn:n < i
     ·exact .inl hn
     ·have Nv:n=i:=by lia
      refine .inr ⟨Nv,?_⟩;obtain ⟨_,_,_,w⟩:=z.1;rw [Nv,ep] at w;lia
    ·rcases z'.2 with w | ⟨w,_⟩ <;> lia
    ·obtain ⟨n,y,a,b⟩:=dj.kk k hk;refine ⟨n,y,a,b.1,?_⟩;rcases b.2 with w | ⟨w,_⟩ <;> lia
  rintro σ Hc ⟨x3,x4,x5,x6,x7,x8,x9,bX,bP,bS,bg,aS,cm,fe,kvs0,rfl,dt,lk⟩
  have Kk:Lts fo H Hc (dom ps) (hl ps []) kvs0:=⟨dt.sm,dt.nf,dt.e,fun n y z=>dt.g n y ⟨z,by rw [rp.l];exact z.2.1⟩,fun n y z=>dt.no n y fun w=>z w.1,dt.i,dt.fr,dt.kd,fun k hk=>by
   obtain ⟨n,y,a,b⟩:=dt.kk k hk
   exact ⟨n,y,a,b.1⟩⟩
  have Wm:kvs0.length<=200:=by
   rw [rp.l] at lk;lia
  clear dt lk d0;dsimp only;refine aC ?_;refine ⟨_,rfl,ae,xs,rfl,SqT.of (Kk.sm _ _ rs.e),?_⟩;refine gF (xs:=xs) (fun i σ Hc=>∃ x3 x4 x5 x6 x7 x8 x9 bX bP bS bg aS cm fe,σ=[some (.ref ap),some (.ref ae),some (.ref fo),x3,x4,x5,x6,x7,x8,x9,bX,bP,bS,bg,aS,cm,fe]/\Lts fo H Hc (dom ps) (hl ps (ss.take i)) kvs0/\∀ j,j < i->cH ps (ss.take j) (ss.getD j [])=true) ?_ ?_ ?_ ?_
  ·exact ⟨_,_,_,_,_,_,_,_,_,_,_,_,_,_,rfl,by rw [List.take_zero];exact Kk,fun j hj=>(by lia)⟩
  ·rintro i σ Hc hi ⟨x3,x4,x5,x6,x7,x8,x9,bX,bP,bS,bg,aS,cm,fe,rfl,dt,hh⟩;exact SqT.of (dt.sm _ _ rs.e)
  ·clear Kk;rintro i x σ Hc T0 hx ⟨x3,x4,x5,x6,x7,x8,x9,bX,bP,bS,bg,aS,cm,fe,rfl,dt,hh⟩ nT
   have hi:i < ss.length:=by
    have:=(zAa.mp hx).1;rw [rs.l] at this;exact this
   obtain ⟨tr,dA,cx⟩:=rs.g i ss[i] (zA0 hi)
   have:x=.ref tr:=by
    rw [hx] at dA;exact zAl dA
   subst this;have eg:ss.getD i []=ss[i]:=getD_get hi
   have bq:ss.take (i+1)=ss.take i++[ss[i]]:=by
    rw [zAj,zA0 hi];rfl
   have l5:=h5 _ (zAh hi);have dT:=dt.same (Same.upd (o:=.tup [V.int i,V.ref tr]) nT);have iP:=dT.sm _ _ cx;generalize MT:ss[i]=s at eg bq l5 iP;generalize QD:ss.take i=sa at dT bq;have hH:cH ps sa s=cH ps (ss.take i) (ss.getD i []):=by rw [QD,eg]
   obtain ⟨n,ea⟩:∃ n,fl s 0=n:=⟨_,rfl⟩
   obtain ⟨a,eb⟩:∃ n,fl s 1=n:=⟨_,rfl⟩
   obtain ⟨b,ec⟩:∃ n,fl s 2=n:=⟨_,rfl⟩
   obtain ⟨k,ed⟩:∃ n,fl s 3=n:=⟨_,rfl⟩
   obtain ⟨y,ee⟩:∃ n,fl s 4=n:=⟨_,rfl⟩
   have Nw:upd Hc T0 (.tup [V.int i,V.ref tr]) tr=some (.tup [.int n,.int a,.int b,.int k,.int y]):=by
    rw [iP,jX l5,ea,eb,ec,ed,ee];rfl
   refine ⟨T0,_,rfl,SqT.of aa,rfl,_,_,rfl,_,_,rfl,?_⟩;refine ⟨tr,_,rfl,SqT.of Nw,rfl,_,_,rfl,_,_,rfl,_,_,rfl,_,_,rfl,_,_,rfl,rfl,rfl,?_⟩;generalize upd Hc T0 (.tup [V.int i,V.ref tr])=H2 at dT ⊢;clear dt nT iP Nw cx
   have bad:∀ {Hd:Hp},Same H Hd->cH ps sa s=false->∀ t,Hd t=none->Q (.ref t) (upd Hd t (.tup [.ref fo,.int i])):=fun {Hd} sd hf t ht=>by
    have eu:un ps ss=some i:=xK hh hi (by rw [<- hH];exact hf);refine q t fo _ (sd.updR ht) (by rw [aa,eu];rfl) fun z=>?_;rw [eu] at z;cases z
   have Nx:=holds_iff (ps:=ps) (sa:=sa) ea eb ec ed ee
   have hZ:¬ ((dom ps n y/\(0<=a/\a < 8)/\(0<=b/\b < 8)/\a≠b/\(1<=k/\k<=99))/\∀ z,dom ps n z->y<=z->k<=(hl ps sa n z).getD a.toNat 0)->cH ps sa s=false:=fun h=>by
    cases z:cH ps sa s with
    | false=>rfl
    | true=>exact absurd (Nx.mp z) h
   refine aC ?_;refine ⟨_,rfl,_,rfl,rfl,_,rfl,?_⟩;by_cases ES:a=b
   ·rw [zAt (by rw [ES])];exact bQ (bQ ⟨_,rfl,_,rfl,zL,fun t ht=>bad dT.sm (hZ fun h=>h.1.2.2.2.1 ES) t ht⟩)
   rw [zAz (fun z=>ES (by injection z))];refine bB ⟨_,rfl,_,rfl,_,_,rfl,_,_,rfl,rfl,_,rfl,?_⟩;by_cases mh:(if b < a then b else a) < 0
   ·rw [zAt mh];refine bQ (bQ ⟨_,rfl,_,rfl,zL,fun t ht=>bad dT.sm (hZ fun h=>?_) t ht⟩);have:=h.1.2.1;have:=h.1.2.2.1;split at mh <;> lia
   rw [zAz mh];refine bB ⟨_,rfl,_,rfl,_,_,rfl,_,_,rfl,rfl,_,rfl,?_⟩;by_cases fN:(if b > a then b else a) > 7
   ·rw [zAt fN];refine bQ (bQ ⟨_,rfl,_,rfl,zL,fun t ht=>bad dT.sm (hZ fun h=>?_) t ht⟩);have:=h.1.2.1;have:=h.1.2.2.1;split at fN <;> lia
   rw [zAz fN];have ha:0<=a/\a < 8:=by split at mh <;> split at fN <;> lia
   have hb:0<=b/\b < 8:=by split at mh <;> split at fN <;> lia
   refine bB ⟨_,rfl,_,rfl,zL,fun tk mN=>?_⟩;have dK:=dT.same (Same.upd (o:=.tup [V.int n,V.int y]) mN);refine ⟨_,rfl,fo,_,rfl,DGet.t (k:=ky n y) dK.e aa,_,rfl,?_⟩;generalize upd H2 tk (.tup [V.int n,V.int y])=H3 at dK ⊢;by_cases hd:¬ dom ps n y
   ·rw [dK.no n y hd];exact bQ ⟨_,rfl,_,rfl,zL,fun t ht=>bad dK.sm (hZ fun h=>hd h.1.1) t ht⟩
   have hd:=Classical.not_not.mp hd;obtain ⟨d1,v1,_⟩:=dK.g n y hd;rw [v1];refine bB (dD ?_);dsimp only;clear v1 dT mN;refine aC ?_;refine ⟨fo,kvs0,dK.e,fun ob=>?_⟩;have ez:=aa (H:=H3) (a:=fo) (o:=.frz ob (.dT kvs0))
   have kz:∀ b u,b≠fo->H3 b=some u->upd H3 fo (.frz ob (.dT kvs0)) b=some u:=fun b u n e=>by
    rw [az n];exact e
   generalize upd H3 fo (.frz ob (.dT kvs0))=Hz at ez kz ⊢;refine ⟨_,rfl,fo,ob,_,rfl,ez,eQ kvs0.length (fun j ys σ Hd=>Same Hz Hd/\(∃ o1 o2,σ=[o1,o2,some (.int n),some (.int y)])/\ys=((kvs0.take j).filterMap (yk n y)).map V.int) ⟨Same.refl _,⟨_,_,rfl⟩,rfl⟩ (by rw [sizeLine_eq];lia) ?_ ?_⟩
   ·rintro j ys σ Hd hj hy ⟨sd,⟨o1,o2,rfl⟩,rfl⟩;refine ⟨⟨sd _ _ ez,hj⟩,fun x H' yv R hR=>?_⟩;obtain ⟨rfl,bb,kk,vv,rfl,Cc,pd⟩:=yv;obtain ⟨n',z',rfl,wa⟩:=dK.kk kk (zA5.mpr ⟨(kk,vv),zB7 Cc,rfl⟩);have pd:H' bb=some (.tup [.int n',.int z']):=pd
    have Km:(kvs0.take (j+1)).filterMap (yk n y)=(kvs0.take j).filterMap (yk n y)++(if n'=n/\y<=z' then [z'] else []):=by
     rw [zAj,Cc,List.filterMap_append];congr 1;have e0:yk n y (ky n' z',vv)=if n'=n/\y<=z' then some z' else none:=rfl;show [(ky n' z',vv)].filterMap (yk n y)=_;rw [List.filterMap_cons,e0];by_cases hc:n'=n/\y<=z'
     ·rw [zAx hc,zAx hc];rfl
     ·rw [zAw hc,zAw hc];rfl
    refine ⟨bb,_,rfl,SqT.of pd,rfl,_,_,rfl,_,_,rfl,rfl,?_⟩;refine ⟨_,rfl,_,rfl,rfl,_,rfl,?_⟩;by_cases h1:n'=n
    ·rw [zAt (by rw [h1])];refine bQ ⟨_,rfl,_,rfl,_,_,rfl,rfl,_,rfl,?_⟩;by_cases h2:z' ≥ y
     ·rw [zAt h2];refine bQ ⟨_,rfl,hR _ _ _ (by rw [zA2];show _+1<=j+1;lia) ⟨sd,⟨_,_,rfl⟩,?_⟩⟩;rw [Km,zAx ⟨h1,h2⟩,zA4];rfl
     ·rw [zAz h2];refine bB (hR _ _ _ (by lia) ⟨sd,⟨_,_,rfl⟩,?_⟩);rw [Km,zAw (fun w=>h2 w.2),zAn]
    ·rw [zAz (fun z=>h1 (by injection z))];refine bB (bB (hR _ _ _ (by lia) ⟨sd,⟨_,_,rfl⟩,?_⟩));rw [Km,zAw (fun w=>h1 w.1),zAn]
   rintro ys σ Hd hy ⟨sd,_,rfl⟩;rw [zAm];refine ⟨⟨sd _ _ ez,zA3 _⟩,fun Ly pe=>⟨Same.upd pe _ _ (sd _ _ ez),?_⟩⟩
   obtain ⟨zs,Cf⟩:∃ zs,zs=kvs0.filterMap (yk n y):=⟨_,rfl⟩
   have wb:∀ z,z∈zs↔dom ps n z/\y<=z:=fun z=>by
    rw [Cf,List.mem_filterMap];constructor
    ·rintro ⟨⟨kk,vv⟩,hp,e⟩;obtain ⟨n',z',rfl,wa⟩:=dK.kk kk (zA5.mpr ⟨_,hp,rfl⟩);have e:(if n'=n/\y<=z' then some z' else none)=some z:=e;by_cases hc:n'=n/\y<=z'
     ·rw [zAx hc] at e;cases e;obtain ⟨rfl,h2⟩:=hc;exact ⟨wa,h2⟩
     ·rw [zAw hc] at e;cases e
    ·rintro ⟨h1,h2⟩;obtain ⟨d,v,_⟩:=dK.g n z h1
     have:(ky n z)∈kvs0.map (·.1):=by
      have hs:(d9 kvs0 (ky n z)).isSome=true:=by rw [v];rfl
      rw [<- eG,List.any_eq_true] at hs;obtain ⟨p,hp,e⟩:=hs;exact zA5.mpr ⟨p,hp,zB5 e⟩
     obtain ⟨p,hp,e⟩:=zA5.mp this;refine ⟨p,hp,?_⟩;unfold yk;rw [show p.1=ky n z from e];show (if n=n/\y<=z then some z else none)=some z;rw [zAx ⟨rfl,h2⟩]
   have QE:zs.Nodup:=by
    rw [Cf]
    have:∀ {l:List (List Key×V)},(l.map (·.1)).Nodup->(∀ k∈l.map (·.1),∃ n y,k=ky n y)->(l.filterMap (yk n y)).Nodup:=fun {l}=>by
     induction l with
     | nil=>exact fun _ _=>List.nodup_nil
     | cons p l ih =>
      intro nd kk;rw [zAk,List.nodup_cons] at nd
      have i1:=ih nd.2 fun k hk=>kk k (zA5.mpr (by
       obtain ⟨q,hq,e⟩:=zA5.mp hk
       exact ⟨q,.tail _ hq,e⟩))
      rw [List.filterMap_cons];obtain ⟨n',z',e'⟩:=kk p.1 (zA5.mpr ⟨p,.head _,rfl⟩)
      cases e:yk n y p with
      | none=>exact i1
      | some z =>
       refine List.nodup_cons.mpr ⟨fun hm=>?_,i1⟩;obtain ⟨q,hq,eq⟩:=List.mem_filterMap.mp hm;obtain ⟨n2,z2,e2⟩:=kk q.1 (zA5.mpr ⟨q,.tail _ hq,rfl⟩)
       have key:∀ {r:List Key×V} {n3 z3 z:Int},r.1=ky n3 z3->yk n y r=some z->n3=n/\z3=z:=fun {r n3 z3 z} h1 h2=>by
        unfold yk at h2;rw [h1] at h2;have h2:(if n3=n/\y<=z3 then some z3 else none)=some z:=h2;by_cases hc:n3=n/\y<=z3
        ·rw [zAx hc] at h2;cases h2;exact ⟨hc.1,rfl⟩
        ·rw [zAw hc] at h2;cases h2
       obtain ⟨w1,w2⟩:=key e' e;obtain ⟨w3,w4⟩:=key e2 eq;exact nd.1 (zA5.mpr ⟨q,hq,by show q.1=p.1;rw [e',e2,w1,w2,w3,w4]⟩)
    exact this dK.kd fun k hk=>by
     obtain ⟨n,y,a,_⟩:=dK.kk k hk;exact ⟨n,y,a⟩
   have Wn:zs.length<=200:=by
    rw [Cf];have:=List.length_filterMap_le (yk n y) kvs0;lia
   rw [<- Cf]
   have nD:Ly≠fo:=fun z=>by rw [z,sd _ _ ez] at pe;cases pe
   have S6:Same H3 (upd (upd Hd Ly (.lst (zs.map V.int))) fo (.dT kvs0)):=fun b u e=>by
    by_cases y7:b=fo
    ·subst y7;rw [dK.e] at e;cases e;exact aa
    ·rw [az y7];exact Same.upd pe _ _ (sd _ _ (kz _ _ y7 e))
   have wc:upd (upd Hd Ly (.lst (zs.map V.int))) fo (.dT kvs0) Ly=some (.lst (zs.map V.int)):=by rw [az nD];exact aa
   have d6:=dK.same S6
   have QF:H Ly=none:=by
    cases z:H Ly with
    | none=>rfl
    | some o =>
     by_cases y7:Ly=fo
     ·exact absurd y7 nD
     ·rw [sd _ _ (kz _ _ y7 (dK.sm _ _ z))] at pe;cases pe
   have Kn:∀ m z d,d9 kvs0 (ky m z)=some (.ref d)->d≠Ly:=fun m z d hv w=>by
    by_cases hm:dom ps m z
    ·obtain ⟨d',q1,q2⟩:=dK.g m z hm;rw [hv] at q1;cases q1;rw [w] at q2;rw [sd _ _ (kz _ _ nD q2)] at pe;cases pe
    ·rw [dK.no m z hm] at hv;cases hv
   generalize upd (upd Hd Ly (.lst (zs.map V.int))) fo (.dT kvs0)=H6 at S6 wc d6 ⊢;clear S6 dK pe sd ez kz hy Cf;dsimp only;refine aC (aW ?_);refine ⟨_,rfl,Ly,rfl,⟨_,SqL.of wc⟩,comp_gen zs.length (fun j ys σ Hc=>Same H6 Hc/\(∃ o1,σ=[o1,some (.ref fo),some (.int n),some (.int a)])/\ys=(((zs.take j).map fun z=>(hl ps sa n z).getD a.toNat 0):List Int).map V.int) ⟨Same.refl _,⟨_,rfl⟩,rfl⟩ (by rw [sizeLine_eq];lia) ?_ ?_⟩
   ·rintro j ys σ Hc hj hy ⟨sc,⟨o1,rfl⟩,rfl⟩;have ex:(zs.map V.int)[j]?=some (.int zs[j]):=by rw [zAb,zA0 hj];rfl
    refine ⟨⟨_,_,SqL.of (sc _ _ wc),ex⟩,fun v H' y' R hR=>?_⟩;obtain ⟨rfl,y'⟩:=y';have hv:=y' _ (SqL.of (sc _ _ wc));rw [ex] at hv;cases hv;refine aH ?_;obtain ⟨wa,_⟩:=(wb zs[j]).mp (zAh hj);obtain ⟨d,v1,v2⟩:=(d6.same sc).g n zs[j] wa;refine ⟨_,rfl,_,rfl,_,rfl,zL,fun tk mN=>?_⟩;have u:=Same.upd (o:=.tup [V.int n,V.int zs[j]]) mN
    have gg:atI ((hl ps sa n zs[j]).map V.int) a=some (.int ((hl ps sa n zs[j]).getD a.toNat 0)):=by
     have EI:=Cv ps sa n zs[j]
     have:((hl ps sa n zs[j]).map V.int)[a.toNat]?=some (.int ((hl ps sa n zs[j]).getD a.toNat 0)):=by
      rw [zAb,zA7,zA0 (by lia)];rfl
     have:=cY this;rw [show ((a.toNat:Nat):Int)=a by lia] at this;exact this
    refine ⟨fo,.ref d,rfl,v1 ▸ DGet.t (k:=ky n zs[j]) (u _ _ (sc _ _ d6.e)) aa,_,rfl,d,_,a,_,rfl,rfl,SqL.of (u _ _ v2),gg,hR _ _ _ ⟨sc.updR mN,⟨_,rfl⟩,?_⟩⟩;rw [zAj,zA0 hj,zA4,zA4];rfl
   rintro ys σ Hc hy ⟨sc,_,rfl⟩;rw [zAm];refine ⟨⟨_,SqL.of (sc _ _ wc),by rw [zA1];exact zA3 _⟩,fun D hD=>⟨D,_,rfl,SqL.of aa,?_,fun M hM QG=>aH ?_⟩⟩
   ·have:=(wb y).mpr ⟨hd,Int.le_refl _⟩;intro z;rw [List.map_eq_nil_iff] at z;rw [z] at this;cases this
   have d7:=(d6.same sc).same (Same.upd (o:=.lst (((zs.map fun z=>(hl ps sa n z).getD a.toNat 0):List Int).map V.int)) hD);have we:=Same.upd (o:=.lst (((zs.map fun z=>(hl ps sa n z).getD a.toNat 0):List Int).map V.int)) hD _ _ (sc _ _ wc);generalize upd Hc D (.lst (((zs.map fun z=>(hl ps sa n z).getD a.toNat 0):List Int).map V.int))=H7 at d7 we ⊢;clear d6 sc hD wc hy;dsimp only;refine aC ?_;refine cT (p:=fun i j=>decide (i<=j)) (q:=fun i j=>decide (i<=j)) (i:=1) (j:=k) (k:=99) il (gh rfl) il _ ⟨_,rfl,?_⟩;dsimp only
   cases ek:(decide (1<=k) && decide (k<=99)) with
   | false =>
    refine bQ (bQ ⟨_,rfl,_,rfl,zL,fun t ht=>bad d7.sm (hZ fun h=>?_) t ht⟩);rw [zAt h.1.2.2.2.2.1,zAt h.1.2.2.2.2.2] at ek;cases ek
   | true =>
   obtain ⟨k1,k2⟩:=Bool.and_eq_true_iff.mp ek;have k1:=zB5 k1;have k2:=zB5 k2;refine bB ⟨_,rfl,_,rfl,_,_,rfl,rfl,_,rfl,?_⟩;by_cases Ny:M < k
   ·rw [zAt Ny];refine bQ ⟨_,rfl,_,rfl,zL,fun t ht=>bad d7.sm (hZ fun h=>?_) t ht⟩;obtain ⟨z,hz,rfl⟩:=zA5.mp hM;have:=h.2 z ((wb z).mp hz).1 ((wb z).mp hz).2;lia
   rw [decide_eq_false Ny];refine bB (dD ?_);dsimp only
   have good:cH ps sa s=true:=Nx.mpr ⟨⟨hd,ha,hb,ES,k1,k2⟩,fun z h1 h2=>by
    have:=QG _ (zA5.mpr ⟨z,(wb z).mpr ⟨h1,h2⟩,rfl⟩)
    lia⟩
   clear bad hZ
   have Wo:∀ (j:Nat),∃ fm:Int->Int->List Int,fm=fun n' z'=>if n'=n/\z'∈zs.take j then hstep n z' (hl ps sa n z') s else hl ps sa n' z':=fun j=>⟨_,rfl⟩
   refine ⟨_,rfl,Ly,rfl,⟨_,SqL.of we⟩,?_⟩;refine fU (xs:=zs.map V.int) (fun j σ Hd=>∃ fe,σ=[some (.ref ap),some (.ref ae),some (.ref fo),some (.int n),x4,x5,x6,x7,some (.int k),x9,some (.int y),some (.int i),some (.int a),some (.int b),some (.ref Ly),some (.int M),fe]/\Lts fo H Hd (dom ps) (fun n' z'=>if n'=n/\z'∈zs.take j then hstep n z' (hl ps sa n z') s else hl ps sa n' z') kvs0/\Hd Ly=some (.lst (zs.map V.int))) ?_ ?_ ?_ ?_
   ·refine ⟨_,rfl,d7.cast fun n' z' _=>?_,we⟩;rw [List.take_zero,zAw (fun w=>by cases w.2)]
   ·rintro j σ Hd hj ⟨fe,rfl,dj,eL⟩;exact SqL.of eL
   ·rintro j v σ Hd hv ⟨fe,rfl,dj,eL⟩
    have hj:j < zs.length:=by
     have:=(zAa.mp hv).1;rw [zA1] at this;exact this
    have ev:v=.int zs[j]:=by
     rw [zAb,zA0 hj] at hv;exact (zAl hv).symm
    subst ev;obtain ⟨wa,Nz⟩:=(wb zs[j]).mp (zAh hj)
    have NA:¬ (zs[j]∈zs.take j):=fun hm=>by
     obtain ⟨j',mT,e⟩:=List.getElem_of_mem hm;rw [zAd] at mT;rw [List.getElem_take] at e;exact List.pairwise_iff_getElem.mp QE j' j (by lia) hj (by lia) e
    generalize hz:zs[j]=z at wa Nz NA ⊢
    obtain ⟨L,Ko⟩:∃ L,L=hl ps sa n z:=⟨_,rfl⟩
    have l8:L.length=8:=by rw [Ko];exact Cv _ _ _ _
    obtain ⟨d,v1,v2⟩:=dj.g n z wa;rw [zAw (fun w=>NA w.2),<- Ko] at v2;have NB:=Kn n z d v1
    have yy:∀ {c:Int} {L:List Int},L.length=8->0<=c/\c < 8->ixN (L.map V.int).length c=some c.toNat/\atI (L.map V.int) c=some (.int (L.getD c.toNat 0)):=fun {c L} l8 hc=>by
     refine ⟨?_,?_⟩
     ·unfold ixN;rw [zA1,l8,zAx hc.1,zAx (by lia)]
     ·have:(L.map V.int)[c.toNat]?=some (.int (L.getD c.toNat 0)):=by
       rw [zAb,zA7,zA0 (by lia)];rfl
      have:=cY this;rw [show ((c.toNat:Nat):Int)=c by lia] at this;exact this
    refine aH ?_;refine pU fun De Cb=>?_;refine aC (aW ?_);refine ⟨_,rfl,_,rfl,_,rfl,zL,fun t1 h1=>?_⟩;have w1:=Same.upd (o:=.tup [V.int n,V.int z]) h1;refine ⟨fo,.ref d,rfl,v1 ▸ DGet.t (k:=ky n z) (w1 _ _ dj.e) aa,_,rfl,d,_,a,_,rfl,rfl,SqL.of (w1 _ _ v2),(yy l8 ha).2,_,rfl,_,_,rfl,rfl,?_⟩;have d1:=dj.same w1;have Kp:=w1 _ _ v2;have Kq:=w1 _ _ eL;generalize upd Hd t1 (.tup [V.int n,V.int z])=Ha at d1 Kp Kq ⊢;refine ⟨_,rfl,_,rfl,_,rfl,zL,fun t2 h2=>?_⟩;have w2:=Same.upd (o:=.tup [V.int n,V.int z]) h2;refine ⟨fo,.ref d,rfl,v1 ▸ DGet.t (k:=ky n z) (w2 _ _ d1.e) aa,_,rfl,d,_,a,_,rfl,rfl,w2 _ _ Kp,(yy l8 ha).1,?_⟩;have d2:=d1.same w2;have Kr:=w2 _ _ Kq;generalize upd Ha t2 (.tup [V.int n,V.int z])=Hb at d2 Kr ⊢;rw [show (L.map V.int).set a.toNat (.int (L.getD a.toNat 0 - k))=(dN L a (-k)).map V.int by unfold dN;rw [List.map_set];rfl]
    obtain ⟨L1,wm⟩:∃ L1,L1=dN L a (-k):=⟨_,rfl⟩
    rw [<- wm];have NC:L1.length=8:=by rw [wm,gJ];exact l8
    have d3:=d2.wr (f':=fun n' z'=>if n'=n/\z'=z then L1 else if n'=n/\z'∈zs.take j then hstep n z' (hl ps sa n z') s else hl ps sa n' z') (L:=L1) v1 (by rw [zAx ⟨rfl,rfl⟩]) fun n' z' _ fA=>by rw [zAw fA]
    have e3:=aa (H:=Hb) (a:=d) (o:=.lst (L1.map V.int));have ND:upd Hb d (.lst (L1.map V.int)) Ly=some (.lst (zs.map V.int)):=by rw [az NB.symm];exact Kr
    generalize upd Hb d (.lst (L1.map V.int))=Hc at d3 e3 ND ⊢;clear d1 d2 Kp Kq Kr w1 w2 h1 h2 dj v2 eL;dsimp only;refine aW ?_;refine ⟨_,rfl,_,rfl,_,rfl,zL,fun t1 h1=>?_⟩;have w1:=Same.upd (o:=.tup [V.int n,V.int z]) h1;refine ⟨fo,.ref d,rfl,v1 ▸ DGet.t (k:=ky n z) (w1 _ _ d3.e) aa,_,rfl,d,_,b,_,rfl,rfl,SqL.of (w1 _ _ e3),(yy NC hb).2,_,rfl,_,_,rfl,rfl,?_⟩;have d4:=d3.same w1;have e4:=w1 _ _ e3;have NF:=w1 _ _ ND;generalize upd Hc t1 (.tup [V.int n,V.int z])=Ha at d4 e4 NF ⊢;refine ⟨_,rfl,_,rfl,_,rfl,zL,fun t2 h2=>?_⟩;have w2:=Same.upd (o:=.tup [V.int n,V.int z]) h2;refine ⟨fo,.ref d,rfl,v1 ▸ DGet.t (k:=ky n z) (w2 _ _ d4.e) aa,_,rfl,d,_,b,_,rfl,rfl,w2 _ _ e4,(yy NC hb).1,?_⟩;have d5:=d4.same w2;have NG:=w2 _ _ NF;generalize upd Ha t2 (.tup [V.int n,V.int z])=Hb at d5 NG ⊢;rw [show (L1.map V.int).set b.toNat (.int (L1.getD b.toNat 0+k))=(dN L1 b k).map V.int by unfold dN;rw [List.map_set]]
    have hs:hstep n z L s=dN L1 b k:=by
     unfold hstep;rw [ea,eb,ec,ed,ee,zAx ⟨rfl,Nz⟩,wm]
    refine Cb _ _ ⟨_,rfl,d5.wr (L:=dN L1 b k) v1 ?_ fun n' z' _ fA=>?_,by rw [az NB.symm];exact NG⟩
    ·rw [zAx ⟨rfl,by rw [zAj,zA0 hj,hz];exact zA6.mpr (.inr (.head _))⟩,<- hs,Ko]
    ·rw [zAw fA]
     have:(n'=n/\z'∈zs.take (j+1))↔(n'=n/\z'∈zs.take j):=by
      rw [zAj,zA0 hj,hz];constructor
      ·rintro ⟨g1,g2⟩;refine ⟨g1,?_⟩;rcases zA6.mp g2 with w | w
       ·exact w
       ·exact absurd ⟨g1,List.mem_singleton.mp w⟩ fA
      ·rintro ⟨g1,g2⟩;exact ⟨g1,zA6.mpr (.inl g2)⟩
     by_cases hc:n'=n/\z'∈zs.take j
     ·rw [zAx hc,zAx (this.mpr hc)]
     ·rw [zAw hc,zAw fun w=>hc (this.mp w)]
   ·rintro σ Hd ⟨fe,rfl,dj,eL⟩;rw [zA1,zAm] at dj;refine ⟨_,_,_,_,_,_,_,_,_,_,_,_,_,_,rfl,dj.cast fun n' z' DZ=>?_,fun j' mT=>?_⟩
    ·rw [bq,Fb DZ];by_cases hc:n'=n/\z'∈zs
     ·obtain ⟨rfl,hc⟩:=hc;rw [zAx ⟨rfl,hc⟩]
     ·rw [zAw hc];unfold hstep;rw [ea,ee,zAw fun w=>hc ⟨w.1.symm,(wb z').mpr ⟨by rw [w.1];exact DZ,w.2⟩⟩]
    ·by_cases ax:j' < i
     ·exact hh j' ax
     ·have:j'=i:=by lia
      rw [this,<- hH];exact good
  rintro σ Hc ⟨x3,x4,x5,x6,x7,x8,x9,bX,bP,bS,bg,aS,cm,fe,rfl,dt,hh⟩;have hu:un ps ss=none:=xM fun j hj=>hh j (by rw [rs.l];exact hj);dsimp only;refine ⟨_,rfl,zL,fun t ht=>?_⟩
  refine q t fo _ (dt.sm.updR ht) (by rw [aa,hu];rfl) fun _=>⟨kvs0,?_⟩
  have:=dt.same (Same.upd (o:=.tup [V.ref fo,V.non]) ht);rw [rs.l,zAm] at this;exact this
end K61
namespace K61Q
open PySem L2 K61P
def okC (r:List Int):Prop:=r.length=3/\∀ x∈r,0<=x/\x < 1000
def smR (s:List Int):Prop:=s.length=5/\∀ i∈s,-10<=i/\i<=2000000
inductive SpClipsI (vs:List V)(H:Hp)(Q:VK):Prop
 | mk:∀ st n,(vs=[.ref st,.int n])->(StAt H st)->(1<=n)->(n<=20)->(∀ ac xc cs H',Dr st H H'->K61.RowsAt H' ac xc cs->1<=cs.length->(cs.length:Int)<=n->(∀ r∈cs,okC r)->Q (.ref ac) H')->SpClipsI  vs H Q
def xV:Sp:=fun vs H Q _=>SpClipsI  vs H Q
inductive SpPromI (vs:List V)(H:Hp)(Q:VK):Prop
 | mk:∀ st y,(vs=[.ref st,.int y])->(StAt H st)->(0<=y)->(y<=1000)->(∀ t r H',Dr st H H'->H' t=some (.tup (r.map V.int))->K61.okP r->Q (.ref t) H')->SpPromI  vs H Q
def Cw:Sp:=fun vs H Q _=>SpPromI  vs H Q
inductive SpSaleI (vs:List V)(H:Hp)(Q:VK):Prop
 | mk:∀ st ap xp ps,(vs=[.ref st,.ref ap])->(StAt H st)->(K61.RowsAt H ap xp ps)->(ps.length<=10)->((∀ r∈ps,K61.okP r))->(∀ t s H',Dr st H H'->H' t=some (.tup (s.map V.int))->smR s->Q (.ref t) H')->SpSaleI  vs H Q
def Cy:Sp:=fun vs H Q _=>SpSaleI  vs H Q
inductive SpBookI (vs:List V)(H:Hp)(Q:VK):Prop
 | mk:∀ (st:Addr) (y m:Int),(vs=[.ref st,.int y,.int m])->(StAt H st)->(1<=y)->(y<=20)->(0<=m)->(m<=10)->(∀ a ac xc cs ap xp ps ae xs ss H',Dr st H H'->H' a=some (.tup [.ref ac,.ref ap,.ref ae])->K61.RowsAt H' ac xc cs->1<=cs.length->(cs.length:Int)<=y->(∀ r∈cs,okC r)->K61.RowsAt H' ap xp ps->(ps.length:Int)<=m->(∀ r∈ps,K61.okP r)->K61.RowsAt H' ae xs ss->ss.length<=6->(∀ s∈ss,smR s)->K61.un ps ss=none->Q (.ref a) H')->SpBookI  vs H Q
def spBook:Sp:=fun vs H Q _=>SpBookI  vs H Q
theorem _root_.K61P.Dr.new {st p:Addr}{o:HO}{H H1:Hp}(g:Dr st H H1)(hp:H1 p=none):Dr st H (upd H1 p o):=g.same (Same.upd hp)
theorem _root_.K61P.Dr.rows {st a:Addr}{H H':Hp}{xs:List V}{rs:List (List Int)}(g:Dr st H H')(h0:StAt H st)(r:K61.RowsAt H a xs rs):K61.RowsAt H' a xs rs:=r.keep (g.tups h0)
theorem iZ {X:Cx}{i j k:Int}{a b c p q r pos}:BE X (.List [.Constant (.int i) a p,.Constant (.int j) b q,.Constant (.int k) c r] pos) (Dy (FN [i,j,k])):=⟨cX (mL (.cons (.cons (.cons .nil))))⟩
section
variable {P:Program}{w:World}{K:Frag}{mg:Str->Option Value}{base:Heap}{f:Addr}{fd:FuncData}
theorem ndC:(["_law_year","_law_state_here","_law_wide"]:List Str).Nodup:=by decide +kernel
theorem scC:FnScope ["_law_state_here","_law_most","_law_wide","_law_many"] ["_law_state_here","_law_most"] (aG (top 75)):=fS
theorem ok_clips (F:Fun K "_law_clips" "_law_clips" (top 75) f fd)(T:Mg mg)(Tr:mg "range" = none)(c1:Cal P w K mg base 1 "_law_choice" ["_law_state_here","_law_many"] spChoice):FnOk P w K mg base CX0 2 f fd ["_law_state_here","_law_most"] xV:=by
 refine F.ok scC (fun vs H Q E h=>?_) (fun ar A outer s H vs Q E hr h=>?_)
 ·obtain ⟨st,n,rfl,_⟩:=h;rfl
 ·obtain ⟨st,n,rfl,gL,n0,n1,q⟩:=h
  refine ok_b (aJ (vq (i:=2) scC.nd rfl (Or.inr rfl) (Ax bL (rQ (eO iZ (eO iZ (eO iZ (eO iZ (eO iZ f9)))))) ⟨aF c1 hr (aq (pv 0) (aq aA aj))⟩ (fun _ _=>rfl)))
   (aJ ⟨pss 3 scC.nd (aU bZ aA (aF c1 hr (aq (pv 0) (aq (pv 1) aj))))⟩
   (bT ⟨aR (bM bF rfl T.tuple boot_tuple (aq (bC ["_law_year","_law_state_here","_law_wide"] [none,some 0,some 2] rfl (cD rfl Tr (aq (pv 3) aj))
    (fun C fp pins s₂ H₂=>⟨pgn 0 ndC,bu,bM (call_tuple_ofK (K:=K) rfl) rfl T.tuple boot_tuple (aq
     (bC ["_law_one","_law_state_here"] [none,some 1] rfl (BJ (K:=K) rfl (pv 2)) (fun C fp pins s₂ H₂=>⟨bh (i:=0) (nd2 _ _ (by decide)) rfl (Or.inl rfl),bu,aF c1 hr (aq (pv 1) (aq (pv 0) aj))⟩)
      (fun C=>cI trivial) ⟨rfl,rfl,rfl,rfl⟩) aj)⟩)
    (fun C=>cI (cI trivial)) ⟨rfl,rfl,rfl,rfl⟩) aj))⟩))) ?_
  refine aC (aW ?_);refine ⟨zL,fun l1 h1=>⟨zL,fun l2 h2=>⟨zL,fun l3 h3=>⟨zL,fun l4 h4=>⟨zL,fun l5 h5=>⟨zL,fun L hL=>?_⟩⟩⟩⟩⟩⟩;have m1:=Same.upd (o:=.lst (([3,3,3]:List Int).map V.int)) h1;have m2:=Same.upd (o:=.lst (([12,30,30]:List Int).map V.int)) h2;have m3:=Same.upd (o:=.lst (([60,3,200]:List Int).map V.int)) h3;have m4:=Same.upd (o:=.lst (([1,1,1]:List Int).map V.int)) h4;have m5:=Same.upd (o:=.lst (([1000,1000,1000]:List Int).map V.int)) h5;have m6:=Same.upd (o:=.lst [V.ref l1,V.ref l2,V.ref l3,V.ref l4,V.ref l5]) hL;have f5:=m6 _ _ (aa (a:=l5) (o:=.lst (([1000,1000,1000]:List Int).map V.int)));have f4:=m6 _ _ (m5 _ _ (aa (a:=l4) (o:=.lst (([1,1,1]:List Int).map V.int))));have f3:=m6 _ _ (m5 _ _ (m4 _ _ (aa (a:=l3) (o:=.lst (([60,3,200]:List Int).map V.int)))));have f2:=m6 _ _ (m5 _ _ (m4 _ _ (m3 _ _ (aa (a:=l2) (o:=.lst (([12,30,30]:List Int).map V.int))))));have f1:=m6 _ _ (m5 _ _ (m4 _ _ (m3 _ _ (m2 _ _ (aa (a:=l1) (o:=.lst (([3,3,3]:List Int).map V.int)))))));have ms:=m1.trans (m2.trans (m3.trans (m4.trans (m5.trans m6))));have fL:upd (upd (upd (upd (upd (upd H l1 (.lst (([3,3,3]:List Int).map V.int))) l2 (.lst (([12,30,30]:List Int).map V.int))) l3 (.lst (([60,3,200]:List Int).map V.int))) l4 (.lst (([1,1,1]:List Int).map V.int))) l5 (.lst (([1000,1000,1000]:List Int).map V.int))) L (.lst [V.ref l1,V.ref l2,V.ref l3,V.ref l4,V.ref l5]) L=some (.lst [V.ref l1,V.ref l2,V.ref l3,V.ref l4,V.ref l5]):=aa
  have old:∀ b o,H b=some o->b≠l1/\b≠l2/\b≠l3/\b≠l4/\b≠l5/\b≠L:=fun b o e=>⟨au e h1,au (m1 _ _ e) h2,au (m2 _ _ (m1 _ _ e)) h3,au (m3 _ _ (m2 _ _ (m1 _ _ e))) h4,au (m4 _ _ (m3 _ _ (m2 _ _ (m1 _ _ e)))) h5,au (m5 _ _ (m4 _ _ (m3 _ _ (m2 _ _ (m1 _ _ e))))) hL⟩
  obtain ⟨a0,b0,c0,QH,_⟩:=id gL;obtain ⟨v1,v2,v3,v4,v5,v6⟩:=old _ _ QH;generalize upd (upd (upd (upd (upd (upd H l1 _) l2 _) l3 _) l4 _) l5 _) L _=H1 at f1 f2 f3 f4 f5 fL ms ⊢;clear m1 m2 m3 m4 m5 m6 h1 h2 h3 h4 h5 hL old
  have wo:StAt H1 st:=by
   obtain ⟨a,b,c,e,h⟩:=gL;exact ⟨a,b,c,ms _ _ e,h⟩
  have g1:Dr st H H1:=⟨fun b o e _=>ms _ _ e,wo⟩
  refine ⟨_,rfl,st,5,rfl,wo,by decide,by decide,fun r a b c r0 r1 a0 b0 b1=>?_⟩
  have Cn:∃ wd ws,([V.ref l1,V.ref l2,V.ref l3,V.ref l4,V.ref l5]:List V)[r.toNat]?=some (.ref wd)/\H1 wd=some (.lst ((ws:List Int).map V.int))/\wd≠st/\ws.length=3/\∀ x∈ws,1<=x/\x<=1000:=by
   have:r.toNat=0\/r.toNat=1\/r.toNat=2\/r.toNat=3\/r.toNat=4:=by lia
   rcases this with z | z | z | z | z <;> rw [z]
   ·exact ⟨l1,_,rfl,f1,v1.symm,rfl,by decide⟩
   ·exact ⟨l2,_,rfl,f2,v2.symm,rfl,by decide⟩
   ·exact ⟨l3,_,rfl,f3,v3.symm,rfl,by decide⟩
   ·exact ⟨l4,_,rfl,f4,v4.symm,rfl,by decide⟩
   ·exact ⟨l5,_,rfl,f5,v5.symm,rfl,by decide⟩
  obtain ⟨wd,ws,ei,NH,Co,QI,bws⟩:=Cn;have g2:Dr st H (upd H1 st (.lst [.int a,.int b,.int c])):=g1.draw a0 b0 b1;refine ⟨L,_,r,.ref wd,rfl,rfl,SqL.of (by rw [az v6.symm];exact fL),?_,?_⟩
  ·have:=cY ei;rw [show ((r.toNat:Nat):Int)=r by lia] at this;exact this
  have wq:upd H1 st (.lst [.int a,.int b,.int c]) wd=some (.lst (ws.map V.int)):=by
   rw [az Co];exact NH
  generalize upd H1 st (.lst [.int a,.int b,.int c])=H2 at g2 wq ⊢;clear f1 f2 f3 f4 f5 fL ms g1 wo NH ei;refine aH ?_;dsimp only;refine aC ?_;refine ⟨_,rfl,_,rfl,st,n,rfl,g2.sa,n0,by lia,fun m a b c m0 m1 a0 b0 b1=>⟨_,_,rfl,rfl,?_⟩⟩;have g3:=g2.draw (c:=c) a0 b0 b1
  have Cs:upd H2 st (.lst [.int a,.int b,.int c]) wd=some (.lst (ws.map V.int)):=by
   rw [az Co];exact wq
  generalize upd H2 st (.lst [.int a,.int b,.int c])=H3 at g3 Cs ⊢;clear g2 wq;dsimp only;refine iU ?_;refine ⟨_,rfl,1+m,rfl,by lia,by lia,?_⟩
  have lz:(1+m).toNat < sizeLine:=by
   rw [sizeLine_eq];lia
  refine comp_gen (1+m).toNat (fun i ys σ Hc=>Dr st H3 Hc/\(∃ o,σ=[o,some (.ref st),some (.ref wd)])/\∃ rows:List (List Int),rows.length=i/\(∀ r∈rows,okC r)/\IsThs (fun _=>False) Hc ys (rows.map K61.rowD)) ⟨Dr.refl g3.sa,⟨_,rfl⟩,[],rfl,fun _ h=>(List.not_mem_nil h).elim,.nil⟩ lz ?_ ?_
  ·rintro i ys σ Hc hi hy ⟨g4,⟨o,rfl⟩,rows,iS,kH,it⟩;refine ⟨hi,fun v H' y R hR=>?_⟩;obtain ⟨eH,rfl⟩:=y;subst H';refine aH ?_;have wt:=g4.bt _ _ Cs Co;refine ⟨_,rfl,wd,rfl,⟨_,SqL.of wt⟩,comp_gen 3 (fun j zs σ H5=>Dr st Hc H5/\(∃ o,σ=[o,some (.ref st)])/\∃ r:List Int,r.length=j/\(∀ n∈r,0<=n/\n < 1000)/\zs=r.map V.int) ⟨Dr.refl g4.sa,⟨_,rfl⟩,[],rfl,fun _ h=>(List.not_mem_nil h).elim,rfl⟩ (by decide) ?_ ?_⟩
   ·rintro j zs σ H5 hj hz ⟨g5,⟨o,rfl⟩,r,lr,br,rfl⟩;have Ct:=g5.bt _ _ wt Co;have NI:j < ws.length:=by lia
    have ex:(ws.map V.int)[j]?=some (.int ws[j]):=by rw [zAb,zA0 NI];rfl
    refine ⟨⟨_,_,SqL.of Ct,ex⟩,fun v H' y R hR=>?_⟩;obtain ⟨eH,y⟩:=y;subst H';have hv:=y _ (SqL.of Ct);rw [ex] at hv;cases hv;have hb:=bws _ (zAh NI);refine aH ?_;refine ⟨_,rfl,_,rfl,st,_,rfl,g5.sa,hb.1,by lia,fun t a b c t0 t1 a0 b0 b1=>hR _ _ _ ⟨g5.draw a0 b0 b1,⟨_,rfl⟩,r++[t],by rw [zA2,lr];rfl,fun n hn=>?_,by rw [zA4];rfl⟩⟩;rcases zA6.mp hn with z | z
    ·exact br n z
    ·rw [List.mem_singleton.mp z];lia
   ·rintro zs σ H5 hz ⟨g5,_,r,lr,br,rfl⟩;refine ⟨⟨_,SqL.of (g5.bt _ _ wt Co),by rw [zA1,QI];exact zA3 _⟩,fun D hD=>⟨D,_,rfl,.inl ⟨SqL.of aa,fun t ht=>?_⟩⟩⟩;have s6:=(Same.upd (o:=.lst (r.map V.int)) hD).updR (o:=.tup (r.map V.int)) ht;refine hR _ _ _ ⟨(g4.trans g5).same s6,⟨_,rfl⟩,rows++[r],by rw [zA2,iS];rfl,fun x hx=>?_,?_⟩
    ·rcases zA6.mp hx with z | z
     ·exact kH x z
     ·rw [List.mem_singleton.mp z];exact ⟨lr,br⟩
    ·rw [zA4];exact ((g5.ths g4.sa it).same s6).append (.cons (.tup aa (IsThs.ints r)) .nil)
  ·rintro ys σ Hc hy ⟨g4,_,rows,iS,kH,it⟩;refine ⟨zA3 _,fun D hD=>⟨D,_,rfl,.inl ⟨SqL.of aa,fun t ht=>?_⟩⟩⟩;have s6:=(Same.upd (o:=.lst ys) hD).updR (o:=.tup ys) ht;obtain ⟨ac,xc,ev,rr⟩:=K61.th_rows (rs:=rows) (.tup aa (it.same s6));cases ev;exact q _ xc rows _ ((g3.trans g4).same s6) rr (by lia) (by lia) kH
end
section
variable {P:Program}{w:World}{K:Frag}{mg:Str->Option Value}{base:Heap}{f:Addr}{fd:FuncData}
theorem scP:FnScope ["_law_state_here","_law_years_here","_law_first","_law_last","_law_sacks","_law_price"] ["_law_state_here","_law_years_here"] (aG (top 76)):=fS
theorem ok_prom (F:Fun K "_law_promise" "_law_promise" (top 76) f fd)(Tm:mg "min" = none)(c1:Cal P w K mg base 1 "_law_choice" ["_law_state_here","_law_many"] spChoice):FnOk P w K mg base CX0 2 f fd ["_law_state_here","_law_years_here"] Cw:=by
 refine F.ok scP (fun vs H Q E h=>?_) (fun ar A outer s H vs Q E hr h=>?_)
 ·obtain ⟨st,y,rfl,_⟩:=h;rfl
 ·obtain ⟨st,y,rfl,gL,y0,y1,q⟩:=h
  refine ok_b (aJ ⟨pss 2 scP.nd (aN (fK rfl) rfl Tm qJ (aq aA (aq (aF c1 hr (aq (pv 0) (aq (aU bZ (pv 1) aA) aj))) aj)))⟩
   (aJ ⟨pss 3 scP.nd (aN (fK rfl) rfl Tm qJ (aq aA (aq (aU bZ (pv 2) (pX bL (Ed (Ec aA (Ec (aF c1 hr (aq (pv 0) (aq aA aj))) (Ec (aF c1 hr (aq (pv 0) (aq aA aj))) f9)))) (aF c1 hr (aq (pv 0) (aq aA aj))))) aj)))⟩
   (aJ ⟨uX (i:=4) (j:=5) rfl scP.nd rfl rfl (by decide) rfl rfl (aq (aU bZ aA (aF c1 hr (aq (pv 0) (aq (pX bL (cX (mL (by repeat constructor))) (aF c1 hr (aq (pv 0) (aq aA aj)))) aj)))) (aq (aF c1 hr (aq (pv 0) (aq aA aj))) aj)) rfl⟩
   (bT ⟨aR (wL (nY (eO ⟨aF c1 hr (aq (pv 0) (aq aA aj))⟩ (eO ⟨aF c1 hr (aq (pv 0) (aq aA aj))⟩ (eO ⟨pv 2⟩ (eO ⟨pv 3⟩ (eO ⟨pv 4⟩ (eO ⟨pv 5⟩ f9))))))))⟩)))) ?_
  have g0:Dr st H H:=Dr.refl gL;refine aC (aW ?_);refine ⟨_,rfl,_,rfl,_,_,rfl,rfl,st,_,rfl,gL,by lia,by lia,fun r1 a1 b1 kr Wq Wr k1 k2 k3=>⟨_,_,rfl,?_⟩⟩;have g1:=g0.draw (c:=kr) k1 k2 k3
  obtain ⟨fi,QJ,QK,Ws⟩:∃ fi:Int,fi=(if r1 < 19 then r1 else 19)/\0<=fi/\fi<=19:=⟨_,rfl,by split <;> lia,by split <;> lia⟩
  rw [<- QJ];generalize upd H st (.lst [.int a1,.int b1,.int kr])=H1 at g1 ⊢;refine aH ?_;dsimp only;refine aC (aW ?_);refine ⟨_,rfl,_,rfl,st,4,rfl,g1.sa,by decide,by decide,fun r2 a2 b2 c2 QL Wt k4 k5 k6=>⟨_,rfl,st,20,rfl,(g1.draw k4 k5 k6).sa,by decide,by decide,fun r3 a3 b3 c3 QM QN k7 k8 k9=>⟨zL,fun p hp=>?_⟩⟩⟩;have g3:=(g1.draw (c:=c2) k4 k5 k6).draw (c:=c3) k7 k8 k9;have np:=g3.ne hp;have g4:=g3.new (o:=.lst [V.int 0,V.int r2,V.int r3]) hp;have ep:upd (upd (upd H1 st (.lst [.int a2,.int b2,.int c2])) st (.lst [.int a3,.int b3,.int c3])) p (.lst [V.int 0,V.int r2,V.int r3]) p=some (.lst [V.int 0,V.int r2,V.int r3]):=aa;generalize upd (upd (upd H1 st (.lst [.int a2,.int b2,.int c2])) st (.lst [.int a3,.int b3,.int c3])) p (.lst [V.int 0,V.int r2,V.int r3])=H2 at g4 ep ⊢;refine ⟨_,rfl,st,3,rfl,g4.sa,by decide,by decide,fun r4 a4 b4 c4 QO QP k1 k2 k3=>?_⟩
  obtain ⟨d,hd,d0,d1⟩:∃ d:Int,atI [V.int 0,V.int r2,V.int r3] r4=some (.int d)/\0<=d/\d < 20:=by
   have:r4=0\/r4=1\/r4=2:=by lia
   rcases this with rfl | rfl | rfl
   ·exact ⟨_,rfl,by decide,by decide⟩
   ·exact ⟨_,rfl,QL,by lia⟩
   ·exact ⟨_,rfl,QM,QN⟩
  refine ⟨p,_,r4,.int d,rfl,rfl,SqL.of (by rw [az np];exact ep),hd,_,_,rfl,rfl,_,_,rfl,?_⟩;have g5:=g4.draw (c:=c4) k1 k2 k3
  obtain ⟨la,EK,QQ,CA⟩:∃ la:Int,la=(if fi+d < 19 then fi+d else 19)/\fi<=la/\la<=19:=⟨_,rfl,by split <;> lia,by split <;> lia⟩
  rw [<- EK];clear ep np g3;generalize upd H2 st (.lst [.int a4,.int b4,.int c4])=H3 at g5 ⊢;refine aH ?_;dsimp only;refine aC ?_;refine ⟨_,rfl,zL,fun p2 rl=>?_⟩;have QR:=g5.ne rl;have g6:=g5.new (o:=.lst (([4,12,99]:List Int).map V.int)) rl;have NJ:upd H3 p2 (.lst (([4,12,99]:List Int).map V.int)) p2=some (.lst (([4,12,99]:List Int).map V.int)):=aa;generalize upd H3 p2 (.lst (([4,12,99]:List Int).map V.int))=H4 at g6 NJ ⊢;refine ⟨_,rfl,st,3,rfl,g6.sa,by decide,by decide,fun r5 a5 b5 c5 Wu Wv k4 k5 k6=>?_⟩
  obtain ⟨wd,hw,w1,w2⟩:∃ wd:Int,atI (([4,12,99]:List Int).map V.int) r5=some (.int wd)/\1<=wd/\wd<=99:=by
   have:r5=0\/r5=1\/r5=2:=by lia
   rcases this with rfl | rfl | rfl
   ·exact ⟨4,rfl,by decide,by decide⟩
   ·exact ⟨12,rfl,by decide,by decide⟩
   ·exact ⟨99,rfl,by decide,by decide⟩
  have g7:=g6.draw (c:=c5) k4 k5 k6;refine ⟨p2,_,r5,.int wd,rfl,rfl,SqL.of (by rw [az QR];exact NJ),hw,st,wd,rfl,g7.sa,w1,by lia,fun r6 a6 b6 c6 Ww Wx k7 k8 k9=>⟨_,_,rfl,rfl,?_⟩⟩;have g8:=g7.draw (c:=c6) k7 k8 k9;generalize upd (upd H4 st (.lst [.int a5,.int b5,.int c5])) st (.lst [.int a6,.int b6,.int c6])=H5 at g8 ⊢;refine ⟨_,rfl,st,500,rfl,g8.sa,by decide,by decide,fun r7 a7 b7 c7 QS Wy k1 k2 k3=>⟨_,_,rfl,?_⟩⟩;have g9:=g8.draw (c:=c7) k1 k2 k3;generalize upd H5 st (.lst [.int a7,.int b7,.int c7])=H6 at g9 ⊢;dsimp only;refine iU ?_;refine ⟨_,rfl,st,8,rfl,g9.sa,by decide,by decide,fun r8 a8 b8 c8 QT QU k4 k5 k6=>⟨_,rfl,st,3,rfl,(g9.draw k4 k5 k6).sa,by decide,by decide,fun r9 a9 b9 c9 QV QW k7 k8 k9=>⟨_,rfl,_,rfl,_,rfl,_,rfl,zL,fun t ht=>?_⟩⟩⟩;have ga:=((g9.draw (c:=c8) k4 k5 k6).draw (c:=c9) k7 k8 k9).new (o:=.tup [V.int r8,V.int r9,V.int fi,V.int la,V.int (1+r6),V.int r7]) ht;exact q t [r8,r9,fi,la,1+r6,r7] _ ga aa ⟨rfl,⟨QT,QU⟩,⟨QV,QW⟩,⟨QK,QQ,CA⟩,⟨by show 1<=1+r6;lia,by show 1+r6<=99;lia⟩,⟨QS,by show r7<=1000000;lia⟩⟩
theorem scS:FnScope ["_law_state_here","_law_promises","_law_number","_law_holder","_law_sort","_law_first","_law_last","_law_sacks","_law_price","_law_seller","_law_year"] ["_law_state_here","_law_promises"] (aG (top 77)):=fS
theorem ok_sale (F:Fun K "_law_sale" "_law_sale" (top 77) f fd)(T:K61.Mg mg)(Tm:mg "max" = none)(c1:Cal P w K mg base 1 "_law_choice" ["_law_state_here","_law_many"] spChoice):FnOk P w K mg base CX0 2 f fd ["_law_state_here","_law_promises"] Cy:=by
 refine F.ok scS (fun vs H Q E h=>?_) (fun ar A outer s H vs Q E hr h=>?_)
 ·obtain ⟨st,ap,xp,ps,rfl,_⟩:=h;rfl
 ·obtain ⟨st,ap,xp,ps,rfl,gL,rp,lp,okp,q⟩:=h
  refine ⟨_,aB (pss 2 scS.nd (aF c1 hr (aq (pv 0) (aq (aN (j7 rfl) rfl Tm lJ (aq aA (aq (aN cg rfl T.len PySem.boot_len (aq (pv 1) aj)) aj))) aj))))
   (aB (cF (bj (yN (K61.room_un hr)) (pv 1) (wK f9) (bA _)) (aD (aR (bD (mL (by repeat constructor))))) bf)
   (aB (cz (pX bO (pv 1) (pv 2)) (bJ rfl (ao (pgn 3 scS.nd) (ao (pgn 4 scS.nd) (ao (pgn 5 scS.nd)
    (ao (pgn 6 scS.nd) (ao (pgn 7 scS.nd) (ao (pgn 8 scS.nd) aV))))))))
   (aB (pss 9 scS.nd (pX bL (cX (aq (pv 3) (aq (pv 3) (aq (aF c1 hr (aq (pv 0) (aq aA aj))) aj)))) (aF c1 hr (aq (pv 0) (aq aA aj)))))
   (aB (pss 10 scS.nd (aU bZ (pv 5) (aF c1 hr (aq (pv 0) (aq (aU bZ (aU cP (pv 6) (pv 5)) aA) aj)))))
   (aD (aR (wL (nY (eO ⟨pv 2⟩ (eO ⟨pv 9⟩ (eO ⟨aF c1 hr (aq (pv 0) (aq aA aj))⟩ (eO ⟨aU bZ aA (aF c1 hr (aq (pv 0) (aq (pv 7) aj)))⟩ (eO ⟨pv 10⟩ f9))))))))))))),?_⟩
  have g0:Dr st H H:=Dr.refl gL;have Wz:xp.length<=10:=by rw [rp.l];exact lp
  refine aC (aW ?_);refine ⟨_,rfl,_,rfl,ap,xp,rfl,.inr (SqT.of rp.e),_,_,rfl,st,_,rfl,gL,?_,?_,fun r1 a1 b1 kr r0 rn k1 k2 k3=>?_⟩
  ·split <;> lia
  ·split <;> lia
  have g1:=g0.draw (c:=kr) k1 k2 k3;have ET:=g1.rows gL rp;generalize upd H st (.lst [.int a1,.int b1,.int kr])=H1 at g1 ET ⊢;refine aH ?_;dsimp only;refine aC ?_;refine ⟨_,rfl,zL,fun e0 y8=>?_⟩;have g2:=g1.new (o:=.tup []) y8;have m2:=Same.upd (o:=.tup []) y8;have NK:upd H1 e0 (.tup []) e0=some (.tup []):=aa;have EU:=ET.same m2;generalize upd H1 e0 (.tup [])=H2 at g2 m2 NK EU ⊢;refine ⟨ap,e0,xp,rfl,rfl,SqT.of EU.e,SqT.of NK,_,rfl,DQ (fun hb=>?_) fun hb=>?_⟩
  ·refine ⟨zL,fun t ht=>?_⟩;exact q t [0,0,1,1,0] _ (g2.new ht) aa ⟨rfl,by decide⟩
  have px:0 < xp.length:=by
   cases xp with
   | nil=>exact absurd rfl hb
   | cons a l=>exact Nat.succ_pos _
  have WC:r1.toNat < xp.length:=by split at rn <;> lia
  dsimp only;refine aC ?_;obtain ⟨p,hp,_,op⟩:=K61.prom_ok (n:=r1) okp r0 (by rw [<- rp.l];lia);obtain ⟨tp,gg,hV⟩:=K61.rows_at EU r0 hp;rw [K61.six_row op.1] at hV;obtain ⟨_,⟨p1,p2⟩,_,⟨p3,p4,p5⟩,⟨p6,p7⟩,_⟩:=id op;refine ⟨_,rfl,_,rfl,ap,_,r1,.ref tp,rfl,rfl,SqT.of EU.e,gg,?_⟩;refine ⟨tp,_,rfl,SqT.of hV,rfl,_,_,rfl,_,_,rfl,_,_,rfl,_,_,rfl,_,_,rfl,_,_,rfl,rfl,?_⟩;dsimp only;refine aC (aW ?_);refine ⟨_,rfl,_,rfl,_,rfl,st,8,rfl,g2.sa,by decide,by decide,fun r2 a2 b2 c2 i0 i1 k4 k5 k6=>⟨zL,fun l1 dv=>?_⟩⟩;have g4:=(g2.draw (c:=c2) k4 k5 k6).new (o:=.lst [V.int (K61.fl p 0),V.int (K61.fl p 0),V.int r2]) dv;have n4:=(g2.draw k4 k5 k6).ne dv;refine ⟨_,rfl,st,3,rfl,g4.sa,by decide,by decide,fun r3 a3 b3 c3 i2 i3 k7 k8 k9=>?_⟩
  obtain ⟨sl,QX,WG,tj⟩:∃ sl:Int,atI [V.int (K61.fl p 0),V.int (K61.fl p 0),V.int r2] r3=some (.int sl)/\0<=sl/\sl < 8:=by
   have:r3=0\/r3=1\/r3=2:=by lia
   rcases this with rfl | rfl | rfl
   ·exact ⟨_,rfl,p1,p2⟩
   ·exact ⟨_,rfl,p1,p2⟩
   ·exact ⟨_,rfl,i0,i1⟩
  have g5:=g4.draw (c:=c3) k7 k8 k9;refine ⟨l1,_,r3,.int sl,rfl,rfl,SqL.of (by rw [az n4];exact aa),QX,?_⟩;refine aH ?_;dsimp only;refine aC (aW ?_);refine ⟨_,rfl,_,rfl,_,rfl,_,rfl,_,_,rfl,rfl,_,_,rfl,rfl,st,_,rfl,g5.sa,by lia,by lia,fun r5 a5 b5 c5 i6 i7 m4 m5 m6=>⟨_,_,rfl,rfl,?_⟩⟩;have g7:=g5.draw (c:=c5) m4 m5 m6;refine aH ?_;dsimp only;refine ⟨_,rfl,_,rfl,_,rfl,st,8,rfl,g7.sa,by decide,by decide,fun r4 a4 b4 c4 i4 i5 m1 NL m3=>⟨_,rfl,_,rfl,st,_,rfl,(g7.draw m1 NL m3).sa,p6,by lia,fun r6 a6 b6 c6 i8 i9 m7 m8 m9=>⟨_,_,rfl,rfl,_,rfl,zL,fun t ht=>?_⟩⟩⟩;have g8:=(g7.draw (c:=c4) m1 NL m3).draw (c:=c6) m7 m8 m9;refine q t [r1,sl,r4,1+r6,K61.fl p 2+r5] _ (g8.new ht) aa ⟨rfl,fun i hi=>?_⟩;simp only [List.mem_cons,List.not_mem_nil,or_false] at hi;lia
end
theorem op_catU {X:Cx}:OpR X (binaryOp .Add) (fun x y H Q=>∃ a b xs ys,x=.ref a/\y=.ref b/\H a=some (.tup xs)/\H b=some (.tup ys)/\ys≠[]/\xs.length+ys.length<=sizeLine/\∀ c H',Same H H'->H' c=some (.tup (xs++ys))->Q (.ref c) H'):=by
 intro pins s σ H x y v u Q I rx ry h;obtain ⟨a,b,xs,ys,rfl,rfl,ha,hb,hy,hz,q⟩:=h;refine Bb pins s σ H _ _ v u Q I rx ry ⟨a,b,xs,ys,rfl,rfl,SqT.of ha,SqT.of hb,hy,hz,fun e=>q b H (Same.refl H) (by rw [e];exact hb),fun _ p hp=>q p _ (Same.upd hp) aa⟩
theorem qQ {H:Hp}{a b t:Addr}{xs:List V}{rs:List (List Int)}{r:List Int}(h:K61.RowsAt H a xs rs)(et:H t=some (.tup (r.map V.int)))(eb:H b=some (.tup (xs++[V.ref t]))):K61.RowsAt H b (xs++[V.ref t]) (rs++[r]):=by
 refine ⟨eb,by rw [zA2,zA2,h.l];rfl,fun i r' e=>?_⟩;by_cases hi:i < rs.length
 ·rw [zBc hi] at e;rw [zBc (by rw [h.l];exact hi)];exact h.g i r' e
 ·rw [zB8 (by lia)] at e;rw [zB8 (by rw [h.l];lia),h.l]
  cases hj:i - rs.length with
  | zero =>
   rw [hj] at e;injection e with e;subst e;exact ⟨t,rfl,et⟩
  | succ k =>
   rw [hj] at e;simp at e
theorem Cz {u:Option Nat}(h:decide (K61.unV u=.non)=true):u=none:=by
 have:=zB5 h
 cases u with
 | none=>rfl
 | some n=>cases this
theorem pZ {X:Cx}{K:Frag}(hK:X.K=K):dJ X (.builtin "len") (fun xs H Q=>∃ p ys,xs=[.ref p]/\(SqL K H p ys\/SqT K H p ys)/\Q (.int ys.length) H):=by
 subst hK;exact cg
section
variable {P:Program}{w:World}{K:Frag}{mg:Str->Option Value}{base:Heap}{f:Addr}{fd:FuncData}
theorem ndB:(["_law_turn","_law_state_here","_law_clips_here"]:List Str).Nodup:=by decide +kernel
theorem scB:FnScope ["_law_state_here","_law_years_here","_law_most","_law_clips_here","_law_promises","_law_sales","_law_turn","_law_sale_here"] ["_law_state_here","_law_years_here","_law_most"] (aG (top 78)):=fS
theorem ok_book (F:Fun K "_law_book" "_law_book" (top 78) f fd)(T:Mg mg)(Tr:mg "range" = none)(Tl:mg "len" = none)(c1:Cal P w K mg base 1 "_law_choice" ["_law_state_here","_law_many"] spChoice)(c2:Cal P w K mg base 2 "_law_clips" ["_law_state_here","_law_most"] xV)(c3:Cal P w K mg base 2 "_law_promise" ["_law_state_here","_law_years_here"] Cw)(c4:Cal P w K mg base 2 "_law_sale" ["_law_state_here","_law_promises"] Cy)(c5:Cal P w K mg base 1 "_law_rows" ["_law_promises","_law_sales"] K61.spRows) :
  FnOk P w K mg base CX0 3 f fd ["_law_state_here","_law_years_here","_law_most"] spBook:=by
 refine F.ok scB (fun vs H Q E h=>?_) (fun ar A outer s H vs Q E hr h=>?_)
 ·obtain ⟨st,y,m,rfl,_⟩:=h;rfl
 ·obtain ⟨st,y,m,rfl,gL,y1,y2,m1,m2,q⟩:=h
  refine ⟨_,aB (kZ (i:=3) scB.nd rfl (Or.inr rfl) (aF c2 hr (aq (pv 0) (aq (pv 1) aj))))
   (aB (pss 4 scB.nd (bM bF rfl T.tuple boot_tuple (aq (bC ["_law_turn","_law_state_here","_law_clips_here"] [none,some 0,some 3] rfl (cD rfl Tr (aq (aF c1 hr (aq (pv 0) (aq (aU bZ (pv 2) aA) aj))) aj))
    (fun C fp pins s₂ H₂=>⟨pgn 0 ndB,bu,aF c3 hr (aq (pv 1) (aq (aN (pZ (K:=K) rfl) rfl Tl PySem.boot_len (aq (pv 2) aj)) aj))⟩)
    (fun C=>cI (cI trivial)) ⟨rfl,rfl,rfl,rfl⟩) aj)))
   (aB (pss 5 scB.nd (wK f9))
   (aB (bY zB3 rfl (cD rfl Tr (aq (aF c1 hr (aq (pv 0) (aq aA aj))) aj)) (pgn 6 scB.nd)
    (aB (pss 7 scB.nd (aF c4 hr (aq (pv 0) (aq (pv 4) aj))))
    (aD (cF (bj Ah (pX bO (aF c5 hr (aq (pv 4) (aq (aU op_catU (pv 5) (bD (aq (pv 7) aj))) aj))) aA) rm (bA _)) (aD (pss 5 scB.nd (aU op_catU (pv 5) (bD (aq (pv 7) aj))))) bf))))
   (aD (aR (bD (aq (pv 3) (aq (pv 4) (aq (pv 5) aj)))))))))  ,?_⟩
  refine aC (aW ?_);refine ⟨_,rfl,_,rfl,st,y,rfl,gL,y1,y2,fun ac xc cs H1 d1 rc sf NM okc=>?_⟩;refine aH ?_;dsimp only;refine aC (aW ?_);refine ⟨_,rfl,_,rfl,_,_,rfl,rfl,st,m+1,rfl,d1.sa,by lia,by lia,fun r a1 b1 kr k0 kn k1 k2 k3=>⟨r,rfl,by lia,by lia,?_⟩⟩;have d2:=(Dr.refl d1.sa).draw (c:=kr) k1 k2 k3;have EV:=d2.rows d1.sa rc;have Ks:=d1.trans d2;generalize upd H1 st (.lst [.int a1,.int b1,.int kr])=H2 at d2 Ks EV ⊢
  have lz:r.toNat < sizeLine:=by
   rw [sizeLine_eq];lia
  refine comp_gen r.toNat (fun i ys σ Hc=>Dr st H2 Hc/\(∃ o,σ=[o,some (.ref st),some (.ref ac)])/\∃ rows:List (List Int),rows.length=i/\(∀ r∈rows,K61.okP r)/\IsThs (fun _=>False) Hc ys (rows.map K61.rowD)) ⟨Dr.refl d2.sa,⟨_,rfl⟩,[],rfl,fun _ h=>(List.not_mem_nil h).elim,.nil⟩ lz ?_ ?_
  ·rintro i ys σ Hc hi hy ⟨g4,⟨o,rfl⟩,rows,iS,kH,it⟩;refine ⟨hi,fun v H' y R hR=>?_⟩;obtain ⟨eH,rfl⟩:=y;subst H';refine aH ?_;have QY:=g4.rows d2.sa EV;have:=rc.l;refine ⟨_,rfl,_,rfl,ac,xc,rfl,.inr (SqT.of QY.e),st,_,rfl,g4.sa,by lia,by lia,fun t NN H5 d5 et QZ=>hR _ _ _ ⟨g4.trans d5,⟨_,rfl⟩,rows++[NN],by rw [zA2,iS];rfl,fun x hx=>?_,?_⟩⟩
   ·rcases zA6.mp hx with z | z
    ·exact kH x z
    ·rw [List.mem_singleton.mp z];exact QZ
   ·rw [zA4];exact (d5.ths g4.sa it).append (.cons (.tup et (IsThs.ints NN)) .nil)
  rintro ys σ Hc hy ⟨g4,_,ps,WH,okp,it⟩;refine ⟨zA3 _,fun D hD=>⟨D,_,rfl,.inl ⟨SqL.of aa,fun t ht=>?_⟩⟩⟩;have s6:=(Same.upd (o:=.lst ys) hD).updR (o:=.tup ys) ht;obtain ⟨ap,xp,ev,rp⟩:=K61.th_rows (rs:=ps) (.tup aa (it.same s6));cases ev;have NO:=(g4.rows d2.sa EV).same s6;have NQ:=(Ks.trans g4).same s6;generalize upd (upd Hc D (.lst ys)) t (.tup ys)=H3 at rp NO NQ ⊢;clear EV d2 g4 it s6 ht hD Ks rc d1;refine aH ?_;dsimp only;refine aC (aW ?_);refine ⟨zL,fun e0 y8=>?_⟩;have d6:=NQ.new (o:=.tup []) y8
  have r6:K61.RowsAt (upd H3 e0 (.tup [])) e0 [] []:=⟨aa,rfl,fun i r e=>by simp at e⟩
  have NR:=rp.same (Same.upd (o:=.tup []) y8);have NS:=NO.same (Same.upd (o:=.tup []) y8);generalize upd H3 e0 (.tup [])=H4 at d6 r6 NR NS ⊢;refine aH ?_;dsimp only;refine aC ?_;refine ⟨_,rfl,st,7,rfl,d6.sa,by decide,by decide,fun r2 a2 b2 CB q0 qn q1 q2 q3=>⟨r2,rfl,by lia,by lia,?_⟩⟩;have d7:=(Dr.refl d6.sa).draw (c:=CB) q1 q2 q3;have NT:=d7.rows d6.sa NR;have NU:=d7.rows d6.sa NS;have r7:=d7.rows d6.sa r6;have NV:=d6.trans d7;generalize upd H4 st (.lst [.int a2,.int b2,.int CB])=H5 at NV NT NU r7 ⊢;refine di (lo:=0) (n:=r2.toNat) (fun i σ Hc=>∃ a xs ss x6 x7,σ=[some (.ref st),some (.int y),some (.int m),some (.ref ac),some (.ref t),some (.ref a),x6,x7]/\Dr st H Hc/\K61.RowsAt Hc ac xc cs/\K61.RowsAt Hc t xp ps/\K61.RowsAt Hc a xs ss/\ss.length<=i/\(∀ s∈ss,smR s)/\K61.un ps ss=none) ?_ ?_ ?_
  ·exact ⟨e0,[],[],none,none,rfl,NV,NU,NT,r7,zA3 _,(fun _ h=>nomatch h),rfl⟩
  ·rintro i σ Hc hi ⟨a,xs,ss,x6,x7,rfl,g,rcc,EW,Kt,ls,fI,ku⟩;refine aH (aC ?_);refine aW ?_;refine ⟨_,rfl,_,rfl,st,t,xp,ps,rfl,g.sa,EW,by lia,okp,fun t' s' H6 d8 et sm=>?_⟩;have NW:=d8.rows g.sa rcc;have Ku:=d8.rows g.sa EW;have y9:=d8.rows g.sa Kt;have gd:=g.trans d8;refine aH ?_;dsimp only
   have NX:∀ s∈ss++[s'],smR s:=fun s hs=>by
    rcases zA6.mp hs with z | z
    ·exact fI s z
    ·rw [List.mem_singleton.mp z];exact sm
   have l5:(ss++[s']).length<=i+1:=by rw [zA2];show ss.length+1<=_;lia
   have Bz:=y9.l;refine ⟨_,rfl,_,rfl,_,rfl,zL,fun t1 pj=>?_⟩;have m4:=Same.upd (o:=.tup [V.ref t']) pj;refine ⟨a,t1,xs,_,rfl,rfl,m4 _ _ y9.e,aa,by simp,by rw [Bz,sizeLine_eq];show _+1<=_;lia,fun c H7 s7 ec=>?_⟩;have Q0:=qQ ((y9.same m4).same s7) (s7 _ _ (m4 _ _ et)) ec;refine ⟨t,xp,ps,c,_,ss++[s'],rfl,(Ku.same m4).same s7,by lia,okp,Q0,by lia,fun s hs=>(NX s hs).1,fun tt fo H8 s8 EX _=>?_⟩;have ze:=(m4.trans s7).trans s8;refine ⟨tt,_,1,K61.unV (K61.un ps (ss++[s'])),rfl,rfl,SqT.of EX,rfl,rfl,_,rfl,DQ (fun hb=>?_) fun _=>?_⟩
   ·refine aW ?_;refine ⟨_,rfl,_,rfl,zL,fun t2 IY=>?_⟩;have m9:=Same.upd (o:=.tup [V.ref t']) IY;refine ⟨a,t2,xs,_,rfl,rfl,m9 _ _ (ze _ _ y9.e),aa,by simp,by rw [Bz,sizeLine_eq];show _+1<=_;lia,fun c' H9 s9 Q3=>?_⟩;have CC:=(ze.trans m9).trans s9;exact ⟨c',_,ss++[s'],_,_,rfl,gd.same CC,NW.same CC,Ku.same CC,qQ (y9.same CC) (CC _ _ et) Q3,l5,NX,Cz hb⟩
   ·exact ⟨a,xs,ss,_,_,rfl,gd.same ze,NW.same ze,Ku.same ze,y9.same ze,by lia,fI,ku⟩
  ·rintro σ Hc ⟨a,xs,ss,x6,x7,rfl,g,rcc,EW,Kt,ls,fI,ku⟩;refine ⟨_,rfl,_,rfl,_,rfl,zL,fun b hb=>?_⟩;have mb:=Same.upd (o:=.tup [V.ref ac,V.ref t,V.ref a]) hb;exact q b ac xc cs t xp ps a xs ss _ (g.new hb) aa (rcc.same mb) sf NM okc (EW.same mb) (by lia) okp (Kt.same mb) (by lia) fI ku
end
theorem oV {K:Frag}{te:TE}{p:Addr}{ws:List Int}{cK:St}{H0:Hp}{Fin:List V->Hp->Prop}(f:Int->Int)(ep:H0 p=some (.lst (ws.map V.int)))(hl:ws.length < sizeLine)
  (oj:∀ (z:Int) (Q:VK),z∈ws->Q (.int (f z)) H0->te (cK.set 0 (some (.int z))) H0 Q) (fin:Fin ((ws.map f).map V.int) H0):jm (Itl K p) (bw 0) tX te Fin cK H0:=by
 refine comp_gen ws.length (fun i ys σ H=>H=H0/\(∀ o,σ.set 0 o=cK.set 0 o)/\ys=((ws.take i).map f).map V.int) ⟨rfl,fun _=>rfl,rfl⟩ hl ?_ ?_
 ·rintro i ys σ H hi hy ⟨rfl,iL,rfl⟩;have hz:(ws.map V.int)[i]?=some (.int ws[i]):=by rw [zAb,zA0 hi];rfl
  refine ⟨⟨_,_,SqL.of ep,hz⟩,fun v H' y' R hR=>?_⟩;obtain ⟨rfl,y'⟩:=y';have hv:=y' _ (SqL.of ep);rw [hz] at hv;cases hv;show te (σ.set 0 (some (.int ws[i]))) _ _;rw [iL];refine oj ws[i] _ (zAh hi) (hR _ _ _ ⟨rfl,fun o=>by rw [List.set_set],?_⟩);rw [zAj,zA0 hi,zA4,zA4];rfl
 ·rintro ys σ H hy ⟨rfl,iL,rfl⟩;refine ⟨⟨_,SqL.of ep,by rw [zA1];exact zA3 _⟩,?_⟩;rw [zAm];exact fin
inductive SpLPartsI (vs:List V)(H:Hp)(Q:VK):Prop
 | mk:∀ n p ws,(vs=[.int n,.ref p])->(H p=some (.lst (ws.map V.int)))->(OkW ws)->(0<=n)->(n<=ws.sum)->(∀ H' q,Same H H'->H' q=some (.tup ((res n ws).map V.int))->Q (.ref q) H')->SpLPartsI  vs H Q
def spLParts:Sp:=fun vs H Q _=>SpLPartsI  vs H Q
section
variable {P:Program}{w:World}{K:Frag}{mg:Str->Option Value}{base:Heap}{f:Addr}{fd:FuncData}
theorem Jf:(["_law_one","_law_sacks","_law_whole"]:List Str).Nodup:=by decide +kernel
theorem scLP:FnScope ["_law_sacks","_law_weights","_law_whole","_law_parts","_law_rests","_law_turn","_law_at"] ["_law_sacks","_law_weights"] (aG (top 70)):=fS
theorem ok_lparted (F:Fun K "_law_parted" "_law_parted" (top 70) f fd)(T:Mg mg)(Ts:mg "sum" = none)(Tr:mg "range" = none)(Tm:mg "max" = none):FnOk P w K mg base CX0 1 f fd ["_law_sacks","_law_weights"] spLParts:=by
 refine F.ok scLP (fun vs H Q E h=>?_) (fun ar A outer s H vs Q E hr h=>?_)
 ·obtain ⟨n,p,ws,rfl,_⟩:=h;rfl
 ·obtain ⟨n,p,ws,rfl,ep,ok,n0,n1,q⟩:=h
  refine ⟨_,aB (kZ (i:=2) scLP.nd rfl (Or.inr rfl) (aN (cV rfl) rfl Ts boot_sum (aq (pv 1) aj)))
   (aB (fJ (i:=3) ["_law_one","_law_sacks","_law_whole"] [none,some 0,some 2] rfl scLP.nd rfl (Or.inl rfl) (bW (pv 1))
    (fun C fp pins s₂ H₂=>⟨pgn 0 Jf,bu,aU j6 (aU eZ (pv 1) (pv 0)) (pv 2)⟩) (fun C=>cI (cI trivial)) ⟨rfl,rfl,rfl,rfl⟩)
   (aB (fJ (i:=4) ["_law_one","_law_sacks","_law_whole"] [none,some 0,some 2] rfl scLP.nd rfl (Or.inl rfl) (bW (pv 1))
    (fun C fp pins s₂ H₂=>⟨pgn 0 Jf,bu,aU iJ (aU eZ (pv 1) (pv 0)) (pv 2)⟩) (fun C=>cI (cI trivial)) ⟨rfl,rfl,rfl,rfl⟩)
   (aB (bY zB3 rfl (cD rfl Tr (aq (aU cP (pv 0) (aN (cV rfl) rfl Ts boot_sum (aq (pv 3) aj))) aj)) (pgn 5 scLP.nd)
    (aB (pss 6 scLP.nd (nG zBd PySem.F.slot_list_index PySem.F.type_list_index Bj (pv 4) (aq (aN (pN rfl) rfl Tm lJ (aq (pv 4) aj)) aj)))
    (aD (cz (bD (aq (aU bZ (pX bL (pv 3) (pv 6)) aA) (aq (Ae v8 aA) aj))) (bJ rfl (ao (fP (pv 3) (pv 6) set_list) (ao (fP (pv 4) (pv 6) set_list) aV)))))))
   (aD (aR (bM bF rfl T.tuple boot_tuple (aq (pv 3) aj))))))),?_⟩
  have hp:=ok.pos;have ht:=ok.top;have rS:=BR ok;refine aC ?_;refine ⟨_,rfl,p,ws,rfl,.inl (SqL.of ep),?_⟩;dsimp only;refine aC ?_;refine ⟨_,rfl,p,rfl,⟨_,SqL.of ep⟩,oV (fun z=>n * z / ws.sum) ep rS (fun z Q hz h=>⟨_,rfl,_,rfl,_,_,rfl,rfl,.inl ⟨by lia,by lia⟩,_,rfl,_,_,rfl,rfl,⟨by lia,by lia⟩,h⟩) ?_⟩;rw [show ws.map (fun z=>n * z / ws.sum)=fs n ws from rfl];intro l1 dv;have s1:=Same.upd (o:=.lst ((fs n ws).map V.int)) dv;have el1:=aa (H:=H) (a:=l1) (o:=.lst ((fs n ws).map V.int));generalize upd H l1 _=H1 at s1 el1 ⊢;dsimp only;refine aC ?_;refine ⟨_,rfl,p,rfl,⟨_,SqL.of (s1 _ _ ep)⟩,oV (fun z=>n * z % ws.sum) (s1 _ _ ep) rS (fun z Q hz h=>⟨_,rfl,_,rfl,_,_,rfl,rfl,.inl ⟨by lia,by lia⟩,_,rfl,_,_,rfl,rfl,(by show 0 < ws.sum;lia),h⟩) ?_⟩;rw [show ws.map (fun z=>n * z % ws.sum)=rs n ws from rfl];intro l2 fy;have s2:=s1.updR (o:=.lst ((rs n ws).map V.int)) fy;have el2:=aa (H:=H1) (a:=l2) (o:=.lst ((rs n ws).map V.int));have fR:=Same.upd (o:=.lst ((rs n ws).map V.int)) fy _ _ el1;have nr:H l1=none:=dv;have Q4:H l2=none:=s1.free fy
  have NY:l1≠l2:=fun z=>by
   rw [<- z,el1] at fy;cases fy
  clear dv fy;generalize upd H1 l2 _=H2 at s2 el2 fR ⊢;clear el1 s1;dsimp only;have Qa:=xO (n:=n) ok;have Qb:=BL (n:=n) ok;have WI:=ok.2.1;refine aC ?_;refine ⟨_,rfl,_,rfl,l1,fs n ws,rfl,.inl (SqL.of fR),_,_,rfl,rfl,lf n ws,rfl,by lia,by lia,?_⟩;obtain ⟨pl,ord⟩:=iu (rs n ws);have fin:=BP ord;have IQ:=ord.len;rw [gB] at IQ;have EE:=FP (n:=n) ok;refine di (lo:=0) (fun i σ Hc=>∃ o5 o6,σ=[some (.int n),some (.ref p),some (.int ws.sum),some (.ref l1),some (.ref l2),o5,o6]/\Same H Hc/\Hc l1=some (.lst ((cN (fs n ws) (pl.take i)).map V.int))/\Hc l2=some (.lst ((fB (rs n ws) (pl.take i)).map V.int))) ?_ ?_ ?_
  ·exact ⟨none,none,rfl,s2,fR,el2⟩
  ·rintro i σ Hc hi ⟨o5,o6,rfl,s5,e1,e2⟩;have EZ:i < pl.length:=by lia
   have hj:=ord.lt _ (zAh EZ);rw [gB] at hj;refine aH (aC ?_);refine ⟨_,rfl,.inl ⟨rfl,_,SqL.of e2⟩,_,rfl,l2,_,rfl,SqL.of e2,fun c=>?_,fun M hM fN=>?_⟩
   ·have:=congrArg List.length c;rw [jf,gB,List.length_nil] at this;have:=ok.1;lia
   obtain ⟨Q5,Q6⟩:=pick ord EE EZ hM fN;refine ⟨l2,_,M,pl[i],rfl,rfl,e2,Q5,Q6,?_⟩;dsimp only;have ax:pl[i] < (cN (fs n ws) (pl.take i)).length:=by rw [je,oO];exact hj
   have vj:pl[i] < (fB (rs n ws) (pl.take i)).length:=by rw [jf,gB];exact hj
   have hx:((cN (fs n ws) (pl.take i)).map V.int)[pl[i]]?=some (.int ((cN (fs n ws) (pl.take i)).getD pl[i] 0)):=by
    rw [zAb,zA0 ax,zA7,zA0 ax];rfl
   refine ⟨_,rfl,_,rfl,l1,_,(pl[i]:Int),_,rfl,rfl,SqL.of e1,cY hx,_,_,rfl,rfl,_,rfl,zL,fun t1 pj=>?_⟩;have s6:=s5.updR (o:=.tup [.int ((cN (fs n ws) (pl.take i)).getD pl[i] 0+1),.int (-1)]) pj;have m6:=Same.upd (o:=.tup [.int ((cN (fs n ws) (pl.take i)).getD pl[i] 0+1),.int (-1)]) pj;refine ⟨t1,_,rfl,SqT.of aa,rfl,?_⟩;have NZ:=m6 _ _ e1;have N0:=m6 _ _ e2;generalize upd Hc t1 _=H6 at s6 NZ N0 ⊢;refine ⟨_,_,rfl,_,rfl,_,rfl,l1,_,(pl[i]:Int),pl[i],rfl,rfl,NZ,sY (by rw [zA1];exact ax),?_⟩;refine ⟨_,_,rfl,_,rfl,_,rfl,l2,_,(pl[i]:Int),pl[i],rfl,rfl,by rw [az NY.symm];exact N0,sY (by rw [zA1];exact vj),rfl,?_⟩;refine ⟨_,_,rfl,?_,?_,?_⟩
   ·intro b u e;rw [az (au e Q4),az (au e nr)];exact s6 _ _ e
   ·rw [az NY,aa,zAj,zA0 EZ];show _=some (HO.lst ((cN (fs n ws) (pl.take i++[pl[i]])).map V.int));rw [oN,List.map_set]
   ·rw [aa,zAj,zA0 EZ];show _=some (HO.lst ((fB (rs n ws) (pl.take i++[pl[i]])).map V.int));rw [vK,List.map_set]
  ·rintro σ Hc ⟨o5,o6,rfl,s5,e1,e2⟩;rw [fin] at e1;dsimp only;refine iU ?_;exact ⟨_,rfl,l1,_,rfl,.inl ⟨SqL.of e1,fun t ht=>q _ t (s5.updR ht) aa⟩⟩
end
end K61Q
namespace K61
open PySem L2
inductive SpLClaimsI (vs:List V)(H:Hp)(Q:VK):Prop
 | mk:∀ ap xp ps fo H0 kvs ss sort year,(vs=[.ref ap,.ref fo,.int year,.int sort])->(RowsAt H ap xp ps)->(ps.length<=10)->((∀ r∈ps,okP r))->(Lts fo H0 H (dom ps) (hl ps ss) kvs)->(∀ l xl H',Same H H'->H' l=some (.lst xl)->Els H' xl ((aK ps ss sort year).map List.tail)->Q (.ref l) H')->SpLClaimsI  vs H Q
def qR:Sp:=fun vs H Q _=>SpLClaimsI  vs H Q
theorem zz (ps ss:List (List Int))(sort year:Int)(i:Nat):((iy ps ss sort year i).map List.tail).length<=8 * i:=by
 rw [zA1];exact kh ps ss sort year i
theorem vP (i:Nat):dH (List.replicate 8 0) i=[]:=by
 unfold dH;rw [List.filter_eq_nil_iff.mpr,List.map_nil];intro a _;rw [decide_eq_true_eq,zA7,List.getElem?_replicate];split <;> simp
variable {P:Program}{w:World}{K:Frag}{mg:Str->Option Value}{base:Heap}{f:Addr}{fd:FuncData}
theorem K6:(["_law_holder","_law_number","_law_row"]:List Str).Nodup:=by decide +kernel
theorem scLD:FnScope ["_law_promises","_law_rows_here","_law_year","_law_sort","_law_found","_law_number","_law_promise_here","_law_row"] ["_law_promises","_law_rows_here","_law_year","_law_sort"] (aG (top 72)):=fS
theorem vQ (F:Fun K "_law_claims" "_law_claims" (top 72) f fd)(Te:mg "enumerate" = none)(Tr:mg "range" = none):FnOk P w K mg base CX0 1 f fd ["_law_promises","_law_rows_here","_law_year","_law_sort"] qR:=by
 refine F.ok scLD (fun vs H Q E h=>?_) (fun ar A outer s H vs Q E hr h=>?_)
 ·obtain ⟨ap,xp,ps,fo,H0,kvs,ss,sort,year,rfl,_⟩:=h;rfl
 ·obtain ⟨ap,xp,ps,fo,H0,kvs,ss,sort,year,rfl,rp,lp,okp,dt,q⟩:=h
  refine ⟨_,aB (pss 4 scLD.nd (cX aj))
   (aB (bY zB3 rfl (pi_enum rfl Te (aq (pv 0) aj)) (bJ rfl (ao (bh (i:=5) scLD.nd rfl (Or.inr rfl)) (ao (pgn 6 scLD.nd) aV)))
    (aD (cF (PW.pt (rA (bj jk (pX bO (pv 6) aA) (pv 3) (bA _)) (mF (Ab (Gq (fW hr) (bD (aq (pv 5) (aq (pv 2) aj))) (pv 1))))))
     (aB (kZ (i:=7) scLD.nd rfl (Or.inr rfl) (dY (fW hr) (pv 1) (bD (aq (pv 5) (aq (pv 2) aj))) (fun _ _=>rfl)))
     (aD (pss 4 scLD.nd (aU vp (pv 4) (bC ["_law_holder","_law_number","_law_row"] [none,some 5,some 7] rfl (cD rfl Tr (aq aA aj))
      (fun C fp pins s₂ H₂=>⟨pgn 0 K6,gm (bj jD (pX (jW (K:=K) rfl) (pv 2) (pv 0)) aA (bA _)),bD (aq (pv 1) (aq (pv 0) (aq (pX (jW (K:=K) rfl) (pv 2) (pv 0)) aj)))⟩)
      (fun C=>cI (cI trivial)) ⟨rfl,rfl,rfl,rfl⟩))))) bf)))
   (aD (aR (pv 4)))),?_⟩
  refine aC (aW ?_);refine ⟨zL,fun l nh=>?_⟩;refine aH ?_;dsimp only;refine aC ?_;have s0:=Same.upd (o:=.lst []) nh;refine ⟨_,rfl,ap,xp,rfl,SqT.of (s0 _ _ rp.e),?_⟩;refine gF (xs:=xp) (fun i σ Hc=>∃ l x5 x6 x7 xl,σ=[some (.ref ap),some (.ref fo),some (.int year),some (.int sort),some (.ref l),x5,x6,x7]/\Same H Hc/\Hc l=some (.lst xl)/\Els Hc xl ((iy ps ss sort year i).map List.tail)) ?_ ?_ ?_ ?_
  ·exact ⟨l,none,none,none,[],rfl,s0,aa,Els.nil⟩
  ·rintro i σ Hc hi ⟨l,x5,x6,x7,xl,rfl,k,el,ht⟩;exact SqT.of (k _ _ rp.e)
  ·rintro i x σ Hc T0 hx ⟨l,x5,x6,x7,xl,rfl,k,el,ht⟩ nT
   have hi:i < ps.length:=by
    have:=(zAa.mp hx).1;rw [rp.l] at this;exact this
   obtain ⟨tr,dA,cx⟩:=rp.g i ps[i] (zA0 hi)
   have:x=.ref tr:=by
    rw [hx] at dA;exact zAl dA
   subst this;have op:=okp ps[i] (zAh hi);have ep:ps.getD i []=ps[i]:=getD_get hi;rw [six_row op.1] at cx;have sT:=Same.upd (o:=.tup [V.int i,V.ref tr]) nT;have kT:=k.trans sT;have iN:=sT _ _ el;have vE:=ht.same sT;have eT:=aa (H:=Hc) (a:=T0) (o:=.tup [V.int i,V.ref tr]);generalize upd Hc T0 (.tup [V.int i,V.ref tr])=H1 at kT iN vE eT ⊢;refine ⟨T0,_,rfl,SqT.of eT,rfl,_,_,rfl,_,_,rfl,rfl,?_⟩;dsimp only
   have N1:(iy ps ss sort year (i+1)).map List.tail=(iy ps ss sort year i).map List.tail++(iH ps ss sort year i).map List.tail:=by
    show (iy ps ss sort year i++iH ps ss sort year i).map List.tail=_;rw [zA4]
   have ma:(iH ps ss sort year i).map List.tail=if fl ps[i] 1=sort then (dH (bU ps[i] ss i year) 8).map (fun r=>(i:Int)::r) else []:=by
    unfold iH;rw [ep];split
    ·rw [zAr];rfl
    ·rfl
   rw [N1,ma];clear N1 ma;refine ⟨_,rfl,tr,_,1,.int (fl ps[i] 1),rfl,rfl,SqT.of (kT _ _ cx),rfl,_,rfl,rfl,_,rfl,?_⟩;by_cases hs:fl ps[i] 1=sort
   ·rw [zAt (by rw [hs]),zAx hs];refine bQ ⟨_,rfl,_,rfl,zL,fun kk hk=>?_⟩;have s8:=Same.upd (o:=.tup [.int i,.int year]) hk;have CD:=dt.same (kT.trans s8);refine ⟨_,rfl,fo,_,rfl,DGet.t (k:=ky i year) CD.e aa,_,rfl,?_⟩;have k8:=kT.trans s8;have Kv:=s8 _ _ iN;have wx:=vE.same s8;generalize upd H1 kk (.tup [V.int i,V.int year])=H2 at CD k8 Kv wx ⊢;by_cases hd:dom ps i year
    ·obtain ⟨dr,v1,Kw⟩:=CD.g i year hd;rw [v1];refine bQ ?_
     have eL:hl ps ss i year=bU ps[i] ss i year:=by
      unfold hl;rw [zAi,ep]
     rw [eL] at Kw;have EI:=dW ps[i] ss i year;generalize bU ps[i] ss i year=L at Kw EI ⊢;refine aC (aW ?_);refine ⟨_,rfl,_,rfl,_,rfl,zL,fun Q7 ui=>?_⟩;have s9:=Same.upd (o:=.tup [.int i,.int year]) ui;refine ⟨fo,_,rfl,by rw [<- v1];exact DGet.t (k:=ky i year) (s9 _ _ CD.e) aa,?_⟩;have k9:=k8.trans s9;have N3:=s9 _ _ Kv;have N4:=wx.same s9;have CF:=s9 _ _ Kw;generalize upd H2 Q7 (.tup [V.int i,V.int year])=H3 at k9 N3 N4 CF ⊢;refine aH ?_;dsimp only;refine aW ?_;refine ⟨_,rfl,8,rfl,by decide,by decide,?_⟩;refine eQ 8 (fun j ys σ Hj=>Same H3 Hj/\(∃ o1,σ=[o1,some (.int i),some (.ref dr)])/\Els Hj ys ((dH L j).map (fun r=>(i:Int)::r))) ⟨Same.refl _,⟨_,rfl⟩,Els.nil⟩ (by decide) ?_ ?_
     ·rintro j ys σ Hj hj hy ⟨sc,⟨o1,rfl⟩,kq⟩;refine ⟨hj,fun x H' yv R hR=>?_⟩;obtain ⟨eH,rfl⟩:=yv;subst H';have N5:=sc _ _ CF
      have hx:atI (L.map V.int) ((0:Int)+(j:Int))=some (.int (L.getD j 0)):=by
       have:(L.map V.int)[j]?=some (.int (L.getD j 0)):=by
        rw [zAb,zA7,zA0 (by lia)];rfl
       rw [Int.zero_add];exact cY this
      have e0:((0:Int)+(j:Int))=(j:Int):=Int.zero_add _;refine aH ?_;refine ⟨_,rfl,_,rfl,dr,_,_,_,rfl,rfl,SqL.of N5,hx,_,_,rfl,rfl,_,rfl,?_⟩;by_cases aE:0 < L.getD j 0
      ·rw [zAt aE];refine bQ ⟨_,rfl,_,rfl,_,rfl,_,rfl,dr,_,_,_,rfl,rfl,SqL.of N5,hx,zL,fun t fw=>hR _ _ _ (by rw [zA2];show ys.length+1<=j+1;lia) ⟨sc.updR fw,⟨_,rfl⟩,?_⟩⟩;rw [gr,zAx aE,zA4];refine (kq.same (Same.upd fw)).app (Els.one ?_);rw [aa,e0];rfl
      ·rw [zAz aE];refine bB (hR _ _ _ (by lia) ⟨sc,⟨_,rfl⟩,?_⟩);rw [gr,zAw aE,zAn];exact kq
     ·rintro ys σ Hj hy ⟨sc,_,kq⟩;refine ⟨zA3 _,fun D hD=>?_⟩;have sD:=sc.updR (o:=.lst ys) hD;have ll:=zz ps ss sort year i;have:=ht.1;refine ⟨l,D,xl,ys,rfl,rfl,sD _ _ N3,aa,by rw [sizeLine_eq];lia,fun p hp=>?_⟩;have sp:=Same.upd (o:=.lst (xl++ys)) hp;exact ⟨p,_,_,_,xl++ys,rfl,(k9.trans sD).trans sp,aa,(((N4.same sD).app (kq.same (Same.upd (o:=.lst ys) hD))).same sp)⟩
    ·rw [CD.no i year hd];refine bB ?_
     have e0:bU ps[i] ss i year=List.replicate 8 0:=by
      unfold bU;rw [zAw fun w=>hd ⟨by lia,by lia,by rw [zAi,ep];exact w.1,by rw [zAi,ep];exact w.2⟩]
     rw [e0,vP,List.map_nil,zAn];exact ⟨l,_,_,_,xl,rfl,k8,Kv,wx⟩
   ·rw [zAz (fun z=>hs (by injection z)),zAw hs,zAn];exact bB ⟨l,_,_,_,xl,rfl,kT,iN,vE⟩
  ·rintro σ Hc ⟨l,x5,x6,x7,xl,rfl,k,el,ht⟩;rw [show xp.length=ps.length from rp.l] at ht;exact ⟨_,rfl,q l xl Hc k el ht⟩
def cG (M:List (List Int)):List (List Int):=M.filter fun r=>decide (0 < fl r 3)
def aP (ps:List (List Int))(r:List Int):Int:=fl (ps.getD (fl r 1).toNat []) 1
def keyOf (r:List Int):List Int:=[fl r 0,fl r 1,fl r 2]
def iI (p:List Int×Int):List Int:=[fl p.1 0,fl p.1 1,fl p.1 2,fl p.1 3 - p.2]
def zF (p:List Int×Int):List Int:=[fl p.1 0,fl p.1 1,fl p.1 2,p.2]
theorem dw (a b:List (List Int)):cG (a++b)=cG a++cG b:=List.filter_append ..
theorem kE (Z:List (List Int×Int)):cG (Z.map zF)=cj Z:=by
 unfold cG cj;rw [List.filter_map];rfl
theorem mR (Z:List (List Int×Int)):cG (Z.map iI)=bz Z:=by
 unfold cG bz;rw [List.filter_map];congr 1;refine List.filter_congr fun p _=>?_;show decide (0 < fl p.1 3 - p.2)=decide (p.2 < fl p.1 3);exact decide_eq_decide.mpr ⟨fun h=>by lia,fun h=>by lia⟩
theorem mU (a b:List (List Int×Int)):cj (a++b)=cj a++cj b:=by
 unfold cj;rw [List.filter_append,zA4]
theorem kI (a b:List (List Int×Int)):bz (a++b)=bz a++bz b:=by
 unfold bz;rw [List.filter_append,zA4]
theorem vR:∀ {w:Int} {S:List (List Int)},0<=w->(∀ r∈S,0<=fl r 3)->cj (S.zip (aY w S))=cj ((cG S).zip (aY w (cG S)))/\bz (S.zip (aY w S))=bz ((cG S).zip (aY w (cG S)))/\(aY w S).sum=(aY w (cG S)).sum
 | w,[],_,_=>⟨rfl,rfl,rfl⟩
 | w,r::S,hw,h=>by
  have h0:=h r (.head _);have hS:∀ r∈S,0<=fl r 3:=fun q hq=>h q (.tail _ hq);by_cases hp:0 < fl r 3
  ·have e:cG (r::S)=r::cG S:=zBb (p:=fun r=>decide (0 < fl r 3)) (zAt hp);obtain ⟨a,b,c⟩:=vR (w:=w - (if w < fl r 3 then w else fl r 3)) (S:=S) (by split <;> lia) hS;rw [e];unfold aY;rw [List.zip_cons_cons,List.zip_cons_cons];refine ⟨?_,?_,?_⟩
   ·rw [<- List.singleton_append,mU,a,<- mU,List.singleton_append]
   ·rw [<- List.singleton_append,kI,b,<- kI,List.singleton_append]
   ·rw [List.sum_cons,List.sum_cons,c]
  ·have e:cG (r::S)=cG S:=zB9 (p:=fun r=>decide (0 < fl r 3)) (by rw [decide_eq_true_eq];exact hp);have hm:(if w < fl r 3 then w else fl r 3)=0:=by split <;> lia
   obtain ⟨a,b,c⟩:=vR (w:=w) (S:=S) hw hS;rw [e]
   have em:aY w (r::S)=0::aY w S:=by
    show (if w < fl r 3 then w else fl r 3)::aY (w - (if w < fl r 3 then w else fl r 3)) S=_;rw [hm,Int.sub_zero]
   rw [em,List.zip_cons_cons];refine ⟨?_,?_,?_⟩
   ·rw [<- List.singleton_append,mU,a,show cj [(r,0)]=[] from rfl,List.nil_append]
   ·rw [<- List.singleton_append,kI,b]
    have:bz [(r,0)]=[]:=by
     unfold bz;rw [zB9 (by rw [decide_eq_true_eq];show ¬ 0 < fl r 3;exact hp)];rfl
    rw [this,List.nil_append]
   ·rw [List.sum_cons,c,Int.zero_add]
theorem CG (rs:List (List Int)):(srt rs).Pairwise (fun a b=>HT.lexLt b a=false):=(List.pairwise_mergeSort vN sZ rs).imp fun {a b} h=>by
 unfold rle at h;rw [Bool.not_eq_true'] at h;exact h
theorem j0 (rs:List (List Int)):(srt rs).Perm rs:=List.mergeSort_perm rs rle
theorem vU (p:List Int->Bool)(M:List (List Int)):(srt M).filter p=srt (M.filter p):=gC ((j0 M).filter p) ((CG M).filter p)
theorem vV {ps ss:List (List Int)}{sort year:Int}:∀ {k:Nat} {r:List Int},r∈iy ps ss sort year k->∃ (j h:Nat) (x:Int),j < k/\h < 8/\fl (ps.getD j []) 1=sort/\r=[year,j,h,x]
 | 0,r,hr=>by cases hr
 | k+1,r,hr=>by
  rcases zA6.mp (show r∈iy ps ss sort year k++iH ps ss sort year k from hr) with z | z
  ·obtain ⟨j,h,x,a,b⟩:=vV z;exact ⟨j,h,x,by lia,b⟩
  ·unfold iH at z;split at z
   ·rename_i hs
    obtain ⟨q,hq,rfl⟩:=zA5.mp z;unfold dH at hq;obtain ⟨h,hh,rfl⟩:=zA5.mp hq;have:=List.mem_range.mp (zAq.mp hh).1;exact ⟨k,h,_,by lia,this,hs,rfl⟩
   ·cases z
theorem CJ {ps ss:List (List Int)}{sort year:Int}:∀ k,((iy ps ss sort year k).map keyOf).Nodup
 | 0=>List.nodup_nil
 | k+1=>by
  show ((iy ps ss sort year k++iH ps ss sort year k).map keyOf).Nodup;rw [zA4,List.nodup_append];refine ⟨CJ k,?_,fun a ha b hb e=>?_⟩
  ·unfold iH;split
   ·unfold dH;rw [zAr,zAr];refine List.Pairwise.map _ (R:=fun a b=>a≠b) (fun a b h e=>h ?_) (List.nodup_range.filter _);have e:[year,(k:Int),(a:Int)]=[year,(k:Int),(b:Int)]:=e;injection e with _ e;injection e with _ e;injection e with e;lia
   ·exact List.nodup_nil
  ·subst e;obtain ⟨r,hr,e1⟩:=zA5.mp ha;obtain ⟨j,h,x,a1,a2,a3,rfl⟩:=vV hr;obtain ⟨r',nv,e2⟩:=zA5.mp hb;unfold iH at nv;split at nv
   ·obtain ⟨q,hq,rfl⟩:=zA5.mp nv;rw [<- e1] at e2;have e2:[year,(k:Int),_]=[year,(j:Int),(h:Int)]:=e2;injection e2 with _ e2;injection e2 with e2;lia
   ·cases nv
theorem iz {ps ss:List (List Int)}{sort year:Int}{r:List Int}(hr:r∈aK ps ss sort year):fl r 0=year/\aP ps r=sort/\0<=fl r 1/\fl r 1 < ps.length/\0<=fl r 2/\fl r 2 < 8:=by
 obtain ⟨j,h,x,a1,a2,a3,rfl⟩:=vV hr;refine ⟨rfl,?_,?_,?_,?_,?_⟩
 ·show fl (ps.getD ((j:Int)).toNat []) 1=sort;rw [zAi];exact a3
 ·show (0:Int)<=j;lia
 ·show (j:Int) < ps.length;lia
 ·show (0:Int)<=h;lia
 ·show (h:Int) < 8;lia
theorem zG {ps:List (List Int)}{Z:List (List Int×Int)}{n:Int}(h:∀ p∈Z,aP ps p.1=n):∀ r∈bz Z,aP ps r=n:=fun r hr=>by
 obtain ⟨p,hp,rfl⟩:=zA5.mp hr;exact h p (zAq.mp hp).1
theorem Fe {ps ow:List (List Int)}{n:Int}:∀ r∈aM ps ow n,aP ps r=n:=fun r hr=>zB5 (zAq.mp hr).2
theorem vW {c:List Int}{ps ss ow:List (List Int)}{y:Int}:∀ n,∀ r∈(yTo c ps ss ow y n).k,aP ps r < n
 | 0,r,hr=>by cases hr
 | n+1,r,hr=>by
  rcases zA6.mp (show r∈(yTo c ps ss ow y n).k++bz _ from hr) with z | z
  ·have:=vW (c:=c) (y:=y) n r z;lia
  ·have:=zG (n:=n) (fun p hp=>by
    rcases zA6.mp (List.of_mem_zip (show (p.1,p.2)∈_ from hp)).1 with z | z
    ·exact (iz z).2.1
    ·exact Fe _ z) r z
   lia
structure Stg (c:List Int)(ps ss ow:List (List Int))(y:Int)(n:Nat)(M G:List (List Int)):Prop where
 kd:(M.map keyOf).Nodup
 ok:∀ r∈M,r.length=4/\0<=fl r 1/\fl r 1 < ps.length/\0<=fl r 3
 yr:∀ r∈M,fl r 0 < y\/(fl r 0=y/\aP ps r < n)
 pm:(cG M).Perm ((yTo c ps ss ow y n).k++ow.filter fun r=>decide ((n:Int)<=aP ps r))
 gn:cG G=(yTo c ps ss ow y n).g
 g4:∀ r∈G,r.length=4
 len:M.length<=240 * y.toNat+80 * n
 glen:G.length<=n * (240 * y.toNat+400)
def elder (ps M:List (List Int))(n:Nat):List (List Int):=srt (M.filter fun r=>decide (aP ps r=n))
def others (ps M:List (List Int))(n:Nat):List (List Int):=M.filter fun r=>!decide (aP ps r=n)
theorem eU {S:List (List Int)}{m:List Int}{f:List Int×Int->List Int}(hk:∀ p,keyOf (f p)=keyOf p.1)(hl:m.length=S.length):((S.zip m).map f).map keyOf=S.map keyOf:=by
 rw [zAr]
 have:(keyOf ∘ f)=keyOf ∘ Prod.fst:=by
  funext p;exact hk p
 rw [this,<- zAr,List.map_fst_zip (by lia)]
theorem CK (ps ow:List (List Int))(n:Nat):(ow.filter fun r=>decide ((n:Int)<=aP ps r)).filter (fun r=>decide (aP ps r=n))=aM ps ow n:=by
 rw [List.filter_filter];unfold aM;refine List.filter_congr fun r _=>?_;show (decide (aP ps r=n) && decide ((n:Int)<=aP ps r))=decide (aP ps r=n);by_cases h:aP ps r=n
 ·rw [zAt h,zAt (by lia)];rfl
 ·rw [zAz h];rfl
theorem zH (ps ow:List (List Int))(n:Nat):(ow.filter fun r=>decide ((n:Int)<=aP ps r)).filter (fun r=>!decide (aP ps r=n))=ow.filter fun r=>decide (((n+1:Nat):Int)<=aP ps r):=by
 rw [List.filter_filter];refine List.filter_congr fun r _=>?_;show (!decide (aP ps r=n) && decide ((n:Int)<=aP ps r))=decide (((n+1:Nat):Int)<=aP ps r);by_cases h:aP ps r=n
 ·rw [zAt h,zAz (p:=((n+1:Nat):Int)<=aP ps r) (by lia)];rfl
 ·rw [zAz h];show decide ((n:Int)<=aP ps r)=_;exact decide_eq_decide.mpr ⟨fun z=>by lia,fun z=>by lia⟩
theorem Stg.elder_pos {c:List Int}{ps ss ow:List (List Int)}{y:Int}{n:Nat}{M G:List (List Int)}(g:Stg c ps ss ow y n M G)(so:ow.Pairwise (fun a b=>HT.lexLt b a=false)):cG (elder ps M n)=aM ps ow n:=by
 unfold elder cG;rw [vU,List.filter_filter]
 have e:(M.filter fun r=>decide (0 < fl r 3) && decide (aP ps r=n))=(cG M).filter fun r=>decide (aP ps r=n):=by
  unfold cG;rw [List.filter_filter];exact List.filter_congr fun r _=>Bool.and_comm _ _
 rw [e];refine (gC ?_ (so.filter _)).symm;have:=g.pm.symm.filter fun r=>decide (aP ps r=n);rw [List.filter_append,CK,List.filter_eq_nil_iff.mpr,List.nil_append] at this
 ·exact this
 ·intro r hr;have:=vW n r hr;rw [decide_eq_true_eq];lia
theorem FZ {w:Int}{cl:List (List Int)}(hw:0<=w)(hc:∀ r∈cl,r.length=4/\1<=fl r 3/\fl r 3<=99)(hz:cl.length<=80):∀ p∈cl.zip (aZ w cl),p.2<=fl p.1 3:=fun p hp=>by
 obtain ⟨i,hi⟩:=List.mem_iff_getElem?.mp hp;obtain ⟨h1,h2⟩:=List.getElem?_zip_eq_some.mp hi;have e3:(wts cl)[i]?=some (fl p.1 3):=by unfold wts;rw [zAb,h1];rfl
 unfold aZ at h2;split at h2
 ·rw [e3] at h2;rw [<- zAl h2];exact Int.le_refl _
 ·rename_i hs
  have ok:K61P.OkW (wts cl):=by
   refine ⟨?_,?_,fun x hx=>?_⟩
   ·have:=(zAa.mp e3).1;lia
   ·unfold wts;rw [zA1];exact hz
   ·obtain ⟨r,hr,rfl⟩:=zA5.mp hx;exact (hc r hr).2
  exact (K61P.res_get ok hw (by lia) h2 e3).2
theorem Stg.step {c:List Int}{ps ss ow:List (List Int)}{y:Int}{n:Nat}{M G:List (List Int)}(g:Stg c ps ss ow y n M G)(so:ow.Pairwise (fun a b=>HT.lexLt b a=false))(hc:∀ x∈c,0<=x)(hu:un ps ss=none)(h5:∀ s∈ss,s.length=5)(okp:∀ r∈ps,okP r)(hl:ps.length<=10)(ho:∀ r∈ow,okO ps r)(h3:n < 3)
  {w:Int} {cl:List (List Int)} {sh mg:List Int} (ew:w=c.getD n 0+(yTo c ps ss ow y n).d) (ec:cl=aK ps ss n y) (es:sh=aZ w cl) (em:mg=aY (w - sh.sum) (elder ps M n)) :
  Stg c ps ss ow y (n+1) (others ps M n++((elder ps M n).zip mg).map iI++(cl.zip sh).map iI) (G++(cl.zip sh).map zF++((elder ps M n).zip mg).map zF)/\w - sh.sum - mg.sum=(yTo c ps ss ow y (n+1)).d/\0<=w - sh.sum:=by
 have ea:=g.elder_pos so
 have hE:∀ r∈elder ps M n,r∈M/\aP ps r=n:=fun r hr=>by
  obtain ⟨a,b⟩:=zAq.mp ((j0 _).mem_iff.mp hr);exact ⟨a,zB5 b⟩
 have nn:=Cd (y:=y) hc hu h5 okp hl ho n
 have hw:0<=w:=by
  have:=jg hc n;lia
 have gI:=gO (sort:=n) (year:=y) hu h5 okp;have ml:=dI (ss:=ss) (sort:=n) (year:=y) hl;have CH:sh.length=cl.length:=by rw [es];exact shares_len
 have Q8:mg.length=(elder ps M n).length:=by rw [em,du]
 have y6:=vM (ow:=[]) hw (by rw [ec];exact gI) (by rw [ec];exact ml) (fun r hr=>by cases hr) (cl:=cl);unfold shr at y6;rw [<- es,show aY (w - sh.sum) []=[] from rfl,zAn] at y6;have iX:0<=w - sh.sum:=by lia
 obtain ⟨m1,m2,m3⟩:=vR (w:=w - sh.sum) (S:=elder ps M n) iX fun r hr=>(g.ok r (hE r hr).1).2.2.2;rw [<- em,ea] at m1 m2 m3
 have ez:(aK ps ss n y++aM ps ow n).zip (shr (c.getD n 0+(yTo c ps ss ow y n).d) (aK ps ss n y) (aM ps ow n))=cl.zip sh++(aM ps ow n).zip (aY (w - sh.sum) (aM ps ow n)):=by
  unfold shr;rw [<- ew,<- ec,<- es,List.zip_append CH.symm]
 have ln:=(xR (w:=c.getD n 0+(yTo c ps ss ow y n).d) (by lia) gI ml fun r hr=>by have:=(iY (sort:=n) ho r hr).2.2.2;lia).1;refine ⟨⟨?_,?_,?_,?_,?_,?_,?_,?_⟩,?_,iX⟩
 ·have p1:(others ps M n++((elder ps M n).zip mg).map iI).map keyOf |>.Perm (M.map keyOf):=by
   rw [zA4,eU (f:=iI) (fun _=>rfl) Q8,<- zA4];refine List.Perm.map _ ?_;refine (List.Perm.append_left _ (j0 _)).trans (List.perm_append_comm.trans ?_);exact List.filter_append_perm (fun r=>decide (aP ps r=n)) M
  rw [zA4,List.nodup_append];refine ⟨p1.nodup_iff.mpr g.kd,?_,fun a ha b hb e=>?_⟩
  ·rw [eU (f:=iI) (fun _=>rfl) CH,ec];exact CJ _
  ·subst e;obtain ⟨r,hr,e1⟩:=zA5.mp (p1.mem_iff.mp ha);rw [eU (f:=iI) (fun _=>rfl) CH,ec] at hb;obtain ⟨q,hq,e2⟩:=zA5.mp hb;obtain ⟨a1,a2,_⟩:=iz hq;rw [<- e1] at e2;unfold keyOf at e2;injection e2 with e3 e2;injection e2 with e4 e2;have:aP ps r=aP ps q:=by unfold aP;rw [e4]
   rcases g.yr r hr with z | z <;> lia
 ·intro r hr;rcases zA6.mp hr with hr | hr
  ·rcases zA6.mp hr with hr | hr
   ·exact g.ok r (zAq.mp hr).1
   ·obtain ⟨p,hp,rfl⟩:=zA5.mp hr;obtain ⟨h1,h2⟩:=List.of_mem_zip (show (p.1,p.2)∈_ from hp);obtain ⟨k1,k2,k3,k4⟩:=g.ok _ (hE _ h1).1;refine ⟨rfl,k2,k3,?_⟩;show 0<=fl p.1 3 - p.2
    have:∀ {w:Int} {S:List (List Int)},(∀ p∈S.zip (aY w S),p.2<=fl p.1 3):=fun {w S}=>by
     induction S generalizing w with
     | nil=>intro p hp;cases hp
     | cons r S ih =>
      intro p hp;unfold aY at hp;rw [List.zip_cons_cons] at hp;rcases zAo.mp hp with z | z
      ·rw [z];show (if w < fl r 3 then w else fl r 3)<=fl r 3;split <;> lia
      ·exact ih p z
    rw [em] at hp;have:=this p hp;lia
  ·obtain ⟨p,hp,rfl⟩:=zA5.mp hr;obtain ⟨h1,h2⟩:=List.of_mem_zip (show (p.1,p.2)∈_ from hp);rw [ec] at h1;obtain ⟨_,_,k2,k3,_⟩:=iz h1;refine ⟨rfl,k2,k3,?_⟩;show 0<=fl p.1 3 - p.2;have:=FZ (w:=w) (cl:=cl) hw (by rw [ec];exact gI) (by rw [ec];exact ml) p (by rw [<- es];exact hp);lia
 ·intro r hr;rcases zA6.mp hr with hr | hr
  ·rcases zA6.mp hr with hr | hr
   ·rcases g.yr r (zAq.mp hr).1 with z | z
    ·exact .inl z
    ·exact .inr ⟨z.1,by lia⟩
   ·obtain ⟨p,hp,rfl⟩:=zA5.mp hr;obtain ⟨h1,h2⟩:=List.of_mem_zip (show (p.1,p.2)∈_ from hp);rcases g.yr p.1 (hE _ h1).1 with z | z
    ·exact .inl z
    ·exact .inr ⟨z.1,by show aP ps p.1 < _;lia⟩
  ·obtain ⟨p,hp,rfl⟩:=zA5.mp hr;obtain ⟨h1,h2⟩:=List.of_mem_zip (show (p.1,p.2)∈_ from hp);rw [ec] at h1;obtain ⟨k1,k2,_⟩:=iz h1;exact .inr ⟨k1,by show aP ps p.1 < _;lia⟩
 ·rw [dw,dw,mR,mR,m2]
  have eo:cG (others ps M n)=(cG M).filter fun r=>!decide (aP ps r=n):=by
   unfold cG others;rw [List.filter_filter,List.filter_filter];exact List.filter_congr fun r _=>Bool.and_comm _ _
  have po:=g.pm.filter fun r=>!decide (aP ps r=n);rw [<- eo,List.filter_append,zH,List.filter_eq_self.mpr] at po
  ·show List.Perm _ (((yTo c ps ss ow y n).k++bz _)++_);rw [ez,kI];refine (List.Perm.append_right _ (List.Perm.append_right _ po)).trans ?_;rw [zAf,zAf,zAf];refine List.Perm.append_left _ ?_;refine List.perm_append_comm.trans ?_;exact List.Perm.append_right _ List.perm_append_comm
  ·intro r hr;have:=vW n r hr;rw [zAz (by lia)];rfl
 ·rw [dw,dw,kE,kE,m1,g.gn];show _=(yTo c ps ss ow y n).g++cj _;rw [ez,mU,zAf]
 ·intro r hr;rcases zA6.mp hr with hr | hr
  ·rcases zA6.mp hr with hr | hr
   ·exact g.g4 r hr
   ·obtain ⟨p,hp,rfl⟩:=zA5.mp hr;rfl
  ·obtain ⟨p,hp,rfl⟩:=zA5.mp hr;rfl
 ·have e1:(others ps M n).length+(elder ps M n).length=M.length:=by
   have:=(List.filter_append_perm (fun r=>decide (aP ps r=n)) M).length_eq;rw [zA2] at this;have:=(j0 (M.filter fun r=>decide (aP ps r=n))).length_eq;unfold others elder;lia
  rw [zA2,zA2,zA1,zA1,zAs,zAs];have:=g.len;have:cl.length<=80:=by rw [ec];exact ml
  lia
 ·have e1:(elder ps M n).length<=M.length:=by
   unfold elder;rw [(j0 (M.filter fun r=>decide (aP ps r=n))).length_eq];exact List.length_filter_le _ _
  rw [zA2,zA2,zA1,zA1,zAs,zAs];have:=g.len;have:=g.glen;have:cl.length<=80:=by rw [ec];exact ml
  rw [Nat.succ_mul];lia
 ·show _=c.getD n 0+(yTo c ps ss ow y n).d - dZ _;rw [ln,m3];unfold shr;rw [<- ew,<- ec,<- es,List.sum_append];lia
def kvS (ps:List (List Int))(r:List Int):List Key×V:=((aP ps r::keyOf r).map Sum.inl,.int (fl r 3))
def LkS (H:Hp)(d:Addr)(ps M:List (List Int)):Prop:=∃ Mo:List (List Int),H d=some (.dT (Mo.map (kvS ps)))/\Mo.Perm M
theorem mV:∀ {a b:List Int},(a.map (Sum.inl:Int->Key))=b.map Sum.inl->a=b
 | [],[],_=>rfl
 | [],_::_,h=>by simp at h
 | _::_,[],h=>by simp at h
 | x::a,y::b,h=>by
  rw [zAk,zAk] at h;injection h with h1 h2;injection h1 with h1;rw [h1,mV h2]
theorem LkS.same {H H':Hp}{d:Addr}{ps M:List (List Int)}(h:LkS H d ps M)(s:Same H H'):LkS H' d ps M:=by
 obtain ⟨Mo,e,pm⟩:=h;exact ⟨Mo,s _ _ e,pm⟩
theorem Ff {ps Mo:List (List Int)}{r:List Int}(h:¬ keyOf r∈Mo.map keyOf):putK (Mo.map (kvS ps)) ((aP ps r::keyOf r).map Sum.inl) (.int (fl r 3))=(Mo++[r]).map (kvS ps):=by
 rw [jJ,zA4]
 ·rfl
 ·cases zv:d9 (Mo.map (kvS ps)) ((aP ps r::keyOf r).map Sum.inl) with
  | none=>rfl
  | some v =>
   have h1:(d9 (Mo.map (kvS ps)) ((aP ps r::keyOf r).map Sum.inl)).isSome=true:=by rw [zv];rfl
   rw [<- eG,List.any_eq_true] at h1;obtain ⟨p,hp,e⟩:=h1;have e:=zB5 e;obtain ⟨q,hq,rfl⟩:=zA5.mp hp;have e:=mV (show (aP ps q::keyOf q).map Sum.inl=_ from e);injection e with _ e;exact absurd (zA5.mpr ⟨q,hq,e⟩) h
theorem oW {K:Frag}{te:TE}{l:Addr}{xs:List V}{cl:List (List Int)}{cK:St}{H0:Hp}{Fin:List V->Hp->Prop}(ep:H0 l=some (.lst xs))(els:Els H0 xs (cl.map List.tail))(h4:∀ r∈cl,r.length=4)(hl:cl.length < sizeLine)
  (oj:∀ (t:Addr) (n h x:Int) (Q:VK),H0 t=some (.tup [.int n,.int h,.int x])->Q (.int x) H0->te (cK.set 0 (some (.ref t))) H0 Q) (fin:Fin ((wts cl).map V.int) H0):jm (Itl K l) (bw 0) tX te Fin cK H0:=by
 refine K61.comp_gen cl.length (fun j ys σ Hj=>Hj=H0/\(∀ o,σ.set 0 o=cK.set 0 o)/\ys=(wts (cl.take j)).map V.int) ⟨rfl,fun _=>rfl,rfl⟩ hl ?_ ?_
 ·rintro j ys σ Hj hj hy ⟨rfl,iL,rfl⟩;obtain ⟨t,ex,et⟩:=els.2 j cl[j].tail (by rw [zAb,zA0 hj];rfl);have e4:=h4 _ (zAh hj)
  have CI:cl[j].tail=[fl cl[j] 1,fl cl[j] 2,fl cl[j] 3]:=by
   conv=>lhs;rw [bR e4]
   rfl
  rw [CI] at et;refine ⟨⟨_,_,SqL.of ep,ex⟩,fun v H' y' R hR=>?_⟩;obtain ⟨rfl,y'⟩:=y';have hv:=y' _ (SqL.of ep);rw [ex] at hv;cases hv;show te (σ.set 0 (some (.ref t))) _ _;rw [iL];refine oj t _ _ (fl cl[j] 3) _ et (hR _ _ _ ⟨rfl,fun o=>by rw [List.set_set],?_⟩);unfold wts;rw [zAj,zA0 hj,zA4,zA4];rfl
 ·rintro ys σ Hj hy ⟨rfl,iL,rfl⟩;rw [zAm];exact ⟨⟨_,SqL.of ep,by rw [els.1,zA1];exact zA3 _⟩,fin⟩
inductive SpServedI (vs:List V)(H:Hp)(Q:VK):Prop
 | mk:∀ lk ps M l xs cl y sort w,(vs=[.ref lk,.ref l,.int y,.int sort,.int w])->(LkS H lk ps M)->(M.length<=10000)->(H l=some (.lst xs))->(Els H xs (cl.map List.tail))->((∀ r∈cl,r.length=4/\1<=fl r 3/\fl r 3<=99))->(cl.length<=80)->((∀ r∈cl,fl r 0=y/\aP ps r=sort))->((cl.map keyOf).Nodup)->((∀ r∈cl,¬ keyOf r∈M.map keyOf))->(0<=w)->(∀ q H',(∀ b o,b≠lk->H b=some o->H' b=some o)->H' q=some (.lst ((aZ w cl).map V.int))->H q=none->LkS H' lk ps (M++bz (cl.zip (aZ w cl)))->Q (.ref q) H')->SpServedI  vs H Q
def uO:Sp:=fun vs H Q _=>SpServedI  vs H Q
theorem zJ (cl:List (List Int)):bz (cl.zip (wts cl))=[]:=by
 unfold bz wts;rw [List.filter_eq_nil_iff.mpr,List.map_nil];intro p hp;obtain ⟨i,hi⟩:=List.mem_iff_getElem?.mp hp;obtain ⟨h1,h2⟩:=List.getElem?_zip_eq_some.mp hi;rw [zAb,h1] at h2;have h2:fl p.1 3=p.2:=zAl h2;rw [decide_eq_true_eq];lia
theorem uP {Z:List (List Int×Int)}{k:List Int}(h:k∈(bz Z).map keyOf):∃ p∈Z,keyOf p.1=k:=by
 obtain ⟨r,hr,e⟩:=zA5.mp h;obtain ⟨p,hp,rfl⟩:=zA5.mp hr;exact ⟨p,(zAq.mp hp).1,e⟩
theorem qT:bootBuiltins "sum" = some (.builtin "sum"):=by decide +kernel
theorem GP:(["_law_one"]:List Str).Nodup:=by decide +kernel
theorem scLS:FnScope ["_law_lacks","_law_some","_law_year","_law_sort","_law_have","_law_wanted","_law_parts","_law_number","_law_holder","_law_sacks","_law_part"] ["_law_lacks","_law_some","_law_year","_law_sort","_law_have"] (aG (top 73)):=fS
theorem zK (F:Fun K "_law_served" "_law_served" (top 73) f fd)(Ts:mg "sum" = none)(Tz:mg "zip" = none)(Tl:mg "list" = none)(c1:Cal P w K mg base 1 "_law_parted" ["_law_sacks","_law_weights"] K61Q.spLParts):FnOk P w K mg base CX0 2 f fd ["_law_lacks","_law_some","_law_year","_law_sort","_law_have"] uO:=by
 refine F.ok scLS (fun vs H Q E h=>?_) (fun ar A outer s H vs Q E hr h=>?_)
 ·obtain ⟨lk,ps,M,l,xs,cl,y,sort,w,rfl,_⟩:=h;rfl
 ·obtain ⟨lk,ps,M,l,xs,cl,y,sort,w,rfl,la,lM,el,els,gI,Q9,oz,E1,E2,w0,q⟩:=h
  refine ⟨_,aB (pss 5 scLS.nd (aN (cV rfl) rfl Ts qT (aq (bC ["_law_one"] [none] rfl (bW (pv 1)) (fun C fp pins s₂ H₂=>⟨pgn 0 GP,bu,pX (K61P.ix_tupK (K:=K) rfl) (pv 0) aA⟩) (fun C=>trivial) ⟨rfl,rfl,rfl,rfl⟩) aj)))
   (aB (cF (bj Ag (pv 4) (pv 5) (bA _)) (aD (aR (bC ["_law_one"] [none] rfl (bW (pv 1)) (fun C fp pins s₂ H₂=>⟨pgn 0 GP,bu,pX (K61P.ix_tupK (K:=K) rfl) (pv 0) aA⟩) (fun C=>trivial) ⟨rfl,rfl,rfl,rfl⟩))) bf)
   (aB (pss 6 scLS.nd (aF c1 hr (aq (pv 4) (aq (bC ["_law_one"] [none] rfl (bW (pv 1)) (fun C fp pins s₂ H₂=>⟨pgn 0 GP,bu,pX (K61P.ix_tupK (K:=K) rfl) (pv 0) aA⟩) (fun C=>trivial) ⟨rfl,rfl,rfl,rfl⟩) aj))))
   (aB (bY zB3 rfl (ZM.pi_zip rfl Tz (aq (pv 1) (aq (pv 6) aj))) (bJ rfl (ao (bJ rfl (ao (pgn 7 scLS.nd) (ao (pgn 8 scLS.nd) (ao (pgn 9 scLS.nd) aV)))) (ao (pgn 10 scLS.nd) aV)))
    (aD (cF (bj jl (pv 10) (pv 9) (bA _)) (aD (wH (fW hr) (pv 0) (bD (aq (pv 3) (aq (pv 2) (aq (pv 7) (aq (pv 8) aj))))) (aU cP (pv 9) (pv 10)) rfl)) bf)))
   (aD (aR (bM ie rfl Tl vG (aq (pv 6) aj))))))),?_⟩
  have h4:∀ r∈cl,r.length=4:=fun r hr=>(gI r hr).1;have hz:cl.length < sizeLine:=by rw [sizeLine_eq];lia
  obtain ⟨WJ,dP,WK⟩:=id la
  have vF:l≠lk:=fun z=>by rw [z,dP] at el;cases el
  refine aC (aW ?_);refine ⟨_,rfl,l,rfl,⟨_,SqL.of el⟩,oW el els h4 hz (fun t n h x Q e q=>⟨_,rfl,t,_,2,.int x,rfl,rfl,SqT.of e,rfl,q⟩) fun D hD=>?_⟩;refine ⟨D,wts cl,rfl,.inl (SqL.of aa),?_⟩;have s1:=Same.upd (o:=.lst ((wts cl).map V.int)) hD;generalize upd H D (.lst ((wts cl).map V.int))=H1 at s1 ⊢;clear hD;refine aH ?_;dsimp only;refine aC ?_;refine ⟨_,rfl,_,rfl,_,_,rfl,rfl,_,rfl,?_⟩;by_cases hw:(wts cl).sum<=w
  ·have kG:aZ w cl=wts cl:=by unfold aZ;rw [zAx hw]
   rw [zAt (show w ≥ (wts cl).sum from hw)];refine bQ ?_;refine ⟨_,rfl,l,rfl,⟨_,SqL.of (s1 _ _ el)⟩,oW (s1 _ _ el) (els.same s1) h4 hz (fun t n h x Q e q=>⟨_,rfl,t,_,2,.int x,rfl,rfl,SqT.of e,rfl,q⟩) fun D hD=>?_⟩;have s2:=s1.updR (o:=.lst ((wts cl).map V.int)) hD;refine q D _ (fun b o _ e=>s2 _ _ e) (by rw [kG];exact aa) (s1.free hD) ?_;rw [kG,zJ,zAn];exact la.same s2
  have kG:aZ w cl=K61P.res w (wts cl):=by unfold aZ;rw [zAw hw]
  rw [decide_eq_false (show ¬ w ≥ (wts cl).sum from hw)];refine bB (dD ?_);dsimp only
  have Ra:K61P.OkW (wts cl):=by
   refine ⟨?_,by unfold wts;rw [zA1];exact Q9,fun x hx=>?_⟩
   ·cases z:cl with
    | nil =>
     rw [z] at hw;exact absurd w0 hw
    | cons a b =>
     unfold wts;rw [zA1];exact Nat.succ_pos _
   ·obtain ⟨r,hr,rfl⟩:=zA5.mp hx;exact (gI r hr).2
  rw [kG] at q;have Kx:(K61P.res w (wts cl)).length=cl.length:=by rw [K61P.res_len];unfold wts;rw [zA1]
  refine aC (aW ?_);refine ⟨_,rfl,_,rfl,l,rfl,⟨_,SqL.of (s1 _ _ el)⟩,oW (s1 _ _ el) (els.same s1) h4 hz (fun t n h x Q e q=>⟨_,rfl,t,_,2,.int x,rfl,rfl,SqT.of e,rfl,q⟩) fun D hD=>?_⟩;have s2:=s1.updR (o:=.lst ((wts cl).map V.int)) hD;refine ⟨w,D,wts cl,rfl,aa,Ra,w0,by lia,fun H2 tp s3 hV=>?_⟩;have sA:=s2.trans s3;clear s1 s2 s3 hD;generalize K61P.res w (wts cl)=sh at q kG Kx hV;have Rb:=la.same sA;have N6:=sA _ _ el;have Ky:=els.same sA;refine aH ?_;dsimp only;refine aC ?_;have N7:xs.length=cl.length:=by rw [els.1,zA1]
  refine ⟨_,rfl,_,rfl,l,tp,_,_,rfl,SqL.of N6,SqT.of hV,?_⟩;refine ZM.for_zip (xs:=xs) (ys:=sh.map V.int) (fun j σ Hj=>∃ x7 x8 x9 bX,σ=[some (.ref lk),some (.ref l),some (.int y),some (.int sort),some (.int w),some (.int (wts cl).sum),some (.ref tp),x7,x8,x9,bX]/\(∀ b o,b≠lk->H b=some o->Hj b=some o)/\Hj l=some (.lst xs)/\Els Hj xs (cl.map List.tail)/\Hj tp=some (.tup (sh.map V.int))/\LkS Hj lk ps (M++bz ((cl.zip sh).take j))) (by rw [zA1];lia) ?_ ?_ ?_ ?_
  ·exact ⟨none,none,none,none,rfl,fun b o _ e=>sA _ _ e,N6,Ky,hV,by rw [List.take_zero,show bz []=[] from rfl,zAn];exact Rb⟩
  ·rintro j σ Hj hj ⟨x7,x8,x9,bX,rfl,kj,E3,pS,mm,zh⟩;exact ⟨SqL.of E3,SqT.of mm⟩
  ·rintro j x z σ Hj T0 hx df ⟨x7,x8,x9,bX,rfl,kj,E3,pS,mm,zh⟩ nT
   have hj:j < cl.length:=by
    have:=(zAa.mp hx).1;lia
   have CL:j < sh.length:=by lia
   obtain ⟨t,ex,et⟩:=pS.2 j cl[j].tail (by rw [zAb,zA0 hj];rfl);rw [hx] at ex;cases ex;rw [zAb,zA0 CL] at df;cases df
   have CI:cl[j].tail=[fl cl[j] 1,fl cl[j] 2,fl cl[j] 3]:=by
    conv=>lhs;rw [bR (h4 _ (zAh hj))]
    rfl
   rw [CI] at et;obtain ⟨ey,es⟩:=oz _ (zAh hj);have Kz:(cl.zip sh)[j]?=some (cl[j],sh[j]):=by rw [List.getElem?_zip_eq_some];exact ⟨zA0 hj,zA0 CL⟩
   have bq:(cl.zip sh).take (j+1)=(cl.zip sh).take j++[(cl[j],sh[j])]:=by rw [zAj,Kz];rfl
   have sT:=Same.upd (o:=.tup [V.ref t,.int sh[j]]) nT;have kT:∀ b o,b≠lk->H b=some o->upd Hj T0 (.tup [V.ref t,.int sh[j]]) b=some o:=fun b o n e=>sT _ _ (kj b o n e);have iN:=sT _ _ E3;have w9:=pS.same sT;have xb:=sT _ _ mm;have KA:=zh.same sT;have N8:=sT _ _ et;have eT:=aa (H:=Hj) (a:=T0) (o:=.tup [V.ref t,.int sh[j]]);generalize upd Hj T0 (.tup [V.ref t,.int sh[j]])=H6 at kT iN w9 xb KA N8 eT ⊢;refine ⟨T0,_,rfl,SqT.of eT,rfl,_,_,rfl,t,_,rfl,SqT.of N8,rfl,_,_,rfl,_,_,rfl,_,_,rfl,rfl,_,_,rfl,rfl,?_⟩;dsimp only;rw [bq,jB];refine ⟨_,rfl,_,rfl,_,_,rfl,rfl,_,rfl,?_⟩;by_cases ax:sh[j] < fl cl[j] 3
   ·rw [zAt ax,zAx (show (cl[j],sh[j]).2 < fl (cl[j],sh[j]).1 3 from ax)];refine bQ ?_;obtain ⟨Mo,mf,KC⟩:=KA
    obtain ⟨r,er⟩:∃ r:List Int,r=[fl cl[j] 0,fl cl[j] 1,fl cl[j] 2,fl cl[j] 3 - sh[j]]:=⟨_,rfl⟩
    have N9:keyOf r=keyOf cl[j]:=by rw [er];rfl
    have Rc:aP ps r=sort:=by rw [<- es,er];rfl
    have nk:¬ keyOf r∈Mo.map keyOf:=fun hm=>by
     rw [N9] at hm;have hm:=(KC.map keyOf).mem_iff.mp hm;rw [zA4] at hm;rcases zA6.mp hm with z | z
     ·exact E2 _ (zAh hj) z
     ·obtain ⟨p,hp,e⟩:=uP z;obtain ⟨i,hi⟩:=List.mem_iff_getElem?.mp hp;rw [List.getElem?_take] at hi;split at hi
      ·rename_i cq
       obtain ⟨h1,_⟩:=List.getElem?_zip_eq_some.mp hi;obtain ⟨fx,h1⟩:=zAa.mp h1;have:=List.pairwise_iff_getElem.mp E1 i j (by rw [zA1];exact fx) (by rw [zA1];exact hj) cq;rw [List.getElem_map,List.getElem_map,h1] at this;exact this e
      ·cases hi
    have pn:=Ff (ps:=ps) nk;refine ⟨_,rfl,_,rfl,_,_,rfl,rfl,_,rfl,_,rfl,_,rfl,_,rfl,_,rfl,zL,fun tk mN=>?_⟩;have sK:=Same.upd (o:=.tup [V.int sort,V.int y,V.int (fl cl[j] 1),V.int (fl cl[j] 2)]) mN;refine ⟨lk,_,rfl,DPut.t (k:=(aP ps r::keyOf r).map Sum.inl) (sK _ _ mf) ?_ ?_,?_⟩
    ·rw [aa,Rc,N9,zAr];show some (HO.tup [V.int sort,V.int y,_,_])=some (HO.tup [V.int sort,V.int (fl cl[j] 0),_,_]);rw [ey];rfl
    ·rw [zA1,KC.length_eq,zA2,sizeLine_eq]
     have:(bz ((cl.zip sh).take j)).length<=80:=by
      unfold bz;rw [zA1];refine Nat.le_trans (List.length_filter_le _ _) ?_;rw [zAd,zAs];lia
     lia
    have Rf:fl r 3=fl cl[j] 3 - sh[j]:=by rw [er];rfl
    have pn:putK (Mo.map (kvS ps)) ((aP ps r::keyOf r).map Sum.inl) (.int (fl cl[j] 3 - sh[j]))=(Mo++[r]).map (kvS ps):=by rw [<- Rf];exact pn
    rw [pn]
    have kt:∀ b z,H6 b=some (.tup z)->upd (upd H6 tk (.tup [V.int sort,V.int y,V.int (fl cl[j] 1),V.int (fl cl[j] 2)])) lk (.dT ((Mo++[r]).map (kvS ps))) b=some (.tup z):=fun b z e=>by
     rw [az fun w=>by rw [w,mf] at e;cases e];exact sK _ _ e
    refine ⟨_,_,_,_,rfl,fun b o n e=>?_,?_,w9.keep kt,kt _ _ xb,⟨Mo++[r],aa,?_⟩⟩
    ·rw [az n];exact sK _ _ (kT b o n e)
    ·rw [az vF];exact sK _ _ iN
    ·rw [<- zAf];refine (KC.append_right _).trans ?_;rw [er]
   ·rw [zAz ax,zAw (show ¬ (cl[j],sh[j]).2 < fl (cl[j],sh[j]).1 3 from ax),zAn];exact bB ⟨_,_,_,_,rfl,kT,iN,w9,xb,KA⟩
  ·rintro σ Hj ⟨x7,x8,x9,bX,rfl,kj,E3,pS,mm,zh⟩;dsimp only;refine iU ?_;refine ⟨_,rfl,tp,_,rfl,.inr (SqT.of mm),fun ql CM=>?_⟩;have sq:=Same.upd (o:=.lst (sh.map V.int)) CM;refine q ql _ (fun b o n e=>sq _ _ (kj b o n e)) aa ?_ ?_
   ·cases z:H ql with
    | none=>rfl
    | some o =>
     by_cases e:ql=lk
     ·obtain ⟨Mo,e1,_⟩:=zh;rw [e,e1] at CM;cases CM
     ·rw [kj ql o e z] at CM;cases CM
   ·have:(cl.zip sh).take xs.length=cl.zip sh:=List.take_of_length_le (by rw [zAs];lia);rw [this] at zh;exact zh.same sq
def cU (ps:List (List Int))(r:List Int):List Int:=aP ps r::keyOf r
def jC (ps M:List (List Int)):List (List Int):=M.mergeSort fun a b=>rle (cU ps a) (cU ps b)
theorem mW (ps M:List (List Int)):(jC ps M).Perm M:=List.mergeSort_perm M _
theorem xW (ps M:List (List Int)):(jC ps M).Pairwise (fun a b=>HT.lexLt (cU ps b) (cU ps a)=false):=(List.pairwise_mergeSort (le:=fun a b=>rle (cU ps a) (cU ps b)) (fun a b c h1 h2=>vN _ _ _ h1 h2) (fun a b=>sZ _ _) M).imp fun {a b} h=>by
 have h:rle (cU ps a) (cU ps b)=true:=h;unfold rle at h;rw [Bool.not_eq_true'] at h;exact h
theorem zM (ps M:List (List Int)):(jC ps M).map (cU ps)=srt (M.map (cU ps)):=by
 refine gC ((mW ps M).map _) ?_;rw [List.pairwise_map];exact xW ps M
theorem CN {a b:List Int}(ha:a.length=4)(hb:b.length=4)(hk:keyOf a≠keyOf b)(h:HT.lexLt (keyOf b) (keyOf a)=false):HT.lexLt b a=false:=by
 rw [bR ha,bR hb];unfold keyOf at h hk;simp only [HT.lexLt_cons] at h ⊢;by_cases e0:fl b 0=fl a 0
 ·rw [zAx e0] at h ⊢;by_cases e1:fl b 1=fl a 1
  ·rw [zAx e1] at h ⊢;by_cases e2:fl b 2=fl a 2
   ·exact absurd (by rw [e0,e1,e2]) hk
   ·rw [zAw e2] at h ⊢;exact h
  ·rw [zAw e1] at h ⊢;exact h
 ·rw [zAw e0] at h ⊢;exact h
def old (ps:List (List Int))(n:Nat)(y:Int)(r:List Int):Bool:=decide (aP ps r=n) && decide (fl r 0 < y)
theorem CP {c:List Int}{ps ss ow:List (List Int)}{y:Int}{n:Nat}{M G M1 N:List (List Int)}(g:Stg c ps ss ow y n M G)(pm:M1.Perm (M++N))(hN:∀ r∈N,fl r 0=y):(jC ps M1).filter (old ps n y)=elder ps M n:=by
 have pf:((jC ps M1).filter (old ps n y)).Perm (M.filter fun r=>decide (aP ps r=n)):=by
  refine (((mW ps M1).trans pm).filter _).trans (.of_eq ?_);rw [List.filter_append,List.filter_eq_nil_iff (l:=N).mpr fun r hr=>?_,zAn]
  ·refine List.filter_congr fun r hr=>?_;unfold old;by_cases e:aP ps r=n
   ·rw [zAt e,zAt (p:=fl r 0 < y) (by rcases g.yr r hr with z | z <;> lia)];rfl
   ·rw [zAz e];rfl
  ·unfold old;rw [zAz (p:=fl r 0 < y) (by have:=hN r hr;lia),Bool.and_false];exact zAg
 unfold elder;refine gC pf ?_;have nd:(((jC ps M1).filter (old ps n y)).map keyOf).Nodup:=(pf.map keyOf).nodup_iff.mpr (g.kd.sublist (List.filter_sublist.map keyOf));have so:=(xW ps M1).filter (old ps n y);rw [List.Nodup,List.pairwise_map] at nd;refine (so.and nd).imp_of_mem fun {a b} ha hb h=>?_
 have m1:∀ r∈(jC ps M1).filter (old ps n y),aP ps r=n/\r.length=4:=fun r hr=>by
  obtain ⟨h1,h2⟩:=zAq.mp (pf.mem_iff.mp hr);exact ⟨zB5 h2,(g.ok r h1).1⟩
 obtain ⟨a1,a2⟩:=m1 a ha;obtain ⟨b1,b2⟩:=m1 b hb;obtain ⟨h1,h2⟩:=h;refine CN a2 b2 h2 ?_;unfold cU at h1;rw [a1,b1,HT.lexLt_cons,zAx rfl] at h1;exact h1
theorem Stg.sub {c:List Int}{ps ss ow:List (List Int)}{y:Int}{n:Nat}{M G M' G':List (List Int)}(g:Stg c ps ss ow y n M G)(sb:M'.Sublist M)(ep:cG M'=cG M)(eg:cG G'=cG G)(sg:G'.Sublist G):Stg c ps ss ow y n M' G' :=
 ⟨g.kd.sublist (sb.map _),fun r hr=>g.ok r (sb.subset hr),fun r hr=>g.yr r (sb.subset hr),by rw [ep];exact g.pm,by rw [eg];exact g.gn,fun r hr=>g.g4 r (sg.subset hr),Nat.le_trans sb.length_le g.len,Nat.le_trans sg.length_le g.glen⟩
theorem uQ (Z:List (List Int×Int)):(bz Z).Sublist (Z.map iI):=List.filter_sublist.map _
theorem xX (Z:List (List Int×Int)):(cj Z).Sublist (Z.map zF):=List.filter_sublist.map _
theorem xY (M:List (List Int)):cG (cG M)=cG M:=by
 unfold cG;rw [List.filter_filter];exact List.filter_congr fun r _=>Bool.and_self _
theorem CQ (Z:List (List Int×Int)):cG (bz Z)=bz Z:=by rw [<- mR,xY]
theorem kJ (Z:List (List Int×Int)):cG (cj Z)=cj Z:=by rw [<- kE,xY]
theorem Stg.stepS {c:List Int}{ps ss ow:List (List Int)}{y:Int}{n:Nat}{M G:List (List Int)}(g:Stg c ps ss ow y n M G)(so:ow.Pairwise (fun a b=>HT.lexLt b a=false))(hc:∀ x∈c,0<=x)(hu:un ps ss=none)(h5:∀ s∈ss,s.length=5)(okp:∀ r∈ps,okP r)(hl:ps.length<=10)(ho:∀ r∈ow,okO ps r)(h3:n < 3)
  {w:Int} {cl:List (List Int)} {sh mg:List Int} (ew:w=c.getD n 0+(yTo c ps ss ow y n).d) (ec:cl=aK ps ss n y) (es:sh=aZ w cl) (em:mg=aY (w - sh.sum) (elder ps M n)) :
  Stg c ps ss ow y (n+1) (others ps M n++((elder ps M n).zip mg).map iI++bz (cl.zip sh)) (G++cj (cl.zip sh)++cj ((elder ps M n).zip mg))/\w - sh.sum - mg.sum=(yTo c ps ss ow y (n+1)).d/\0<=w - sh.sum:=by
 obtain ⟨s,d,e⟩:=g.step so hc hu h5 okp hl ho h3 ew ec es em;refine ⟨s.sub ((List.Sublist.refl _).append (uQ _)) ?_ ?_ (((List.Sublist.refl _).append (xX _)).append (xX _)),d,e⟩
 ·rw [dw,dw (others ps M n++_),CQ,mR (cl.zip sh)]
 ·rw [dw,dw,dw (G++_),dw G,kJ,kJ,kE,kE]
theorem xZ {ps:List (List Int)}{q r:List Int}(e:keyOf q=keyOf r):cU ps q=cU ps r:=by
 have e1:fl q 1=fl r 1:=by
  unfold keyOf at e;injection e with _ e;injection e with e _
 unfold cU aP;rw [e,e1]
theorem uR {ps:List (List Int)}{q r:List Int}(e:cU ps q=cU ps r):keyOf q=keyOf r:=by
 unfold cU at e;injection e
theorem CT {ps M:List (List Int)}(h:(M.map keyOf).Nodup):((M.map (kvS ps)).map (·.1)).Nodup:=by
 rw [zAr];rw [List.Nodup,List.pairwise_map] at h;rw [List.Nodup,List.pairwise_map];exact h.imp fun {a b} h e=>h (uR (ps:=ps) (mV (show (cU ps a).map Sum.inl=(cU ps b).map Sum.inl from e)))
theorem oX {κ:Type}[DecidableEq κ]{k:κ}{v:V}:∀ {kvs:List (κ×V)},(kvs.map (·.1)).Nodup->(k,v)∈kvs->d9 kvs k=some v
 | [],_,h=>by cases h
 | p::kvs,nd,h=>by
  rw [zAk,List.nodup_cons] at nd;rcases zAo.mp h with z | z
  ·rw [<- z];exact cQ rfl
  ·rw [cR fun e=>nd.1 (e ▸ zA5.mpr ⟨_,z,rfl⟩)];exact oX nd.2 z
theorem LkS.get {H:Hp}{d b:Addr}{ps M:List (List Int)}{r:List Int}(h:LkS H d ps M)(nd:(M.map keyOf).Nodup)(hr:r∈M)(eb:H b=some (.tup ((cU ps r).map V.int))):DGet H d (.ref b) (some (.int (fl r 3))):=by
 obtain ⟨Mo,e,pm⟩:=h;have:=oX (CT (ps:=ps) ((pm.map _).nodup_iff.mpr nd)) (zA5.mpr ⟨r,pm.mem_iff.mpr hr,rfl⟩);rw [<- this];exact DGet.t e (by rw [eb,zAr];rfl)
def CV (r:List Int)(x:Int)(q:List Int):List Int:=if keyOf q=keyOf r then [fl r 0,fl r 1,fl r 2,x] else q
theorem zN {ps Mo A B:List (List Int)}{r:List Int}{x:Int}(pm:Mo.Perm (A++r::B))(nd:((A++r::B).map keyOf).Nodup):∃ zi:List (List Int),putK (Mo.map (kvS ps)) ((cU ps r).map Sum.inl) (.int x)=zi.map (kvS ps)/\zi.Perm (A++[fl r 0,fl r 1,fl r 2,x]::B):=by
 refine ⟨Mo.map (CV r x),?_,?_⟩
 ·unfold putK;rw [zAx (List.any_eq_true.mpr ⟨kvS ps r,zA5.mpr ⟨r,pm.mem_iff.mpr (zA6.mpr (.inr (.head _))),rfl⟩,zAt rfl⟩),zAr,zAr];refine List.map_congr_left fun q _=>?_;show (if (kvS ps q).1=_ then ((kvS ps q).1,V.int x) else kvS ps q)=kvS ps (CV r x q);unfold CV;by_cases e:keyOf q=keyOf r
  ·have e4:=xZ (ps:=ps) e;rw [zAx e,zAx (show (kvS ps q).1=(cU ps r).map Sum.inl by rw [<- e4];rfl)];show ((cU ps q).map Sum.inl,V.int x)=((cU ps r).map Sum.inl,V.int x);rw [e4]
  ·rw [zAw e];exact zAw fun z=>e (uR (mV (show (cU ps q).map Sum.inl=(cU ps r).map Sum.inl from z)))
 ·refine (pm.map _).trans ?_;rw [zA4,zAk,List.nodup_append,List.nodup_cons] at nd;obtain ⟨_,⟨n1,_⟩,n2⟩:=nd
  have keep:∀ l:List (List Int),(∀ q∈l,keyOf q≠keyOf r)->l.map (CV r x)=l:=fun l hl=>by
   refine (List.map_congr_left fun q hq=>?_).trans (List.map_id l);exact zAw (hl q hq)
  rw [zA4,zAk,keep A fun q hq e=>n2 _ (zA5.mpr ⟨q,hq,rfl⟩) _ (.head _) e,keep B fun q hq e=>n1 (by rw [<- e];exact zA5.mpr ⟨q,hq,rfl⟩),show CV r x r=[fl r 0,fl r 1,fl r 2,x] from zAx rfl]
theorem LkS.pm {H:Hp}{d:Addr}{ps M M':List (List Int)}(h:LkS H d ps M)(p:M.Perm M'):LkS H d ps M':=by
 obtain ⟨Mo,e,pm⟩:=h;exact ⟨Mo,e,pm.trans p⟩
structure Lk (ps ow:List (List Int))(y:Nat)(M:List (List Int)):Prop where
 kd:(M.map keyOf).Nodup
 ok:∀ r∈M,r.length=4/\0<=fl r 1/\fl r 1 < ps.length/\0<=fl r 3
 yr:∀ r∈M,fl r 0 < y
 pm:(cG M).Perm ow
 len:M.length<=240 * y
theorem yc {ps:List (List Int)}{r:List Int}(okp:∀ r∈ps,okP r)(h0:0<=fl r 1)(h1:fl r 1 < ps.length):0<=aP ps r/\aP ps r < 3:=by
 obtain ⟨p,_,e,op⟩:=prom_ok okp h0 h1;unfold aP;rw [e];exact op.2.2.1
theorem Lk.start {ps ow M:List (List Int)}{y:Nat}(g:Lk ps ow y M)(c:List Int)(ss:List (List Int))(okp:∀ r∈ps,okP r)(ho:∀ r∈ow,okO ps r):Stg c ps ss ow y 0 M []:=by
 refine ⟨g.kd,g.ok,fun r hr=>.inl (g.yr r hr),?_,rfl,fun r hr=>(by cases hr),by have:=g.len;lia,zAp _⟩;show (cG M).Perm ([]++ow.filter _);rw [List.nil_append,List.filter_eq_self.mpr fun r hr=>zAt ?_]
 ·exact g.pm
 ·exact (yc okp (ho r hr).2.1 (ho r hr).2.2.1).1
theorem Stg.next {c:List Int}{ps ss ow M G:List (List Int)}{y:Nat}(g:Stg c ps ss ow y 3 M G)(okp:∀ r∈ps,okP r)(ho:∀ r∈ow,okO ps r):Lk ps (srt (yTo c ps ss ow y 3).k) (y+1) M:=by
 refine ⟨g.kd,g.ok,fun r hr=>?_,?_,by have:=g.len;lia⟩
 ·rcases g.yr r hr with z | z <;> lia
 ·have:=g.pm;rw [List.filter_eq_nil_iff.mpr,zAn] at this
  ·exact this.trans (j0 _).symm
  ·intro r hr;have:=(yc okp (ho r hr).2.1 (ho r hr).2.2.1).2;rw [decide_eq_true_eq];lia
theorem RowsAt.but {H H':Hp}{lk a:Addr}{xs:List V}{rs:List (List Int)}{KD:List (List Key×V)}(h:RowsAt H a xs rs)(k:∀ b o,b≠lk->H b=some o->H' b=some o)(el:H lk=some (.dT KD)):RowsAt H' a xs rs:=by
 have tp:∀ b z,H b=some (.tup z)->H' b=some (.tup z):=fun b z e=>k b _ (fun w=>by rw [w,el] at e;cases e) e
 exact ⟨tp _ _ h.e,h.l,fun i r e=>by
  obtain ⟨t,e1,e2⟩:=h.g i r e
  exact ⟨t,e1,tp _ _ e2⟩⟩
structure Wd (ps:List (List Int))(H Hc:Hp)(lk lg ll:Addr)(xg:List V)(G:List (List Int))(L:List Int)(M:List (List Int)):Prop where
 k:∀ b o,b≠lk->H b=some o->Hc b=some o
 eg:Hc lg=some (.lst xg)
 elg:Els Hc xg G
 el:Hc ll=some (.lst (L.map V.int))
 lka:LkS Hc lk ps M
 nk:lg≠lk
 nl:ll≠lk
 ng:lg≠ll
 fg:H lg=none
 fl:H ll=none
section
variable {ps:List (List Int)}{H Hc Hd:Hp}{lk lg ll:Addr}{xg:List V}{G M:List (List Int)}{L:List Int}
theorem Wd.same (d:Wd ps H Hc lk lg ll xg G L M)(s:Same Hc Hd):Wd ps H Hd lk lg ll xg G L M :=
 ⟨fun b o n e=>s _ _ (d.k b o n e),s _ _ d.eg,d.elg.same s,s _ _ d.el,d.lka.same s,d.nk,d.nl,d.ng,d.fg,d.fl⟩
theorem Wd.gone {t:Addr}{r:List Int}(d:Wd ps H Hc lk lg ll xg G L M)(et:Hc t=some (.tup (r.map V.int))):Wd ps H (upd Hc lg (.lst (xg++[.ref t]))) lk lg ll (xg++[.ref t]) (G++[r]) L M:=by
 have tp:∀ b z,Hc b=some (.tup z)->upd Hc lg (.lst (xg++[.ref t])) b=some (.tup z):=fun b z e=>by
  rw [az fun w=>by rw [w,d.eg] at e;cases e];exact e
 obtain ⟨kvs,e,pm⟩:=d.lka;exact ⟨fun b o n e=>by rw [az (au e d.fg)];exact d.k b o n e,aa,(d.elg.app (Els.one et)).keep tp,by rw [az d.ng.symm];exact d.el,⟨kvs,by rw [az d.nk.symm];exact e,pm⟩,d.nk,d.nl,d.ng,d.fg,d.fl⟩
theorem Wd.put {M' zi:List (List Int)}(d:Wd ps H Hc lk lg ll xg G L M)(pm:zi.Perm M'):Wd ps H (upd Hc lk (.dT (zi.map (kvS ps)))) lk lg ll xg G L M':=by
 obtain ⟨kvs,e,_⟩:=d.lka;exact ⟨fun b o n e=>by rw [az n];exact d.k b o n e,by rw [az d.nk];exact d.eg,d.elg.keep fun b z e'=>by rw [az fun w=>by rw [w,e] at e';cases e'];exact e',by rw [az d.nl];exact d.el,⟨zi,aa,pm⟩,d.nk,d.nl,d.ng,d.fg,d.fl⟩
theorem Wd.down {x:Int}(d:Wd ps H Hc lk lg ll xg G L M):Wd ps H (upd Hc ll (.lst ((L++[x]).map V.int))) lk lg ll xg G (L++[x]) M:=by
 obtain ⟨kvs,e,pm⟩:=d.lka;exact ⟨fun b o n e=>by rw [az (au e d.fl)];exact d.k b o n e,by rw [az d.ng];exact d.eg,d.elg.keep fun b z e'=>by rw [az fun w=>by rw [w,d.el] at e';cases e'];exact e',aa,⟨kvs,by rw [az d.nl.symm];exact e,pm⟩,d.nk,d.nl,d.ng,d.fg,d.fl⟩
end
theorem CW (a b:Int):(if b < a then b else a)=if a < b then a else b:=by split <;> split <;> lia
structure WAt (lk lf:Addr)(cs ps ss:List (List Int))(H:Hp)(a:Addr)(j:Nat)(g tl q:Addr)(xg xq:List V):Prop where
 e:H a=some (.tup [.ref g,.ref tl,.ref q])
 gk:g≠lk
 gf:g≠lf
 eg:H g=some (.lst xg)
 elg:Els H xg (srt (tD cs ps ss j).g)
 gs:g≠sysModules
 qk:q≠lk
 qf:q≠lf
 eq:H q=some (.lst xq)
 elq:Els H xq (dX cs ps ss (j+1))
 qs:q≠sysModules
 el:H tl=some (.tup ((tD cs ps ss j).l.map V.int))
theorem WAt.keep {lk lf:Addr}{cs ps ss:List (List Int)}{H H':Hp}{a:Addr}{j:Nat}{g tl q:Addr}{xg xq:List V}{kv:List (List Key×V)}{xl:List V}(h:WAt lk lf cs ps ss H a j g tl q xg xq)(k:∀ b o,b≠lk->b≠lf->H b=some o->H' b=some o)(e1:H lk=some (.dT kv))(e2:H lf=some (.lst xl)):WAt lk lf cs ps ss H' a j g tl q xg xq:=by
 have tp:∀ b z,H b=some (.tup z)->H' b=some (.tup z):=fun b z e=>k b _ (fun w=>by rw [w,e1] at e;cases e) (fun w=>by rw [w,e2] at e;cases e) e;exact ⟨tp _ _ h.e,h.gk,h.gf,k _ _ h.gk h.gf h.eg,h.elg.keep tp,h.gs,h.qk,h.qf,k _ _ h.qk h.qf h.eq,h.elq.keep tp,h.qs,tp _ _ h.el⟩
def WA (lk lf:Addr)(cs ps ss:List (List Int))(H:Hp)(a:Addr)(j:Nat):Prop:=∃ g tl q xg xq,WAt lk lf cs ps ss H a j g tl q xg xq
theorem WA.keep {lk lf:Addr}{cs ps ss:List (List Int)}{H H':Hp}{a:Addr}{j:Nat}{kv:List (List Key×V)}{xl:List V}(h:WA lk lf cs ps ss H a j)(k:∀ b o,b≠lk->b≠lf->H b=some o->H' b=some o)(e1:H lk=some (.dT kv))(e2:H lf=some (.lst xl)):WA lk lf cs ps ss H' a j:=by
 obtain ⟨g,tl,q,xg,xq,h⟩:=h;exact ⟨g,tl,q,xg,xq,h.keep k e1 e2⟩
theorem G3 (cs ps ss:List (List Int)):∀ n,(dX cs ps ss n).Pairwise (fun a b=>HT.lexLt b a=false)
 | 0=>List.Pairwise.nil
 | n+1=>CG _
theorem yd {H:Hp}{d b:Addr}{o:Obj}{ps M:List (List Int)}{r:List Int}(e:H d=some (.frz o (.dT (M.map (kvS ps)))))(nd:(M.map keyOf).Nodup)(hr:r∈M)(eb:H b=some (.tup ((cU ps r).map V.int))):DGet H d (.ref b) (some (.int (fl r 3))):=by
 have:=oX (CT (ps:=ps) nd) (zA5.mpr ⟨r,hr,rfl⟩);rw [<- this];exact .inr ⟨_,_,b,.inr ⟨o,e⟩,rfl,by rw [eb,zAr];rfl,rfl⟩
theorem Lts.but {fo lk:Addr}{H0 H H':Hp}{dm:Int->Int->Prop}{f:Int->Int->List Int}{kvs KD:List (List Key×V)}(g:Lts fo H0 H dm f kvs)(k:∀ b o,b≠lk->H b=some o->H' b=some o)(nf:fo≠lk)(n0:H0 lk=none)(el:H lk=some (.dT KD)):Lts fo H0 H' dm f kvs :=
 ⟨fun b o e=>k _ _ (au e n0) (g.sm _ _ e),g.nf,k _ _ nf g.e,fun n y h=>by
  obtain ⟨d,e1,e2⟩:=g.g n y h
  exact ⟨d,e1,k _ _ (fun z=>by rw [z,el] at e2;cases e2) e2⟩,g.no,g.i,g.fr,g.kd,g.kk⟩
theorem Lts.butL {fo lf:Addr}{H0 H1 H H':Hp}{dm:Int->Int->Prop}{f:Int->Int->List Int}{kvs:List (List Key×V)}{xl:List V}(g1:Lts fo H0 H1 dm f kvs)(g:Lts fo H0 H dm f kvs)(k:∀ b o,b≠lf->H b=some o->H' b=some o)(n1:H1 lf=none)(s1:Same H0 H1):Lts fo H0 H' dm f kvs :=
 ⟨fun b o e=>k _ _ (au (s1 _ _ e) n1) (g.sm _ _ e),g.nf,k _ _ (au g1.e n1) g.e,fun n y h=>by
  obtain ⟨d,e1,e2⟩:=g.g n y h;obtain ⟨d',mP,A5⟩:=g1.g n y h;rw [e1] at mP;cases mP
  exact ⟨d,e1,k _ _ (au A5 n1) e2⟩,g.no,g.i,g.fr,g.kd,g.kk⟩
def rkI (k:List Key):List Int:=k.map fun x=>match x with
 | .inl i=>i
 | .inr _=>0
theorem ye (r:List Int):rkI (r.map Sum.inl)=r:=by
 unfold rkI;rw [zAr];exact List.map_id r
def eJ (ps:List (List Int))(n:Nat)(y:Int)(R:List (List Int))(j:Nat):List (List Int):=(R.take j).filter (old ps n y)
def mJ (ps:List (List Int))(n:Nat)(y w:Int)(R:List (List Int))(j:Nat):List (List Int):=(R.take j).filter (fun r=>!old ps n y r)++((eJ ps n y R j).zip (aY w (eJ ps n y R j))).map iI++R.drop j
section
variable {ps R:List (List Int)}{n j:Nat}{y w:Int}
theorem yf (hj:j < R.length)(h:old ps n y R[j]=false):eJ ps n y R (j+1)=eJ ps n y R j:=by
 unfold eJ;rw [zAj,zA0 hj,List.filter_append,show (some R[j]).toList=[R[j]] from rfl,zB9 (by rw [h];exact zAg),List.filter_nil,zAn]
theorem CZ (hj:j < R.length)(h:old ps n y R[j]=true):eJ ps n y R (j+1)=eJ ps n y R j++[R[j]]:=by
 unfold eJ;rw [zAj,zA0 hj,List.filter_append,show (some R[j]).toList=[R[j]] from rfl,zBb h,List.filter_nil]
theorem Jg (hj:j < R.length)(h:old ps n y R[j]=false):(mJ ps n y w R j).Perm (mJ ps n y w R (j+1)):=by
 unfold mJ;rw [yf hj h,zAj,zA0 hj,List.filter_append,show (some R[j]).toList=[R[j]] from rfl,zBb (p:=fun r=>!old ps n y r) (by rw [h];rfl),List.filter_nil,List.drop_eq_getElem_cons hj,zAf,zAf,zAf];refine List.Perm.append_left _ ?_;exact List.perm_middle
theorem GQ (hj:j < R.length)(h:old ps n y R[j]=true){m:Int}(hm:m=if w - (aY w (eJ ps n y R j)).sum < fl R[j] 3 then w - (aY w (eJ ps n y R j)).sum else fl R[j] 3) :
  mJ ps n y w R (j+1)=(R.take j).filter (fun r=>!old ps n y r)++((eJ ps n y R j).zip (aY w (eJ ps n y R j))).map iI++iI (R[j],m)::R.drop (j+1)/\aY w (eJ ps n y R (j+1))=aY w (eJ ps n y R j)++[m]/\cj ((eJ ps n y R (j+1)).zip (aY w (eJ ps n y R (j+1))))=cj ((eJ ps n y R j).zip (aY w (eJ ps n y R j)))++(if 0 < m then [zF (R[j],m)] else []):=by
 have e1:aY w (eJ ps n y R (j+1))=aY w (eJ ps n y R j)++[m]:=by rw [CZ hj h,iw,hm]
 have e2:(eJ ps n y R (j+1)).zip (aY w (eJ ps n y R (j+1)))=(eJ ps n y R j).zip (aY w (eJ ps n y R j))++[(R[j],m)]:=by
  rw [e1,CZ hj h,List.zip_append (by rw [du])];rfl
 refine ⟨?_,e1,?_⟩
 ·unfold mJ;rw [e2,zAj,zA0 hj,List.filter_append,show (some R[j]).toList=[R[j]] from rfl,zB9 (p:=fun r=>!old ps n y r) (by rw [h];exact zAg),List.filter_nil,zAn,zA4,zAf,zAf,zAf];rfl
 ·rw [e2,gM];rfl
theorem Dc (hj:j < R.length):mJ ps n y w R j=(R.take j).filter (fun r=>!old ps n y r)++((eJ ps n y R j).zip (aY w (eJ ps n y R j))).map iI++R[j]::R.drop (j+1):=by
 unfold mJ;rw [List.drop_eq_getElem_cons hj]
theorem Jh (h:(R.map keyOf).Nodup):((mJ ps n y w R j).map keyOf).Nodup:=by
 unfold mJ;rw [zA4,zA4,eU (f:=iI) (fun _=>rfl) (du _ _),<- zA4];rw [<- zBa j R,zA4] at h;refine ((List.Perm.append_right _ ?_).nodup_iff).mpr h;refine List.Perm.map _ ?_;exact List.perm_append_comm.trans (List.filter_append_perm (old ps n y) (R.take j))
theorem GR:(mJ ps n y w R j).length=R.length:=by
 unfold mJ eJ;rw [zA2,zA2,zA1,zAs,du,List.length_drop];have:=(List.filter_append_perm (old ps n y) (R.take j)).length_eq;rw [zA2,zAd] at this;lia
theorem K7:mJ ps n y w R 0=R:=rfl
end
theorem GX {c:List Int}{ps ss ow:List (List Int)}{y:Int}{n:Nat}{M G M1 N:List (List Int)}{w:Int}(g:Stg c ps ss ow y n M G)(pm:M1.Perm (M++N))(hN:∀ r∈N,fl r 0=y) :
  eJ ps n y (jC ps M1) (jC ps M1).length=elder ps M n/\(mJ ps n y w (jC ps M1) (jC ps M1).length).Perm (others ps M n++((elder ps M n).zip (aY w (elder ps M n))).map iI++N):=by
 have e1:eJ ps n y (jC ps M1) (jC ps M1).length=elder ps M n:=by
  unfold eJ;rw [zAm];exact CP g pm hN
 refine ⟨e1,?_⟩;unfold mJ;rw [e1,zAm,List.drop_length,zAn]
 have pf:((jC ps M1).filter fun r=>!old ps n y r).Perm (others ps M n++N):=by
  refine (((mW ps M1).trans pm).filter _).trans (.of_eq ?_);rw [List.filter_append,List.filter_eq_self (l:=N).mpr fun r hr=>?_]
  ·unfold others;congr 1;refine List.filter_congr fun r hr=>?_;unfold old;by_cases e:aP ps r=n
   ·rw [zAt e,zAt (p:=fl r 0 < y) (by rcases g.yr r hr with z | z <;> lia)];rfl
   ·rw [zAz e];rfl
  ·unfold old;rw [zAz (p:=fl r 0 < y) (by have:=hN r hr;lia),Bool.and_false];rfl
 refine (pf.append_right _).trans ?_;rw [zAf,zAf];exact List.Perm.append_left _ List.perm_append_comm
theorem mX {X:Cx}:SlR X (fun x lo hi H Q=>∃ a xs,x=.ref a/\H a=some (.tup xs)/\∀ c H',Same H H'->H' c=some (.tup (jF xs lo hi))->Q (.ref c) H'):=by
 intro pins s σ H x v vl vu lo hi sl Q I rx hs pl pu h;obtain ⟨a,xs,rfl,ha,q⟩:=h;refine wM pins s σ H _ v vl vu lo hi sl Q I rx hs pl pu ⟨a,xs,rfl,SqT.of ha,fun hw=>q a H (Same.refl H) ?_,fun _ p hp=>q p _ (Same.upd hp) aa⟩;rw [ha];unfold jF;rw [hw.1,hw.2,List.drop_zero,Nat.sub_zero,zAm]
theorem tG {H:Hp}{l:List Addr}{row:Addr->List Int}(h:∀ a∈l,H a=some (.tup ((row a).map V.int))):Els H (l.map V.ref) (l.map row) :=
 ⟨by rw [zA1,zA1],fun i r e=>by
  rw [zAb] at e ⊢
  cases z:l[i]? with
  | none=>rw [z] at e;cases e
  | some a =>
   rw [z] at e;cases e
   exact ⟨a,rfl,h a (zB7 z)⟩⟩
inductive SpYearsLI (vs:List V)(H:Hp)(Q:VK):Prop
 | mk:∀ ac xc cs ap xp ps ae xs ss,(vs=[.ref ac,.ref ap,.ref ae])->(RowsAt H ac xc cs)->((∀ r∈cs,r.length=3/\∀ x∈r,0<=x))->(cs.length<=20)->(RowsAt H ap xp ps)->(ps.length<=10)->((∀ r∈ps,okP r))->(RowsAt H ae xs ss)->(ss.length<=12)->((∀ s∈ss,s.length=5))->(un ps ss=none)->(∀ l lk (ts:List Addr) H',Same H H'->H l=none->H' l=some (.lst (ts.map V.ref))->ts.length=cs.length->(∀ j a,ts[j]?=some a->WA lk l cs ps ss H' a j)->Q (.ref l) H')->SpYearsLI  vs H Q
def uT:Sp:=fun vs H Q _=>SpYearsLI  vs H Q
theorem iB:bootBuiltins "sorted" = some (.builtin "sorted"):=by decide +kernel
theorem qU:bootBuiltins "min" = some (.builtin "min"):=by decide +kernel
theorem zP:bootBuiltins "tuple" = some (.type "tuple"):=by decide +kernel
theorem Ji:(["_law_one","_law_part","_law_year"]:List Str).Nodup:=by decide +kernel
theorem K8:(["_law_key","_law_lacks"]:List Str).Nodup:=by decide +kernel
theorem scLY:FnScope ["_law_clips_here","_law_promises","_law_sales","_law_rows_here","_law_lacks","_law_found","_law_year","_law_clip","_law_gifts","_law_down","_law_downs","_law_sort","_law_some","_law_parts","_law_key","_law_part","_law_owing_here"] ["_law_clips_here","_law_promises","_law_sales"] (aG (top 74)):=fS
theorem zQ (F:Fun K "_law_years" "_law_years" (top 74) f fd)(T:Mg mg)(Te:mg "enumerate" = none)(Tr:mg "range" = none)(Tz:mg "zip" = none)(To:mg "sorted" = none)(Tn:mg "min" = none)(Ts:mg "sum" = none)(c1:Cal P w K mg base 1 "_law_rows" ["_law_promises","_law_sales"] spRows)(c2:Cal P w K mg base 1 "_law_claims" ["_law_promises","_law_rows_here","_law_year","_law_sort"] qR)(c3:Cal P w K mg base 2 "_law_served" ["_law_lacks","_law_some","_law_year","_law_sort","_law_have"] uO) :
  FnOk P w K mg base CX0 3 f fd ["_law_clips_here","_law_promises","_law_sales"] uT:=by
 refine F.ok scLY (fun vs H Q E h=>?_) (fun ar A outer s H vs Q E hr h=>?_)
 ·obtain ⟨ac,xc,cs,ap,xp,ps,ae,xs,ss,rfl,_⟩:=h;rfl
 ·obtain ⟨ac,xc,cs,ap,xp,ps,ae,xs,ss,rfl,rc,okc,lc,rp,lp,okp,rs,ls,h5,hu,q⟩:=h
  refine K61P.ok_b (aJ ⟨cz (bD (aq (pX bO (aF c1 hr (aq (pv 1) (aq (pv 2) aj))) aA) (aq uf (aq (cX aj) aj)))) (bJ rfl (ao (pgn 3 scLY.nd) (ao (bh (i:=4) scLY.nd rfl (Or.inr rfl)) (ao (pgn 5 scLY.nd) aV))))⟩
   (aJ ⟨bY zB3 rfl (pi_enum rfl Te (aq (pv 0) aj)) (bJ rfl (ao (bh (i:=6) scLY.nd rfl (Or.inr rfl)) (ao (pgn 7 scLY.nd) aV)))
   (iD (aJ ⟨Ef (i:=8) (j:=9) (k:=10) rfl scLY.nd rfl rfl rfl (by decide) (by decide) (by decide) rfl rfl rfl (aq (cX aj) (aq aA (aq (cX aj) aj))) rfl⟩
   (aJ ⟨bY zB3 rfl (cD rfl Tr (aq aA aj)) (pgn 11 scLY.nd)
    (iD (aJ (gA 12 scLY.nd ⟨aF c2 hr (aq (pv 1) (aq (pv 3) (aq (pv 6) (aq (pv 11) aj))))⟩)
    (aJ (gA 13 scLY.nd ⟨aF c3 hr (aq (pv 4) (aq (pv 12) (aq (pv 6) (aq (pv 11) (aq (aU bZ (pX bO (pv 7) (pv 11)) (pv 9)) aj)))))⟩)
    (aJ (gA 8 scLY.nd ⟨aU vp (pv 8) (bC (g:=jj K 2 (bN (bw 0) (bN (bw 1) jo))) ["_law_one","_law_part","_law_year"] [none,none,some 6] rfl (ZL.pi_zip rfl Tz (aq (pv 12) (aq (pv 13) aj)))
     (fun C fp pins s₂ H₂=>⟨cZ rfl rfl (ao (pgn 0 Ji) (ao (pgn 1 Ji) aV)),gm (bj jD (pv 1) aA (bA _)),
      wL (nY (eO ⟨pv 2⟩ (eO ⟨pX (K61P.ix_tupK (K:=K) rfl) (pv 0) aA⟩ (eO ⟨pX (K61P.ix_tupK (K:=K) rfl) (pv 0) aA⟩ (eO ⟨pv 1⟩ f9)))))⟩)
     (fun C=>cI trivial) ⟨rfl,rfl,rfl,rfl⟩)⟩)
    (aJ (gA 9 scLY.nd (Aw cP ⟨aU bZ (pX bO (pv 7) (pv 11)) (pv 9)⟩ ⟨aN (cV rfl) rfl Ts qT (aq (pv 13) aj)⟩))
    (aJ ⟨bY zB3 rfl (bW (aN (pO rfl) rfl To iB (aq (pv 4) aj))) (pgn 14 scLY.nd)
     (iD (aJ (gA 15 scLY.nd ⟨ni (PW.pt (rA (bj jk (pX bO (pv 14) aA) (pv 11) (bA _)) (mF (bj jl (pX bO (pv 14) aA) (pv 6) (bA _))))) (aN (fK rfl) rfl Tn qU (aq (pv 9) (aq (dY (fW hr) (pv 4) (pv 14) (fun _ _=>rfl)) aj))) aA⟩)
     (bT ⟨cF (bj jD (pv 15) aA (bA _))
      (iD (aJ ⟨cO (nG zBd zBg zBf fM (pv 8) (aq (aU K61Q.op_catU (fV mX (pv 14) (gZ aA) gY) (bD (aq (pv 15) aj))) aj))⟩
      (bT ⟨cz (bD (aq (aU cP (dY (fW hr) (pv 4) (pv 14) (fun _ _=>rfl)) (pv 15)) (aq (aU cP (pv 9) (pv 15)) aj))) (bJ rfl (ao (fP (pv 4) (pv 14) (set_dict (fW hr))) (ao (pgn 9 scLY.nd) aV)))⟩))) bf⟩)))⟩
    (bT ⟨cO (nG zBd zBg zBf fM (pv 10) (aq (pv 9) aj))⟩)))))))⟩
   (aJ (gA 16 scLY.nd ⟨aN dB rfl To iB (aq (Gz (bC ["_law_key","_law_lacks"] [none,some 4] rfl (xu (pv 4)) (fun C fp pins s₂ H₂=>⟨pgn 0 K8,gm (bj jD (dY (fW hr) (pv 1) (pv 0) (fun _ _=>rfl)) aA (bA _)),aU K61Q.op_catU (fV mX (pv 0) (gZ aA) gY) (bD (aq (dY (fW hr) (pv 1) (pv 0) (fun _ _=>rfl)) aj))⟩) (fun C=>cI trivial) ⟨rfl,rfl,rfl,rfl⟩)) aj)⟩)
   (bT ⟨cO (nG zBd zBg zBf fM (pv 5) (aq (wL (nY (eO ⟨aN dB rfl To iB (aq (pv 8) aj)⟩ (eO ⟨bM bF rfl T.tuple zP (aq (pv 10) aj)⟩ (eO ⟨pv 16⟩ f9))))) aj))⟩)))))⟩
   (bT (rR ⟨pv 5⟩)))) ?_
  refine cC fun c_ ba=>?_;refine ⟨_,rfl,_,rfl,ap,xp,ps,ae,xs,ss,rfl,rp,lp,okp,rs,by lia,h5,fun tt fo H1 s1 EX Oa=>⟨tt,_,0,.ref fo,rfl,rfl,SqT.of EX,rfl,fun lk lI=>⟨zL,fun lf zk=>⟨zL,fun t3 Ob=>⟨t3,_,rfl,SqT.of aa,rfl,_,_,rfl,_,_,rfl,_,_,rfl,rfl,?_⟩⟩⟩⟩⟩;obtain ⟨kvs,dt⟩:=Oa hu;have u2:=Same.upd (o:=.dT []) lI;have u3:=Same.upd (o:=.lst []) zk;have u4:=Same.upd (o:=.tup [.ref fo,.ref lk,.ref lf]) Ob;have vF:H lk=none:=s1.free lI;have Oc:H lf=none:=(s1.trans u2).free zk;have nf:fo≠lk:=au dt.e lI
  have KG:lf≠lk:=fun z=>by rw [z,aa] at zk;cases zk
  have KH:=dt.same u2;have sA:=s1.trans u2
  obtain ⟨HA,E4⟩:∃ HA,HA=upd H1 lk (.dT []):=⟨_,rfl⟩
  rw [<- E4] at KH sA zk u3 u4;refine ba _ _ ?_;clear ba c_
  try dsimp only
  rw [<- E4];have CO:HA lk=some (.dT (([]:List (List Int)).map (kvS ps))):=by rw [E4];exact aa
  refine tu (fun H4=>Same H H4/\H4 lk=some (.dT (([]:List (List Int)).map (kvS ps)))/\H4 lf=some (.lst (([]:List Addr).map V.ref))/\Lts fo H H4 (dom ps) (hl ps ss) kvs) ⟨(sA.trans u3).trans u4,u4 _ _ (u3 _ _ CO),u4 _ _ aa,(KH.same u3).same u4⟩ fun H4 ⟨S4,KI,KJ,Rg⟩=>?_;clear dt u2 u3 u4 lI Ob EX Oa s1 CO E4;refine aC ?_;refine ⟨_,rfl,ac,xc,rfl,SqT.of (S4 _ _ rc.e),?_⟩;refine gF (xs:=xc) (fun i σ Hc=>∃ x6 x7 x8 x9 bX bP bS bg aS cm fe M,∃ ts:List Addr,σ=[some (.ref ac),some (.ref ap),some (.ref ae),some (.ref fo),some (.ref lk),some (.ref lf),x6,x7,x8,x9,bX,bP,bS,bg,aS,cm,fe]/\Same H Hc/\LkS Hc lk ps M/\Lk ps (dX cs ps ss i) i M/\Lts fo H Hc (dom ps) (hl ps ss) kvs/\Hc lf=some (.lst (ts.map V.ref))/\ts.length=i/\∀ j a,ts[j]?=some a->WA lk lf cs ps ss Hc a j) ?_ ?_ ?_ ?_
  ·exact ⟨none,none,none,none,none,none,none,none,none,none,none,[],[],rfl,S4,⟨[],KI,List.Perm.refl _⟩,⟨List.nodup_nil,fun r hr=>(by cases hr),fun r hr=>(by cases hr),List.Perm.refl _,Nat.le_refl _⟩,Rg,KJ,rfl,fun j a e=>(by simp at e)⟩
  ·rintro i σ Hc hi ⟨x6,x7,x8,x9,bX,bP,bS,bg,aS,cm,fe,M,ts,rfl,k,la,E5,dt,zo,lt,hw⟩;exact SqT.of (k _ _ rc.e)
  ·rintro y x σ Hc T0 hx ⟨x6,x7,x8,x9,bX,bP,bS,bg,aS,cm,fe,M,ts,rfl,k,la,E5,dt,zo,lt,hw⟩ nT
   have hy:y < cs.length:=by
    have:=(zAa.mp hx).1;rw [rc.l] at this;exact this
   obtain ⟨tc,dA,BG⟩:=rc.g y cs[y] (zA0 hy)
   have:x=.ref tc:=by
    rw [hx] at dA;exact zAl dA
   subst this;have ec:cs.getD y []=cs[y]:=getD_get hy;obtain ⟨Rh,E6⟩:=okc _ (zAh hy);generalize WL:cs[y]=c at BG ec Rh E6;obtain ⟨iO,Kj⟩:=uN (cs:=cs) lp hu h5 okp y;have Od:=G3 cs ps ss y;generalize how:dX cs ps ss y=ow at E5 iO Kj Od;have sT:=Same.upd (o:=.tup [V.int y,V.ref tc]) nT;have k1:=k.trans sT;have CA:=la.same sT;have KL:=dt.same sT;have pT:=sT _ _ zo;obtain ⟨WM,gu,JU⟩:=id CA
   have E7:∀ j a,ts[j]?=some a->WA lk lf cs ps ss (upd Hc T0 (.tup [V.int y,V.ref tc])) a j:=fun j a e=>by
    obtain ⟨Mo,dP,_⟩:=la;exact (hw j a e).keep (fun b o _ _ e=>sT _ _ e) dP zo
   have eT:=aa (H:=Hc) (a:=T0) (o:=.tup [V.int y,V.ref tc]);generalize upd Hc T0 (.tup [V.int y,V.ref tc])=Hy at k1 CA KL pT gu E7 eT ⊢;clear hw dt la zo sT k nT;refine ⟨T0,_,rfl,SqT.of eT,rfl,_,_,rfl,_,_,rfl,rfl,?_⟩;refine pU fun De yY=>?_
   try dsimp only
   have pV:=k1 _ _ BG;have ET:=rp.same k1;refine cC fun c_ ba=>?_;refine ⟨zL,fun lg rX=>⟨zL,fun ll fk=>⟨_,_,_,rfl,?_⟩⟩⟩;refine ba _ _ ?_;clear ba c_
   try dsimp only
   have W0:Wd ps Hy (upd (upd Hy lg (.lst [])) ll (.lst [])) lk lg ll [] [] [] M:=by
    have s1:=Same.upd (o:=.lst []) rX;have s2:=Same.upd (o:=.lst []) fk;exact ⟨fun b o n e=>s2 _ _ (s1 _ _ e),s2 _ _ aa,Els.nil,aa,CA.same (s1.trans s2),(au gu rX).symm,(au gu (s1.free fk)).symm,(fun z=>by rw [<- z,aa] at fk;cases fk),rX,s1.free fk⟩
   refine tu (fun H1=>Wd ps Hy H1 lk lg ll [] [] [] M) W0 fun H1 W0=>?_;clear rX fk;refine cC fun cc qr=>?_;refine ⟨3,rfl,by decide,by decide,?_⟩;refine di (lo:=0) (n:=3) (fun i σ Hc=>∃ bP bS bg aS cm lg xg G Mi,σ=[some (.ref ac),some (.ref ap),some (.ref ae),some (.ref fo),some (.ref lk),some (.ref lf),some (.int y),some (.ref tc),some (.ref lg),some (.int (yTo c ps ss ow y i).d),some (.ref ll),bP,bS,bg,aS,cm,fe]/\Wd ps Hy Hc lk lg ll xg G (yTo c ps ss ow y i).l Mi/\Stg c ps ss ow y i Mi G/\cG G=G) ?_ ?_ ?_
   ·exact ⟨_,_,_,_,_,lg,[],[],M,rfl,W0,E5.start c ss okp iO,rfl⟩
   ·rintro i σ Hc hi ⟨bP,bS,bg,aS,cm,lg,xg,G,Mi,rfl,W,g,pG⟩;have i3:(0:Int)+(i:Int)=(i:Int):=Int.zero_add _;refine aH ?_;rw [i3];refine pU fun Nu Ri=>?_
    try dsimp only
    obtain ⟨cl,ma⟩:∃ cl,cl=aK ps ss i y:=⟨_,rfl⟩
    obtain ⟨d,Oe⟩:∃ d,d=(yTo c ps ss ow y i).d:=⟨_,rfl⟩
    obtain ⟨w1,KN⟩:∃ w1,w1=c.getD i 0+d:=⟨_,rfl⟩
    obtain ⟨sh,kG⟩:∃ sh,sh=aZ w1 cl:=⟨_,rfl⟩
    obtain ⟨md,CS⟩:∃ md,md=aY (w1 - sh.sum) (elder ps Mi i):=⟨_,rfl⟩
    obtain ⟨g',ed,iX⟩:=g.stepS Od E6 hu h5 okp lp iO hi (by rw [KN,Oe]) ma kG CS;have gI:=gO (sort:=i) (year:=y) hu h5 okp;have ml:=dI (ss:=ss) (sort:=i) (year:=y) lp;rw [<- ma] at gI ml;have CH:sh.length=cl.length:=by rw [kG];exact shares_len
    have E7:0<=w1:=by
     have:=Cd (y:=y) E6 hu h5 okp lp iO i;have:=jg E6 i;lia
    have WN:=g.len;have WO:=g.glen
    have ix:∀ r∈cl,fl r 0=y/\aP ps r=i:=fun r hr=>by
     rw [ma] at hr;obtain ⟨a1,a2,_⟩:=iz hr;exact ⟨a1,a2⟩
    have E1:(cl.map keyOf).Nodup:=by rw [ma];exact CJ _
    have E2:∀ r∈cl,¬ keyOf r∈Mi.map keyOf:=fun r hr hm=>by
     obtain ⟨q',hq,e⟩:=zA5.mp hm;obtain ⟨a1,a2⟩:=ix r hr;have e1:=xZ (ps:=ps) e;unfold cU at e1;injection e1 with e1 e2;unfold keyOf at e2;injection e2 with e2 _;rcases g.yr q' hq with z | z <;> lia
    have Of:(c.map V.int)[i]?=some (.int (c.getD i 0)):=by
     rw [zAb,zA7,zA0 (by lia)];rfl
    have Og:tc≠lk:=fun z=>by rw [z,gu] at pV;cases pV
    rw [<- Oe];refine cC fun c_ ba=>?_;refine aW ?_;refine ⟨_,rfl,_,rfl,_,rfl,_,rfl,ap,xp,ps,fo,H,kvs,ss,(i:Int),(y:Int),rfl,ET.but W.k gu,lp,okp,KL.but W.k nf vF gu,fun CU Oh H2 s2 CY p9=>?_⟩;rw [<- ma] at p9;have W2:=W.same s2;refine aH ?_;refine ba _ _ ?_;clear ba c_
    try dsimp only
    refine cC fun c_ ba=>?_;refine aW ?_;refine ⟨_,rfl,_,rfl,_,rfl,_,rfl,_,rfl,_,rfl,tc,_,(i:Int),.int (c.getD i 0),rfl,rfl,SqT.of (W2.k _ _ Og pV),cY Of,_,rfl,_,_,rfl,rfl,lk,ps,Mi,CU,Oh,cl,(y:Int),(i:Int),w1,by rw [KN];rfl,W2.lka,by lia,CY,p9,gI,ml,ix,E1,E2,E7,fun C3 H3 kb xh Oi nB=>?_⟩;rw [<- kG] at xh nB;obtain ⟨WQ,qa,_⟩:=id W2.lka
    have KO:CU≠lk:=fun z=>by rw [z,qa] at CY;cases CY
    have Rj:C3≠lk:=(au qa Oi).symm;have KP:∀ b z,H2 b=some (.tup z)->H3 b=some (.tup z):=fun b z e=>kb _ _ (fun w=>by rw [w,qa] at e;cases e) e
    have W3:Wd ps Hy H3 lk lg ll xg G (yTo c ps ss ow y i).l (Mi++bz (cl.zip sh)):=⟨fun b o n e=>kb _ _ n (W2.k b o n e),kb _ _ W2.nk W2.eg,W2.elg.keep KP,kb _ _ W2.nl W2.el,nB,W2.nk,W2.nl,W2.ng,W2.fg,W2.fl⟩
    have mn:=kb _ _ KO CY;have mv:=p9.keep KP;clear kb KP W2 qa CY p9 Oi nB W s2;refine aH ?_;refine ba _ _ ?_;clear ba c_
    try dsimp only
    refine cC fun c_ ba=>?_;refine aW ?_;have N7:Oh.length=cl.length:=by rw [mv.1,zA1]
    refine ⟨_,rfl,_,rfl,_,rfl,CU,C3,_,_,rfl,SqL.of mn,SqL.of xh,?_⟩;refine eQ cl.length (fun j ys σ Hd=>Same H3 Hd/\(∃ o1 o2,σ=[o1,o2,some (.int y)])/\Els Hd ys (cj ((cl.zip sh).take j))) ⟨Same.refl _,⟨_,_,rfl⟩,Els.nil⟩ (by rw [sizeLine_eq];lia) ?_ ?_
    ·rintro j ys σ Hd hj KQ ⟨sd,⟨o1,o2,rfl⟩,kx⟩;have CL:j < sh.length:=by lia
     obtain ⟨t,ex,et⟩:=mv.2 j cl[j].tail (by rw [zAb,zA0 hj];rfl)
     have CI:cl[j].tail=[fl cl[j] 1,fl cl[j] 2,fl cl[j] 3]:=by
      conv=>lhs;rw [bR (gI _ (zAh hj)).1]
      rfl
     rw [CI] at et;have ey:=(ix _ (zAh hj)).1;have Kz:(cl.zip sh)[j]?=some (cl[j],sh[j]):=by rw [List.getElem?_zip_eq_some];exact ⟨zA0 hj,zA0 CL⟩
     have bq:(cl.zip sh).take (j+1)=(cl.zip sh).take j++[(cl[j],sh[j])]:=by rw [zAj,Kz];rfl
     have Oj:(sh.map V.int)[j]?=some (.int sh[j]):=by rw [zAb,zA0 CL];rfl
     refine ⟨⟨_,_,_,_,SqL.of (sd _ _ mn),SqL.of (sd _ _ xh),ex,Oj⟩,fun v H' yv R hR=>?_⟩;obtain ⟨TT,KR,rfl,yv⟩:=yv;obtain ⟨x',z',Fu,Ol,rfl⟩:=yv _ _ (SqL.of (sd _ _ mn)) (SqL.of (sd _ _ xh));rw [ex] at Fu;cases Fu;rw [Oj] at Ol;cases Ol;have KS:=sd.updR (o:=.tup [V.ref t,V.int sh[j]]) KR;have iP:=KS _ _ et;refine ⟨TT,_,rfl,SqT.of aa,rfl,_,_,rfl,_,_,rfl,rfl,?_⟩;refine ⟨_,rfl,_,_,rfl,rfl,_,rfl,?_⟩;by_cases hp:0 < sh[j]
     ·rw [zAt hp];refine bQ ⟨_,rfl,_,rfl,t,_,0,.int (fl cl[j] 1),rfl,rfl,SqT.of iP,rfl,_,rfl,t,_,1,.int (fl cl[j] 2),rfl,rfl,SqT.of iP,rfl,_,rfl,zL,fun t4 Om=>hR _ _ _ (by rw [zA2];show ys.length+1<=j+1;lia) ⟨KS.updR Om,⟨_,_,rfl⟩,?_⟩⟩;rw [bq,gM,zAx (show 0 < (cl[j],sh[j]).2 from hp)];refine ((kx.same (Same.upd KR)).same (Same.upd Om)).app (Els.one ?_);rw [aa];show some (HO.tup [V.int y,_,_,_])=some (HO.tup [V.int (fl cl[j] 0),_,_,_]);rw [ey]
     ·rw [zAz hp];refine bB (hR _ _ _ (by lia) ⟨KS,⟨_,_,rfl⟩,?_⟩);rw [bq,gM,zAw (show ¬ 0 < (cl[j],sh[j]).2 from hp),zAn];exact kx.same (Same.upd KR)
    rintro ys σ Hd KQ ⟨sd,_,kx⟩;rw [List.take_of_length_le (by rw [zAs];lia)] at kx;refine ⟨⟨_,_,SqL.of (sd _ _ mn),SqL.of (sd _ _ xh),.inl (by rw [N7];exact zA3 _)⟩,fun D hD=>?_⟩;have sD:=sd.updR (o:=.lst ys) hD;have WD:=W3.same sD;have C4:=WD.elg.1;refine ⟨lg,D,xg,ys,rfl,rfl,WD.eg,aa,by rw [C4,sizeLine_eq];have:i * (240 * (y:Int).toNat+400)<=3 * (240 * (y:Int).toNat+400):=Nat.mul_le_mul_right _ (by lia);lia,fun h8 ij=>?_⟩;have sp:=Same.upd (o:=.lst (xg++ys)) ij
    have W4:Wd ps Hy (upd (upd Hd D (.lst ys)) h8 (.lst (xg++ys))) lk h8 ll (xg++ys) (G++cj (cl.zip sh)) (yTo c ps ss ow y i).l (Mi++bz (cl.zip sh)):=by
     have WE:=WD.same sp;obtain ⟨WR,si,_⟩:=id WD.lka;refine ⟨WE.k,aa,((WD.elg.app (kx.same (Same.upd hD))).same sp),WE.el,WE.lka,(au si ij).symm,WE.nl,(au WD.el ij).symm,?_,WE.fl⟩
     cases z:Hy h8 with
     | none=>rfl
     | some o =>
      rw [WD.k h8 o (au si ij).symm z] at ij;cases ij
    have xi:=sp _ _ (sD _ _ xh);have xt:=W4.k _ _ Og pV;generalize upd (upd Hd D (.lst ys)) h8 (.lst (xg++ys))=H4 at W4 xi xt ⊢;generalize xg++ys=Oo at W4;clear sp sD WD W3 kx ij hD sd mn mv xh C4;refine aH ?_;refine ba _ _ ?_;clear ba c_
    try dsimp only
    refine cC fun c_ ba=>?_;refine aW ?_;refine ⟨_,rfl,_,rfl,tc,_,(i:Int),.int (c.getD i 0),rfl,rfl,SqT.of xt,cY Of,_,rfl,_,_,rfl,rfl,_,rfl,C3,sh,rfl,.inl (SqL.of xi),_,_,rfl,rfl,?_⟩;rw [<- KN];refine aH ?_;refine ba _ _ ?_;clear ba c_
    try dsimp only
    obtain ⟨w2,Rk⟩:∃ w2,w2=w1 - sh.sum:=⟨_,rfl⟩
    rw [<- Rk] at iX CS ed ⊢
    have hN:∀ r∈bz (cl.zip sh),fl r 0=y:=fun r hr=>by
     obtain ⟨p,hp,rfl⟩:=zA5.mp hr;exact (ix _ (List.of_mem_zip (show (p.1,p.2)∈_ from (zAq.mp hp).1)).1).1
    obtain ⟨Mo,dP,mw⟩:=id W4.lka
    obtain ⟨R,eR⟩:∃ R,R=jC ps Mo:=⟨_,rfl⟩
    have pR:R.Perm Mo:=by rw [eR];exact mW ps Mo
    have Rl:∀ r∈R,r.length=4/\0<=fl r 3:=fun r hr=>by
     rcases zA6.mp (mw.mem_iff.mp (pR.mem_iff.mp hr)) with z | z
     ·obtain ⟨a1,_,_,a4⟩:=g.ok r z;exact ⟨a1,a4⟩
     ·obtain ⟨p,hp,rfl⟩:=zA5.mp z;have:=zB5 (zAq.mp hp).2;exact ⟨rfl,by show 0<=fl p.1 3 - p.2;lia⟩
    have WS:(bz (cl.zip sh)).length<=80:=by
     unfold bz;rw [zA1];refine Nat.le_trans (List.length_filter_le _ _) ?_;rw [zAs];lia
    have lR:R.length<=10000:=by
     rw [pR.length_eq,mw.length_eq,zA2];lia
    have Rm:(R.map keyOf).Nodup:=by
     refine ((pR.trans mw).map keyOf).nodup_iff.mpr ?_;rw [zA4,List.nodup_append];refine ⟨g.kd,?_,fun a ha b hb e=>?_⟩
     ·refine E1.sublist ?_;have:=(uQ (cl.zip sh)).map keyOf;rw [eU (f:=iI) (fun _=>rfl) CH] at this;exact this
     ·subst e;obtain ⟨p,hp,e⟩:=uP hb;exact E2 p.1 (List.of_mem_zip (show (p.1,p.2)∈_ from hp)).1 (by rw [e];exact ha)
    refine cC fun c_ ba=>?_;refine ⟨_,rfl,lk,Mo.map (kvS ps),rkI,rfl,dP,fun p hp=>?_,fun q' l' row hq pm so hH=>?_⟩
    ·obtain ⟨r,_,rfl⟩:=zA5.mp hp;have e:rkI (kvS ps r).1=cU ps r:=ye (cU ps r);rw [e];exact ⟨rfl,by unfold cU;simp⟩
    have eL:l'.map row=R.map (cU ps):=by
     rw [eR,zM];refine gC ?_ (List.pairwise_map.mpr so);rw [zAr] at pm;refine pm.trans (.of_eq (List.map_congr_left fun r _=>?_));exact ye (cU ps r)
    have S7:=Same.upd (o:=.lst (l'.map V.ref)) hq;have sj:=aa (H:=H4) (a:=q') (o:=.lst (l'.map V.ref))
    have qh:Els (upd H4 q' (.lst (l'.map V.ref))) (l'.map V.ref) (R.map (cU ps)):=by
     rw [<- eL];exact tG fun a ha=>S7 _ _ (hH a ha)
    have dq:q'≠h8/\q'≠ll/\q'≠lk:=⟨(au W4.eg hq).symm,(au W4.el hq).symm,(au dP hq).symm⟩
    have W7:=W4.same S7;generalize upd H4 q' (.lst (l'.map V.ref))=H7 at W7 sj qh ⊢;generalize l'.map V.ref=xq at sj qh ⊢;clear W4 S7 hq pm so hH eL xi xt;have Oq:xq.length=R.length:=by rw [qh.1,zA1]
    refine ⟨q',rfl,⟨_,SqL.of sj⟩,?_⟩;refine fU (xs:=xq) (fun j σ Hk=>∃ aS cm kK,σ=[some (.ref ac),some (.ref ap),some (.ref ae),some (.ref fo),some (.ref lk),some (.ref lf),some (.int y),some (.ref tc),some (.ref h8),some (.int (w2 - (aY w2 (eJ ps i y R j)).sum)),some (.ref ll),some (.int i),some (.ref CU),some (.ref C3),aS,cm,fe]/\Wd ps Hy Hk lk h8 ll kK (G++cj (cl.zip sh)++cj ((eJ ps i y R j).zip (aY w2 (eJ ps i y R j)))) (yTo c ps ss ow y i).l (mJ ps i y w2 R j)/\Hk q'=some (.lst xq)/\Els Hk xq (R.map (cU ps))/\0<=w2 - (aY w2 (eJ ps i y R j)).sum) ?_ ?_ ?_ ?_
    ·refine ⟨aS,cm,Oo,?_,?_,sj,qh,?_⟩
     ·show _=[_,_,_,_,_,_,_,_,_,some (V.int (w2 - 0)),_,_,_,_,_,_,_];rw [Int.sub_zero];rfl
     ·rw [K7,show cj ((eJ ps i y R 0).zip (aY w2 (eJ ps i y R 0)))=[] from rfl,zAn];exact ⟨W7.k,W7.eg,W7.elg,W7.el,W7.lka.pm (pR.trans mw).symm,W7.nk,W7.nl,W7.ng,W7.fg,W7.fl⟩
     ·show 0<=w2 - 0;lia
    ·rintro j σ Hk hj ⟨aS,cm,kK,rfl,Wk,zt,kB,KU⟩;exact SqL.of zt
    ·rintro j x σ Hk hx ⟨aS,cm,kK,rfl,Wk,zt,kB,KU⟩
     have hj:j < R.length:=by
      have:=(zAa.mp hx).1;lia
     obtain ⟨t,ex,et⟩:=kB.2 j (cU ps R[j]) (by rw [zAb,zA0 hj];rfl);rw [hx] at ex;cases ex;have et:Hk t=some (.tup [.int (aP ps R[j]),.int (fl R[j] 0),.int (fl R[j] 1),.int (fl R[j] 2)]):=et;obtain ⟨r4,r0⟩:=Rl _ (zAh hj);have kd:=Jh (ps:=ps) (n:=i) (y:=y) (w:=w2) (j:=j) Rm;have C5:R[j]∈mJ ps i y w2 R j:=by rw [Dc hj];exact zA6.mpr (.inr (.head _))
     refine aH ?_;refine pU fun Rn KW=>?_;refine cC fun cB Ot=>?_;refine aW ?_
     have no:old ps i y R[j]=false->cB [some (.ref ac),some (.ref ap),some (.ref ae),some (.ref fo),some (.ref lk),some (.ref lf),some (.int y),some (.ref tc),some (.ref h8),some (.int (w2 - (aY w2 (eJ ps i y R j)).sum)),some (.ref ll),some (.int i),some (.ref CU),some (.ref C3),some (.ref t),some (.int 0),fe] Hk:=fun hold=>by
      refine Ot _ _ ?_;refine ⟨_,rfl,_,_,rfl,rfl,_,rfl,bB ?_⟩;refine KW _ _ ⟨_,_,kK,by rw [yf hj hold],?_,zt,kB,by rw [yf hj hold];exact KU⟩;rw [yf hj hold];exact ⟨Wk.k,Wk.eg,Wk.elg,Wk.el,Wk.lka.pm (Jg hj hold),Wk.nk,Wk.nl,Wk.ng,Wk.fg,Wk.fl⟩
     refine ⟨_,rfl,t,_,0,.int (aP ps R[j]),rfl,rfl,SqT.of et,rfl,_,rfl,rfl,_,rfl,?_⟩;by_cases hs:aP ps R[j]=i
     ·rw [zAt (by rw [hs])];refine bQ ⟨_,rfl,t,_,1,.int (fl R[j] 0),rfl,rfl,SqT.of et,rfl,_,rfl,_,_,rfl,rfl,_,rfl,?_⟩;by_cases ho:fl R[j] 0 < y
      ·rw [zAt ho];refine bQ ⟨_,rfl,_,rfl,_,rfl,lk,.int (fl R[j] 3),rfl,Wk.lka.get kd C5 et,_,_,rfl,?_⟩
       have hold:old ps i y R[j]=true:=by
        unfold old;rw [zAt hs,zAt ho];rfl
       rw [CW];generalize hm:(if w2 - (aY w2 (eJ ps i y R j)).sum < fl R[j] 3 then w2 - (aY w2 (eJ ps i y R j)).sum else fl R[j] 3)=m;obtain ⟨y1,y2,y3⟩:=GQ (w:=w2) hj hold hm.symm
       have IL:0<=m/\m<=w2 - (aY w2 (eJ ps i y R j)).sum/\m<=fl R[j] 3:=by
        rw [<- hm];split <;> lia
       refine aH ?_;refine Ot _ _ ?_
       try dsimp only
       refine ⟨_,rfl,_,_,rfl,rfl,_,rfl,?_⟩
       have qo:(aY w2 (eJ ps i y R (j+1))).sum=(aY w2 (eJ ps i y R j)).sum+m:=by
        rw [y2,List.sum_append,List.sum_cons,List.sum_nil,Int.add_zero]
       by_cases hp:0 < m
       ·rw [decide_eq_true hp];rw [if_pos hp] at y3;refine bQ ?_;refine cC fun c_ ba=>?_;refine ⟨_,rfl,.inl ⟨rfl,_,SqL.of Wk.eg⟩,_,rfl,1,rfl,t,_,rfl,et,fun tk HK sK bq=>⟨_,rfl,zL,fun t1 pj=>?_⟩⟩;have bq:HK tk=some (.tup [.int (fl R[j] 0),.int (fl R[j] 1),.int (fl R[j] 2)]):=bq;have s1:=Same.upd (o:=.tup [V.int m]) pj;refine ⟨tk,t1,_,_,rfl,rfl,s1 _ _ bq,aa,by simp,(by show 3+1<=sizeLine;decide),fun t2 HL sL iP=>?_⟩;have sX:=(sK.trans s1).trans sL;have C6:=Wk.same sX;have C7:=C6.elg.1;have Ou:=sX _ _ et;have Ov:=sX _ _ zt;have C8:=kB.same sX;refine ⟨h8,kK,.ref t2,rfl,rfl,C6.eg,?_,?_⟩
        ·have b1:(cj (cl.zip sh)).length<=80:=by
          unfold cj;rw [zA1];refine Nat.le_trans (List.length_filter_le _ _) ?_;rw [zAs];lia
         have b2:(cj ((eJ ps i y R j).zip (aY w2 (eJ ps i y R j)))).length<=10000:=by
          unfold cj eJ;rw [zA1];refine Nat.le_trans (List.length_filter_le _ _) ?_;rw [zAs];have:=List.length_filter_le (old ps i y) (R.take j);rw [zAd] at this;lia
         have b3:i * (240 * (y:Int).toNat+400)<=3 * (240 * (y:Int).toNat+400):=Nat.mul_le_mul_right _ (by lia);rw [C7,zA2,zA2,sizeLine_eq];lia
        have W8:=C6.gone (t:=t2) (r:=zF (R[j],m)) iP
        have keep:∀ {b:Addr} {u:HO},b≠h8->HL b=some u->upd HL h8 (.lst (kK++[.ref t2])) b=some u:=fun {b u} n e=>by
         rw [az n];exact e
        have aI:∀ b z,HL b=some (.tup z)->upd HL h8 (.lst (kK++[.ref t2])) b=some (.tup z):=fun b z e=>keep (fun w=>by rw [w,C6.eg] at e;cases e) e;have Ow:=keep dq.1 Ov;have C9:=C8.keep aI;have KY:=aI _ _ Ou;refine ba _ _ ?_;clear ba c_
        try dsimp only
        generalize upd HL h8 (.lst (kK++[.ref t2]))=H8 at W8 Ow C9 KY ⊢;clear keep aI s1 pj C6 C7 Ou Ov C8 sX sK sL bq iP;obtain ⟨Mk,Dx,KZ⟩:=id W8.lka;have WT:Mk.length<=10000:=by rw [KZ.length_eq,GR];exact lR
        have Ox:=kd;rw [Dc hj] at KZ Ox;obtain ⟨Mn,Ro,Rp⟩:=zN (ps:=ps) (x:=fl R[j] 3 - m) KZ Ox;refine ⟨_,rfl,_,rfl,lk,.int (fl R[j] 3),rfl,W8.lka.get kd C5 KY,_,rfl,_,_,rfl,rfl,_,rfl,_,rfl,_,_,rfl,rfl,zL,fun tp Rq=>?_⟩;have sP:=Same.upd (o:=.tup [V.int (fl R[j] 3 - m),V.int (w2 - (aY w2 (eJ ps i y R j)).sum - m)]) Rq;have eP:=aa (H:=H8) (a:=tp) (o:=.tup [V.int (fl R[j] 3 - m),V.int (w2 - (aY w2 (eJ ps i y R j)).sum - m)]);refine ⟨tp,_,rfl,SqT.of eP,rfl,_,_,rfl,_,rfl,_,rfl,lk,_,rfl,DPut.t (k:=(cU ps R[j]).map Sum.inl) (sP _ _ Dx) (by rw [sP _ _ KY];rfl) (by rw [zA1,sizeLine_eq];lia),_,_,rfl,rfl,?_⟩;rw [Ro];have W9:=(W8.same sP).put Rp;refine KW _ _ ⟨some (.ref t),some (.int m),kK++[.ref t2],by rw [qo,<- Int.sub_sub];rfl,?_,?_,?_,by rw [qo];lia⟩
        ·rw [y3,y1,<- zAf];exact W9
        ·rw [az dq.2.2];exact sP _ _ Ow
        ·exact (C9.same sP).keep fun b z e=>by
          rw [az fun w=>by rw [w,sP _ _ Dx] at e;cases e];exact e
       ·rw [zAz hp];have m0:m=0:=by lia
        subst m0;rw [zAw hp,zAn] at y3;refine bB (KW _ _ ⟨some (.ref t),some (.int 0),kK,by rw [qo,Int.add_zero];rfl,?_,zt,kB,by rw [qo];lia⟩)
        have er:iI (R[j],0)=R[j]:=by
         unfold iI
         conv=>rhs;rw [bR r4]
         show [_,_,_,fl R[j] 3 - 0]=_;rw [Int.sub_zero]
        rw [y3,y1,er,<- Dc hj];exact Wk
      ·rw [zAz ho];refine bB (aH (no ?_));unfold old;rw [zAz ho,Bool.and_false]
     ·rw [zAz (fun z=>hs (by injection z))];refine bB (bB (aH (no ?_)));unfold old;rw [zAz hs];rfl
    rintro σ Hk ⟨aS,cm,kK,rfl,Wk,zt,kB,KU⟩;obtain ⟨eE,pE⟩:=GX (w:=w2) g mw hN;rw [<- eR] at eE pE;rw [Oq,eE,<- CS] at Wk;rw [Oq,eE,<- CS,ed];rw [<- CS] at pE;refine ba _ _ ?_;clear ba c_
    try dsimp only
    refine ⟨_,rfl,.inl ⟨rfl,_,SqL.of Wk.el⟩,_,rfl,ll,_,_,rfl,rfl,Wk.el,?_,?_⟩
    ·rw [zA1,(Ce (c:=c) (ss:=ss) (ow:=ow) (y:=y) lp i).2.2,sizeLine_eq];lia
    have WB:=Wk.down (x:=(yTo c ps ss ow y (i+1)).d);rw [zA4] at WB;refine Ri _ _ ⟨_,_,_,_,_,h8,kK,_,_,rfl,⟨WB.k,WB.eg,WB.elg,WB.el,WB.lka.pm pE,WB.nk,WB.nl,WB.ng,WB.fg,WB.fl⟩,g',by rw [dw,dw,pG,kJ,kJ]⟩
   ·rintro σ Hc ⟨bP,bS,bg,aS,cm,lg,xg,G,Mi,rfl,W,g,pG⟩;refine qr _ _ ?_;clear qr cc
    try dsimp only
    have nB:Lk ps (dX cs ps ss (y+1)) (y+1) Mi:=by
     show Lk ps (srt (yTo (cs.getD y []) ps ss (dX cs ps ss y) y 3).k) (y+1) Mi;rw [ec,how]
     exact g.next okp iO
    obtain ⟨Mo,dP,mw⟩:=id W.lka;have kd:(Mo.map keyOf).Nodup:=(mw.map _).nodup_iff.mpr nB.kd
    have WU:Mo.length<=10000:=by
     have:=nB.len;have:=mw.length_eq;lia
    refine cC fun c_ ba=>?_;refine aW ?_;refine ⟨lk,_,dP,fun o=>?_⟩;have ez:=aa (H:=Hc) (a:=lk) (o:=.frz o (.dT (Mo.map (kvS ps))))
    have sz:∀ b u,b≠lk->Hc b=some u->upd Hc lk (.frz o (.dT (Mo.map (kvS ps)))) b=some u:=fun b u n e=>by
     rw [az n];exact e
    generalize upd Hc lk (.frz o (.dT (Mo.map (kvS ps))))=Hz at ez sz ⊢;refine ⟨_,rfl,lk,o,_,rfl,ez,eQ Mo.length (fun j ys σ Hd=>Same Hz Hd/\(∃ o1,σ=[o1,some (.ref lk)])/\Els Hd ys (cG (Mo.take j))) ⟨Same.refl _,⟨_,rfl⟩,Els.nil⟩ (by rw [sizeLine_eq];lia) ?_ ?_⟩
    ·rintro j ys σ Hd hj KQ ⟨sd,⟨o1,rfl⟩,kx⟩;have Rr:=nB.ok Mo[j] (mw.mem_iff.mp (zAh hj))
     have bq:cG (Mo.take (j+1))=cG (Mo.take j)++(if 0 < fl Mo[j] 3 then [Mo[j]] else []):=by
      rw [zAj,zA0 hj,show (some Mo[j]).toList=[Mo[j]] from rfl,dw];congr 1;unfold cG;by_cases h:0 < fl Mo[j] 3
      ·rw [zAx h,zBb (p:=fun (r:List Int)=>decide (0 < fl r 3)) (zAt h)];rfl
      ·rw [zAw h,zB9 (p:=fun (r:List Int)=>decide (0 < fl r 3)) (by rw [decide_eq_true_eq];exact h)];rfl
     refine ⟨⟨sd _ _ ez,by rw [zA1];exact hj⟩,fun x H' yv R hR=>?_⟩;obtain ⟨rfl,bb,kk,vv,rfl,Cc,pd⟩:=yv;rw [zAb,zA0 hj] at Cc;cases Cc;have pd:H' bb=some (.tup ((cU ps Mo[j]).map V.int)):=pd;have gt:=yd (sd _ _ ez) kd (zAh hj) pd;refine aH ?_;refine ⟨_,rfl,_,rfl,lk,_,rfl,gt,_,_,rfl,rfl,_,rfl,?_⟩;by_cases h:0 < fl Mo[j] 3
     ·rw [decide_eq_true h];refine bQ ⟨_,rfl,1,rfl,bb,_,rfl,pd,fun tk HK sK xw=>⟨_,rfl,_,rfl,lk,_,rfl,yd (sK _ _ (sd _ _ ez)) kd (zAh hj) (sK _ _ pd),zL,fun t1 pj=>?_⟩⟩;have s1:=Same.upd (o:=.tup [V.int (fl Mo[j] 3)]) pj;have xw:HK tk=some (.tup [.int (fl Mo[j] 0),.int (fl Mo[j] 1),.int (fl Mo[j] 2)]):=xw;refine ⟨tk,t1,_,_,rfl,rfl,s1 _ _ xw,aa,by simp,(by show 3+1<=sizeLine;decide),fun t2 HL sL iP=>hR _ _ _ (by rw [List.length_append];show ys.length+1<=j+1;lia) ⟨((sd.trans sK).trans s1).trans sL,⟨_,rfl⟩,?_⟩⟩;rw [bq,if_pos h];refine (((kx.same sK).same s1).same sL).app (Els.one ?_);rw [iP]
      conv=>rhs;rw [bR Rr.1]
      rfl
     ·rw [zAz h];refine bB (hR _ _ _ (by lia) ⟨sd,⟨_,rfl⟩,?_⟩);rw [bq,zAw h,zAn];exact kx
    rintro ys σ Hd KQ ⟨sd,_,kx⟩;rw [zAm] at kx;refine ⟨⟨sd _ _ ez,by rw [zA1];exact zA3 _⟩,fun D hD=>⟨Same.upd hD _ _ (sd _ _ ez),?_⟩⟩
    have nD:D≠lk:=fun z=>by rw [z,sd _ _ ez] at hD;cases hD
    have S6:Same Hc (upd (upd Hd D (.lst ys)) lk (.dT (Mo.map (kvS ps)))):=fun b u e=>by
     by_cases hb:b=lk
     ·subst hb;rw [dP] at e;cases e;exact aa
     ·rw [az hb];exact Same.upd hD _ _ (sd _ _ (sz _ _ hb e))
    have eD:upd (upd Hd D (.lst ys)) lk (.dT (Mo.map (kvS ps))) D=some (.lst ys):=by rw [az nD];exact aa
    have DA:upd Hd D (.lst ys) lk=some (.frz o (.dT (Mo.map (kvS ps)))):=Same.upd hD _ _ (sd _ _ ez)
    have gp:Els (upd (upd Hd D (.lst ys)) lk (.dT (Mo.map (kvS ps)))) ys (cG Mo):=(kx.same (Same.upd hD)).keep fun b z e=>by
     rw [az fun w=>by rw [w,DA] at e;cases e];exact e
    generalize upd (upd Hd D (.lst ys)) lk (.dT (Mo.map (kvS ps)))=H6 at S6 eD gp ⊢;clear kx sd sz ez hD DA;obtain ⟨ads,ey,D5,K0⟩:=km gp;subst ey;refine ⟨D,ads,gP H6,rfl,SqL.of eD,fun a ha=>⟨SqT.of (K0 a ha),fun z=>?_⟩,fun q' l' hq Rt pm EJ=>?_⟩
    ·have:gP H6 a∈cG Mo:=by rw [D5];exact List.mem_map_of_mem ha
     have:=(nB.ok _ (mw.mem_iff.mp (zAq.mp this).1)).1;rw [z] at this;cases this
    have S7:=S6.updR (o:=.lst (l'.map V.ref)) hq;refine aH ?_;refine ba _ _ ?_;clear ba c_
    try dsimp only
    have EO:l'.map (gP H6)=dX cs ps ss (y+1):=by
     refine (gC ?_ (List.pairwise_map.mpr EJ)).trans (gC (List.Perm.refl _) (G3 cs ps ss (y+1))).symm;refine (pm.map _).trans ?_;rw [<- D5];exact (mw.filter _).trans nB.pm
    have elq:Els (upd H6 q' (.lst (l'.map V.ref))) (l'.map V.ref) (dX cs ps ss (y+1)):=by
     rw [<- EO];exact tG fun a ha=>Same.upd hq _ _ (K0 a (pm.mem_iff.mp ha))
    have sj:=aa (H:=H6) (a:=q') (o:=.lst (l'.map V.ref));have W7:=W.same S7;have K2:Hc q'=none:=S6.free hq;generalize upd H6 q' (.lst (l'.map V.ref))=H7 at W7 sj elq ⊢;generalize l'.map V.ref=xq at sj elq;clear K0 D5 gp eD S6 hq pm EJ EO S7;obtain ⟨Ru,DB,La⟩:=id W7.lka;have xy:=W7.k _ _ KG pT
    have Oy:q'≠lf:=fun z=>by
     rw [z,W.k _ _ KG pT] at K2;cases K2
    have Rv:q'≠lk:=(au dP K2).symm;obtain ⟨Lb,Rw,DC,DD⟩:=km W7.elg;have Oz:=W7.eg;rw [Rw] at Oz;refine ⟨_,rfl,.inl ⟨rfl,_,SqL.of xy⟩,_,rfl,lg,Lb,gP H7,rfl,SqL.of Oz,fun a ha=>⟨SqT.of (DD a ha),fun z=>?_⟩,fun g2 l2 Lc Ld BU y6=>?_⟩
    ·have:gP H7 a∈G:=by rw [DC];exact List.mem_map_of_mem ha
     have:=g.g4 _ this;rw [z] at this;cases this
    have Rx:l2.map (gP H7)=srt (tD cs ps ss y).g:=by
     unfold tD;rw [ec,how,<- g.gn,pG];refine gC ?_ (List.pairwise_map.mpr y6);have:=BU.map (gP H7);rw [<- DC] at this;exact this
    have v1:=Same.upd (o:=.lst (l2.map V.ref)) Lc
    have Le:Els (upd H7 g2 (.lst (l2.map V.ref))) (l2.map V.ref) (srt (tD cs ps ss y).g):=by
     rw [<- Rx];exact tG fun a ha=>v1 _ _ (DD a (BU.mem_iff.mp ha))
    have Ry:=aa (H:=H7) (a:=g2) (o:=.lst (l2.map V.ref));have Rz:g2≠lk:=(au DB Lc).symm;have OA:g2≠lf:=(au xy Lc).symm;refine ⟨_,rfl,ll,_,rfl,.inl ⟨SqL.of (v1 _ _ W7.el),fun tl EN=>?_⟩⟩;have v2:=Same.upd (o:=.tup ((yTo c ps ss ow y 3).l.map V.int)) EN;have BY:=aa (H:=upd H7 g2 (.lst (l2.map V.ref))) (a:=tl) (o:=.tup ((yTo c ps ss ow y 3).l.map V.int));have DE:=Le.same v2;have OB:=v2 _ _ Ry;have E8:=v1.trans v2;generalize upd (upd H7 g2 (.lst (l2.map V.ref))) tl (.tup ((yTo c ps ss ow y 3).l.map V.int))=H9 at E8 BY DE OB ⊢;refine ⟨_,rfl,zL,fun t8 wx=>?_⟩;have xA:=E8 _ _ xy;have u8:=Same.upd (o:=.tup [.ref g2,.ref tl,.ref q']) wx;refine ⟨lf,ts.map V.ref,.ref t8,rfl,rfl,u8 _ _ xA,by rw [zA1,lt,sizeLine_eq];lia,?_⟩
    have RA:t8≠lf:=fun z=>by rw [z,xA] at wx;cases wx
    have mx:∀ {o:HO} b u,b≠lf->H9 b=some u->upd (upd H9 t8 (.tup [.ref g2,.ref tl,.ref q'])) lf o b=some u:=fun {o} b u n e=>by
     rw [az n];exact u8 _ _ e
    have keep:∀ {o:HO} b u,b≠lf->H7 b=some u->upd (upd H9 t8 (.tup [.ref g2,.ref tl,.ref q'])) lf o b=some u:=fun {o} b u n e=>mx b u n (E8 _ _ e);have RB:=KL.but W7.k nf vF gu;refine yY _ _ ⟨_,_,_,_,_,_,_,_,_,_,_,Mi,ts++[t8],rfl,fun b o e=>keep _ _ (au e Oc) (W7.k _ _ (au e vF) (k1 _ _ e)),⟨Ru,keep _ _ KG.symm DB,La⟩,nB,?_,?_,by rw [zA2,lt];rfl,fun j a e=>?_⟩
    ·exact Lts.butL (xl:=[]) KH RB (fun b o n e=>keep _ _ n e) zk sA
    ·rw [aa,zA4];rfl
    ·by_cases hj:j < ts.length
     ·rw [zBc hj] at e;exact (E7 j a e).keep (fun b o n1 n2 e=>keep _ _ n2 (W7.k _ _ n1 e)) gu pT
     ·have mT:j=y:=by
       have:=(zAa.mp e).1;rw [zA2] at this;simp at this;lia
      subst mT;rw [zB8 (by lia),lt,Nat.sub_self] at e;cases e;have kt:∀ {o:HO} b z,H9 b=some (.tup z)->upd (upd H9 t8 (.tup [.ref g2,.ref tl,.ref q'])) lf o b=some (.tup z):=fun {o} b z e=>mx b _ (fun w=>by rw [w,xA] at e;cases e) e
      have Lf:H9 tl=some (.tup ((tD cs ps ss j).l.map V.int)):=by
       unfold tD;rw [ec,how];exact BY
      exact ⟨g2,tl,q',_,_,by rw [az RA];exact aa,Rz,OA,mx _ _ OA OB,DE.keep kt,Ld,Rv,Oy,keep _ _ Oy sj,(elq.same E8).keep kt,Rt,kt _ _ Lf⟩
  ·rintro σ Hc ⟨x6,x7,x8,x9,bX,bP,bS,bg,aS,cm,fe,M,ts,rfl,k,la,E5,dt,zo,lt,hw⟩;rw [show xc.length=cs.length from rc.l] at lt;exact ⟨_,rfl,q lf lk ts Hc k Oc zo lt hw⟩
def okC (r:List Int):Prop:=r.length=3/\∀ x∈r,0<=x/\x < 1000
theorem jh:∀ {ds:List PyData},(∀ d∈ds,tame d=true)->fu ds=true
 | [],_=>rfl
 | d::ds,h=>by
  show (tame d && fu ds)=true;rw [h d (.head _),jh fun e he=>h e (.tail _ he)];rfl
theorem Dd {r:List Int}(h:∀ i∈r,-10<=i/\i<=2000000):tame (rowD r)=true:=by
 refine jh fun d hd=>?_;obtain ⟨i,hi,rfl⟩:=zA5.mp hd;have:=h i hi;exact zAt (by lia)
theorem ji {rs:List (List Int)}(h:∀ r∈rs,∀ i∈r,-10<=i/\i<=2000000):fu (rs.map rowD)=true:=jh fun d hd=>by
 obtain ⟨r,hr,rfl⟩:=zA5.mp hd;exact Dd (h r hr)
theorem lK:∀ (is:List Int),szs (is.map PyData.int)=is.length
 | []=>rfl
 | i::is=>by
  show 1+szs (is.map PyData.int)=is.length+1;rw [lK is];lia
theorem gQ {k:Nat}:∀ {rs:List (List Int)},(∀ r∈rs,r.length=k)->szs (rs.map rowD)=(k+1) * rs.length
 | [],_=>rfl
 | r::rs,h=>by
  show (1+szs (r.map PyData.int))+szs (rs.map rowD)=(k+1) * (rs.length+1);rw [lK,h r (.head _),gQ fun q hq=>h q (.tail _ hq),Nat.mul_add];lia
theorem GZ {r:List Int}(h:okP r):∀ i∈r,-10<=i/\i<=2000000:=by
 obtain ⟨h0,h1,h2,h3,h4,h5⟩:=h;rw [six_row h0];intro i hi;simp only [List.mem_cons,List.not_mem_nil,or_false] at hi;rcases hi with rfl | rfl | rfl | rfl | rfl | rfl <;> lia
def bd (r:List Int):Prop:=r.length=4/\∀ x∈r,0<=x/\x<=99
theorem tH {a b c d:Int}(ha:0<=a/\a<=99)(hb:0<=b/\b<=99)(hc:0<=c/\c<=99)(hd:0<=d/\d<=99):bd [a,b,c,d]:=by
 refine ⟨rfl,fun x hx=>?_⟩;simp only [List.mem_cons,List.not_mem_nil,or_false] at hx;rcases hx with rfl | rfl | rfl | rfl <;> assumption
theorem vX {r:List Int}(h:bd r):(0<=fl r 0/\fl r 0<=99)/\(0<=fl r 1/\fl r 1<=99)/\(0<=fl r 2/\fl r 2<=99)/\(0<=fl r 3/\fl r 3<=99):=by
 obtain ⟨h4,h⟩:=h;rw [bR h4] at h;exact ⟨h _ (by simp),h _ (by simp),h _ (by simp),h _ (by simp)⟩
theorem Jj:∀ {w:Int} {S:List (List Int)},∀ p∈S.zip (aY w S),p.2<=fl p.1 3:=fun {w S}=>by
 induction S generalizing w with
 | nil=>intro p hp;cases hp
 | cons r S ih =>
  intro p hp;unfold aY at hp;rw [List.zip_cons_cons] at hp;rcases zAo.mp hp with z | z
  ·rw [z];show (if w < fl r 3 then w else fl r 3)<=fl r 3;split <;> lia
  ·exact ih p z
theorem Jk {c:List Int}{ps ss ow:List (List Int)}{y:Int}(y0:0<=y)(y1:y<=99)(hc:∀ x∈c,0<=x)(hu:un ps ss=none)(h5:∀ s∈ss,s.length=5)(okp:∀ r∈ps,okP r)(hl:ps.length<=10)(ho:∀ r∈ow,okO ps r)(hb:∀ r∈ow,bd r):∀ n,(∀ r∈(yTo c ps ss ow y n).g,bd r)/\∀ r∈(yTo c ps ss ow y n).k,bd r
 | 0=>⟨fun r hr=>(by cases hr),fun r hr=>(by cases hr)⟩
 | n+1=>by
  obtain ⟨a,b⟩:=Jk (c:=c) (y:=y) y0 y1 hc hu h5 okp hl ho hb n;have nn:=Cd (y:=y) hc hu h5 okp hl ho n
  have hw:0<=c.getD n 0+(yTo c ps ss ow y n).d:=by
   have:=jg hc n;lia
  have gI:=gO (sort:=n) (year:=y) hu h5 okp;have ml:=dI (ss:=ss) (sort:=n) (year:=y) hl;generalize OC:c.getD n 0+(yTo c ps ss ow y n).d=w at hw
  have DF:∀ p∈(aK ps ss n y++aM ps ow n).zip (shr w (aK ps ss n y) (aM ps ow n)),bd p.1/\0<=p.2/\p.2<=fl p.1 3:=fun p hp=>by
   obtain ⟨m1,m2⟩:=List.of_mem_zip (show (p.1,p.2)∈_ from hp);have s0:=(vM hw gI ml (fun r hr=>by have:=(iY (sort:=n) ho r hr).2.2.2;lia)).1 p.2 m2;refine ⟨?_,s0,?_⟩
   ·rcases zA6.mp m1 with z | z
    ·obtain ⟨a1,a2,a3,a4,a5,a6⟩:=iz z;obtain ⟨b1,b2,b3⟩:=gI _ z;rw [bR b1];exact tH (by lia) (by lia) (by lia) (by lia)
    ·exact hb _ (zAq.mp z).1
   ·unfold shr at hp;rw [List.zip_append shares_len.symm] at hp;rcases zA6.mp hp with z | z
    ·exact FZ hw gI ml p z
    ·exact Jj p z
  refine ⟨fun r hr=>?_,fun r hr=>?_⟩
  ·rcases zA6.mp (show r∈(yTo c ps ss ow y n).g++cj _ from hr) with z | z
   ·exact a r z
   ·rw [OC] at z;obtain ⟨p,hp,rfl⟩:=zA5.mp z;obtain ⟨b1,b2,b3⟩:=DF p (zAq.mp hp).1;obtain ⟨g0,g1,g2,g3⟩:=vX b1;exact tH g0 g1 g2 (by lia)
  ·rcases zA6.mp (show r∈(yTo c ps ss ow y n).k++bz _ from hr) with z | z
   ·exact b r z
   ·rw [OC] at z;obtain ⟨p,hp,rfl⟩:=zA5.mp z;obtain ⟨b1,b2,b3⟩:=DF p (zAq.mp hp).1;obtain ⟨g0,g1,g2,g3⟩:=vX b1;exact tH g0 g1 g2 (by lia)
theorem Jl {cs:List (List Int)}(h:∀ r∈cs,r.length=3/\∀ x∈r,0<=x)(n:Nat):∀ x∈cs.getD n [],0<=x:=fun x hx=>by
 rw [zA7] at hx
 cases e:cs[n]? with
 | none=>rw [e] at hx;cases hx
 | some r=>rw [e] at hx;exact (h r (zB7 e)).2 x hx
theorem yg {cs ps ss:List (List Int)}(ix:∀ r∈cs,r.length=3/\∀ x∈r,0<=x)(hl:ps.length<=10)(hu:un ps ss=none)(h5:∀ s∈ss,s.length=5)(okp:∀ r∈ps,okP r):∀ n,n<=20->∀ r∈dX cs ps ss n,bd r
 | 0,_,r,hr=>by cases hr
 | n+1,hn,r,hr=>by
  have ih:=yg ix hl hu h5 okp n (by lia);obtain ⟨iO,_⟩:=uN (cs:=cs) hl hu h5 okp n;exact (Jk (y:=n) (by lia) (by lia) (Jl ix n) hu h5 okp hl iO ih 3).2 r ((j0 _).mem_iff.mp hr)
theorem qW (rs:List (List Int)):rowsOf (bK rs)=rs:=by
 show (rs.map rowD).map (fun x=>(items x).map intOf)=rs;rw [zAr];refine (List.map_congr_left fun r _=>?_).trans (List.map_id rs);show ((r.map PyData.int)).map intOf=r;rw [zAr];exact List.map_id r
theorem lN {r:List Int}{n:Nat}(h:r.length=n):bH (rowD r) n=true:=by
 show (bG (.tuple (r.map PyData.int)) n n && (r.map PyData.int).all dz)=true;rw [zAc];refine ⟨?_,List.all_eq_true.mpr fun x hx=>?_⟩
 ·show (true && (decide ((n:Int)<=(r.map PyData.int).length) && decide (((r.map PyData.int).length:Int)<=n)))=true;rw [zA1,h,zAt (Int.le_refl _)];rfl
 ·obtain ⟨i,_,rfl⟩:=zA5.mp hx;rfl
theorem vY {ds:List PyData}{a b:Int}(h1:a<=ds.length)(h2:(ds.length:Int)<=b):bG (.tuple ds) a b=true:=by
 show (true && (decide (a<=(ds.length:Int)) && decide ((ds.length:Int)<=b)))=true;rw [zAt h1,zAt h2];rfl
theorem yh {cs ps ss:List (List Int)}(sf:1<=cs.length)(lc:cs.length<=20)(okc:∀ r∈cs,okC r)(lp:ps.length<=10)(okp:∀ r∈ps,okP r)(ls:ss.length<=12)(h5:∀ s∈ss,s.length=5)(hu:un ps ss=none):jZ (.tuple [bK cs,bK ps,bK ss])=true:=by
 have b0:fZ (bK cs)=true:=by
  show (bG (.tuple (cs.map rowD)) 1 20 && (cs.map rowD).all qH)=true;rw [vY (by rw [zA1];lia) (by rw [zA1];lia),Bool.true_and];refine List.all_eq_true.mpr fun x hx=>?_;obtain ⟨r,hr,rfl⟩:=zA5.mp hx;obtain ⟨h3,hb⟩:=okc r hr;show (bH (rowD r) 3 && (r.map PyData.int).all fun x=>decide (0<=intOf x) && decide (intOf x<=999))=true;rw [show bH (rowD r) 3=true from lN h3,Bool.true_and];refine List.all_eq_true.mpr fun x hx=>?_;obtain ⟨i,hi,rfl⟩:=zA5.mp hx;have:=hb i hi;show (decide (0<=i) && decide (i<=999))=true;rw [zAt (by lia),zAt (by lia)];rfl
 have b1:fc (bK ps)=true:=by
  show (bG (.tuple (ps.map rowD)) 0 10 && (ps.map rowD).all jT)=true;rw [vY (by lia) (by rw [zA1];lia),Bool.true_and];refine List.all_eq_true.mpr fun x hx=>?_;obtain ⟨r,hr,rfl⟩:=zA5.mp hx;obtain ⟨h6,h1,h2,h3,h4,RC⟩:=okp r hr;show (bH (rowD r) 6 && sI (at_ (rowD r) 0) (at_ (rowD r) 1) (at_ (rowD r) 2) (at_ (rowD r) 3) (at_ (rowD r) 4) (at_ (rowD r) 5))=true;rw [show bH (rowD r) 6=true from lN h6,Bool.true_and]
  have ea:∀ i,i < 6->at_ (rowD r) i=fl r i:=fun i hi=>by
   unfold at_ fl;show intOf ((r.map PyData.int).getD i .none)=r.getD i 0;rw [zA7,zA7,zAb,zA0 (by lia)];rfl
  rw [ea 0 (by decide),ea 1 (by decide),ea 2 (by decide),ea 3 (by decide),ea 4 (by decide),ea 5 (by decide)];unfold sI;simp only [Bool.and_eq_true,decide_eq_true_eq];exact ⟨h1,h2,⟨h3.1,h3.2.1,h3.2.2⟩,h4,RC⟩
 have b2:fj (bK ss)=true:=by
  show (bG (.tuple (ss.map rowD)) 0 12 && (ss.map rowD).all fun x=>bH x 5)=true;rw [vY (by lia) (by rw [zA1];lia),Bool.true_and];refine List.all_eq_true.mpr fun x hx=>?_;obtain ⟨r,hr,rfl⟩:=zA5.mp hx;exact lN (h5 r hr)
 show (bG (.tuple [bK cs,bK ps,bK ss]) 3 3 && (fZ (bK cs) && (fc (bK ps) && (fj (bK ss) && (un (rowsOf (bK ps)) (rowsOf (bK ss))).isNone))))=true;rw [b0,b1,b2,qW,qW,hu];rfl
def hsum (h v:List Int->Int)(rs:List (List Int)):List Int:=rs.foldl (fun L r=>dN L (h r) (v r)) (List.replicate 8 0)
theorem uU (h v:List Int->Int):∀ (rs:List (List Int)) (L:List Int),(rs.foldl (fun L r=>dN L (h r) (v r)) L).length=L.length
 | [],_=>rfl
 | r::rs,L=>by
  show (rs.foldl _ (dN L (h r) (v r))).length=_;rw [uU h v rs,gJ]
theorem j5 (h v:List Int->Int)(rs:List (List Int)):(hsum h v rs).length=8:=uU h v rs _
theorem zR (h v:List Int->Int)(rs:List (List Int))(r:List Int):hsum h v (rs++[r])=dN (hsum h v rs) (h r) (v r):=by
 unfold hsum;rw [List.foldl_append];rfl
theorem qX {h v:List Int->Int}{rs:List (List Int)}{i:Nat}(hi:i < rs.length):hsum h v (rs.take (i+1))=dN (hsum h v (rs.take i)) (h rs[i]) (v rs[i]):=by
 rw [zAj,zA0 hi];exact zR h v _ _
theorem Fg {L:List Int}{i v M B:Int}(h:∀ x∈L,0<=x/\x<=M)(v0:0<=v)(v1:v<=B)(m0:0<=M):∀ x∈dN L i v,0<=x/\x<=M+B:=by
 intro x hx;unfold dN at hx;rcases List.mem_or_eq_of_mem_set hx with z | z
 ·have:=h x z;lia
 ·have g:0<=L.getD i.toNat 0/\L.getD i.toNat 0<=M:=by
   rw [zA7]
   cases e:L[i.toNat]? with
   | none=>exact ⟨Int.le_refl _,m0⟩
   | some y=>exact h y (zB7 e)
  lia
theorem yj {h v:List Int->Int}{B:Int}(b0:0<=B):∀ (rs:List (List Int)) (L:List Int) (M:Int),0<=M->(∀ r∈rs,0<=v r/\v r<=B)->(∀ x∈L,0<=x/\x<=M)->∀ x∈rs.foldl (fun L r=>dN L (h r) (v r)) L,0<=x/\x<=M+B * rs.length
 | [],L,M,m0,_,hL=>by
  intro x hx;have:=hL x hx;simpa using this
 | r::rs,L,M,m0,hv,hL=>by
  intro x hx;have:=hv r (.head _);have:=yj b0 rs (dN L (h r) (v r)) (M+B) (by lia) (fun q hq=>hv q (.tail _ hq)) (Fg hL this.1 this.2 m0) x hx;rw [zAe,Int.natCast_add,Int.mul_add];lia
def hO (r:List Int):Prop:=0<=fl r 2/\fl r 2 < 8
theorem y_h {c:List Int}{ps ss ow:List (List Int)}{y:Int}(ho:∀ r∈ow,hO r):∀ n,(∀ r∈(yTo c ps ss ow y n).g,hO r)/\∀ r∈(yTo c ps ss ow y n).k,hO r
 | 0=>⟨fun r hr=>(by cases hr),fun r hr=>(by cases hr)⟩
 | n+1=>by
  obtain ⟨a,b⟩:=y_h (c:=c) (ps:=ps) (ss:=ss) (y:=y) ho n
  have DF:∀ w,∀ p∈(aK ps ss n y++aM ps ow n).zip (shr w (aK ps ss n y) (aM ps ow n)),hO p.1:=fun w p hp=>by
   obtain ⟨m1,m2⟩:=List.of_mem_zip (show (p.1,p.2)∈_ from hp);rcases zA6.mp m1 with z | z
   ·obtain ⟨a1,a2,a3,a4,a5,a6⟩:=iz z;exact ⟨a5,a6⟩
   ·exact ho _ (zAq.mp z).1
  refine ⟨fun r hr=>?_,fun r hr=>?_⟩
  ·rcases zA6.mp (show r∈(yTo c ps ss ow y n).g++cj _ from hr) with z | z
   ·exact a r z
   ·obtain ⟨p,hp,rfl⟩:=zA5.mp z;exact DF _ p (zAq.mp hp).1
  ·rcases zA6.mp (show r∈(yTo c ps ss ow y n).k++bz _ from hr) with z | z
   ·exact b r z
   ·obtain ⟨p,hp,rfl⟩:=zA5.mp z;exact DF _ p (zAq.mp hp).1
theorem Hf {cs ps ss:List (List Int)}:∀ n,∀ r∈dX cs ps ss n,hO r
 | 0,r,hr=>by cases hr
 | n+1,r,hr=>(y_h (Hf n) 3).2 r ((j0 _).mem_iff.mp hr)
inductive SpByHI (vs:List V)(H:Hp)(Q:VK):Prop
 | mk:∀ l xs rs,(vs=[.ref l])->(H l=some (.lst xs))->(Els H xs rs)->((∀ r∈rs,r.length=4/\hO r))->(∀ k H',Same H H'->H k=none->k≠sysModules->H' k=some (.lst ((hsum (fl · 2) (fl · 3) rs).map V.int))->Q (.ref k) H')->SpByHI  vs H Q
def G4:Sp:=fun vs H Q _=>SpByHI  vs H Q
def dR (cs ps ss:List (List Int)):List Int:=hsum (fl · 2) (fl · 3) (dX cs ps ss cs.length)
inductive SpLastI (vs:List V)(H:Hp)(Q:VK):Prop
 | mk:∀ bk ac xc cs ap xp ps ae xs ss,(vs=[.ref bk])->(BookAt H bk ac xc cs ap xp ps ae xs ss)->(1<=cs.length)->(∀ k H',Same H H'->H k=none->k≠sysModules->H' k=some (.lst ((dR cs ps ss).map V.int))->Q (.ref k) H')->SpLastI  vs H Q
def Df:Sp:=fun vs H Q _=>SpLastI  vs H Q
inductive SpRefCI (vs:List V)(H:Hp)(Q:VK):Prop
 | mk:∀ S v d,(vs=[v])->(IsTh S H v d)->(sz d<=4000)->(fZ d=true)->(∀ H',Same H H'->Q .non H')->SpRefCI  vs H Q
def Dg:Sp:=fun vs H Q _=>SpRefCI  vs H Q
def okL (so pa:Int):Prop:=(0<=so/\so < 3)/\0<=pa/\pa<=100
inductive SpLossI (vs:List V)(H:Hp)(Q:VK):Prop
 | mk:∀ so pa,(vs=[.int so,.int pa])->(okL so pa)->(∀ H',Same H H'->Q .non H')->SpLossI  vs H Q
def vZ:Sp:=fun vs H Q _=>SpLossI  vs H Q
def qY (so pa:Int)(c:List Int)(i:Nat):Int:=if (i:Int)=so then c.getD i 0 * (100 - pa) / 100 else c.getD i 0
def fG (so pa:Int)(c:List Int):List Int:=(List.range c.length).map (qY so pa c)
def dC (so pa:Int)(y:Nat)(cs:List (List Int)):List (List Int):=cs.take y++(cs.drop y).map (fG so pa)
inductive SpLess1I (vs:List V)(H:Hp)(Q:VK):Prop
 | mk:∀ t c so pa,(vs=[.ref t,.int so,.int pa])->(H t=some (.tup (c.map V.int)))->(okC c)->(okL so pa)->(∀ t' H',Same H H'->H' t'=some (.tup ((fG so pa c).map V.int))->Q (.ref t') H')->SpLess1I  vs H Q
def yl:Sp:=fun vs H Q _=>SpLess1I  vs H Q
inductive SpLessCI (vs:List V)(H:Hp)(Q:VK):Prop
 | mk:∀ ac xc cs y so pa,(vs=[.ref ac,.int y,.int so,.int pa])->(RowsAt H ac xc cs)->((∀ r∈cs,okC r))->(cs.length<=20)->(0<=y)->(y < cs.length)->(okL so pa)->(∀ a' zw H',Same H H'->RowsAt H' a' zw (dC so pa y.toNat cs)->Q (.ref a') H')->SpLessCI  vs H Q
def iC:Sp:=fun vs H Q _=>SpLessCI  vs H Q
def oY (cs ps ss:List (List Int))(y so pa:Int):List Int:=((dR (dC so pa y.toNat cs) ps ss).zip (dR cs ps ss)).map fun p=>p.1 - p.2
inductive SpBorneI (vs:List V)(H:Hp)(Q:VK):Prop
 | mk:∀ S bk y so pa d ac xc cs ap xp ps ae xs ss,(vs=[.ref bk,.int y,.int so,.int pa])->(IsTh S H (.ref bk) d)->(sz d<=4000)->(jZ d=true)->(BookAt H bk ac xc cs ap xp ps ae xs ss)->((∀ r∈cs,okC r))->(0<=y)->(y < cs.length)->(okL so pa)->(∀ k H',Same H H'->H k=none->k≠sysModules->H' k=some (.lst ((oY cs ps ss y so pa).map V.int))->Q (.ref k) H')->SpBorneI  vs H Q
def ym:Sp:=fun vs H Q _=>SpBorneI  vs H Q
theorem zT (so pa:Int)(c:List Int):(fG so pa c).length=c.length:=by unfold fG;rw [zA1,List.length_range]
theorem Dh {so pa:Int}{c:List Int}(ok:okC c)(hl:okL so pa):okC (fG so pa c):=by
 refine ⟨by rw [zT];exact ok.1,fun x hx=>?_⟩;unfold fG at hx;obtain ⟨i,hi,rfl⟩:=zA5.mp hx;have hi:=List.mem_range.mp hi;have hb:=ok.2 (c.getD i 0) (by rw [zA7,zA0 hi];exact zAh hi);obtain ⟨_,p0,p1⟩:=hl;unfold qY;split
 ·have a0:0<=c.getD i 0 * (100 - pa):=Int.mul_nonneg hb.1 (by lia);have a1:c.getD i 0 * (100 - pa)<=c.getD i 0 * 100:=Int.mul_le_mul_of_nonneg_left (by lia) hb.1;lia
 ·exact hb
theorem oZ {so pa:Int}{y:Nat}{cs:List (List Int)}(ok:∀ r∈cs,okC r)(hl:okL so pa):∀ r∈dC so pa y cs,okC r:=fun r hr=>by
 rcases zA6.mp hr with z | z
 ·exact ok r (List.mem_of_mem_take z)
 ·obtain ⟨c,hc,rfl⟩:=zA5.mp z;exact Dh (ok c (List.mem_of_mem_drop hc)) hl
theorem gR {so pa:Int}{y:Nat}{cs:List (List Int)}:(dC so pa y cs).length=cs.length:=by
 unfold dC;rw [zA2,zA1,zAd,List.length_drop];lia
theorem Di {cs:List (List Int)}(sf:1<=cs.length)(lc:cs.length<=20)(okc:∀ r∈cs,okC r):fZ (bK cs)=true:=by
 have h:jZ (.tuple [bK cs,bK [],bK []])=true:=yh sf lc okc (zAp _) (fun r hr=>nomatch hr) (zAp _) (fun r hr=>nomatch hr) rfl;unfold jZ at h;rw [zAc,zAc] at h;exact h.2.1
theorem scI1:FnScope ["rows","sums","due","number","holder","sacks"] ["rows"] (aG (top 57)):=fS
theorem Hg (F:Fun K "by_holder" "by_holder" (top 57) f fd)(N:Nums mg):FnOk P w K mg base CX0 1 f fd ["rows"] G4:=by
 refine F.ok scI1 (fun vs H Q E h=>?_) (fun ar A outer s H vs Q E hr h=>?_)
 ·obtain ⟨l,xs,rs,rfl,_⟩:=h;rfl
 ·obtain ⟨l,xs,R,rfl,Lg,dP,hh,q⟩:=h;obtain ⟨t1,e1⟩:=N.holders
  refine ⟨_,aB (pss 1 scI1.nd (aU xF (cX (aq aA aj)) (bV (v:=.int 8) rfl e1 ⟨_,rfl⟩)))
   (aB (bY zB3 rfl (bW (pv 0)) (bJ rfl (ao (pgn 2 scI1.nd) (ao (pgn 3 scI1.nd) (ao (pgn 4 scI1.nd) (ao (pgn 5 scI1.nd) aV)))))
    (aD (mG (pv 1) (pv 4) gK (pv 5) uY set_list)))
   (aD (aR (pv 1)))),?_⟩
  refine aC (aW ?_);refine ⟨zL,fun l0 nh=>⟨l0,8,_,rfl,rfl,aa,by decide,by decide,zL,fun l1 dv nr=>?_⟩⟩;have s2:Same H (upd (upd H l0 (.lst [V.int 0])) l1 (.lst (List.replicate (8:Int).toNat [V.int 0]).flatten)):=(Same.upd nh).updR dv;have el1:upd (upd H l0 (.lst [V.int 0])) l1 (.lst (List.replicate (8:Int).toNat [V.int 0]).flatten) l1=some (.lst ((hsum (fl · 2) (fl · 3) []).map V.int)):=aa;have zI:H l1=none:=(Same.upd nh).free dv;generalize upd (upd H l0 (.lst [V.int 0])) l1 (.lst (List.replicate (8:Int).toNat [V.int 0]).flatten)=H2 at s2 el1 ⊢;refine aH ?_;dsimp only;refine aC ?_;have ek:=s2 _ _ Lg;have fA:l≠l1:=au Lg zI;refine ⟨_,rfl,l,rfl,⟨_,SqL.of ek⟩,?_⟩;refine fU (xs:=xs) (fun i σ Hc=>∃ x6 x7 x8 x9,σ=[some (.ref l),some (.ref l1),x6,x7,x8,x9]/\Same H Hc/\Hc l1=some (.lst ((hsum (fl · 2) (fl · 3) (R.take i)).map V.int))) ?_ ?_ ?_ ?_
  ·exact ⟨none,none,none,none,rfl,s2,el1⟩
  ·rintro i σ Hc hi ⟨x6,x7,x8,x9,rfl,sm,el⟩;exact SqL.of (sm _ _ Lg)
  ·rintro i x σ Hc hx ⟨x6,x7,x8,x9,rfl,sm,el⟩
   have hi:i < R.length:=by
    have:=(zAa.mp hx).1;rw [dP.1] at this;exact this
   obtain ⟨tr,dA,cx⟩:=dP.2 i R[i] (zA0 hi)
   have:x=.ref tr:=by
    rw [hx] at dA;exact zAl dA
   subst this;rw [qX hi];have l8:=j5 (fl · 2) (fl · 3) (R.take i);generalize hsum (fl · 2) (fl · 3) (R.take i)=L at el l8 ⊢;obtain ⟨o4,h0,h1⟩:=hh _ (zAh hi);generalize R[i]=r at cx h0 h1 o4 ⊢;rw [bR o4] at cx;refine ⟨tr,_,rfl,SqT.of (sm _ _ cx),rfl,_,_,rfl,_,_,rfl,_,_,rfl,_,_,rfl,rfl,?_⟩;refine ⟨_,rfl,_,rfl,l1,_,fl r 2,_,rfl,rfl,SqL.of el,h0,dO (by lia),_,rfl,_,_,rfl,rfl,l1,_,fl r 2,(fl r 2).toNat,rfl,rfl,el,oK h0 (by rw [zA1];lia),?_⟩;rw [jd];exact ⟨_,_,_,_,rfl,fun b o e=>by rw [az (au e zI)];exact sm _ _ e,aa⟩
  ·rintro σ Hc ⟨x6,x7,x8,x9,rfl,sm,el⟩;dsimp only;rw [dP.1,zAm] at el;exact ⟨_,rfl,q l1 Hc sm zI nr el⟩
theorem K9:FnScope ["book"] ["book"] (aG (top 63)):=fS
theorem Fi (F:Fun K "owed_at_last" "owed_at_last" (top 63) f fd)(T:Mg mg)(c1:Cal P w K mg base 1 "by_holder" ["rows"] G4)(c2:Cal P w K mg base 11 "owed_behind" ["book","year"] (Jd FW)):FnOk P w K mg base CX0 12 f fd ["book"] Df:=by
 refine F.ok K9 (fun vs H Q E h=>?_) (fun ar A outer s H vs Q E hr h=>?_)
 ·obtain ⟨bk,ac,xc,cs,ap,xp,ps,ae,xs,ss,rfl,_⟩:=h;rfl
 ·obtain ⟨bk,ac,xc,cs,ap,xp,ps,ae,xs,ss,rfl,B,l1,q⟩:=h;refine ⟨_,aD (aR (aF c1 hr (aq (aF c2 hr (aq (pv 0) (aq (aU cP (aN cg rfl T.len PySem.boot_len (aq (pX bO (pv 0) aA) aj)) aA) aj))) aj))),?_⟩;have e2:((xc.length:Int) - 1).toNat+1=cs.length:=by have:=B.rc.l;lia
  refine ⟨_,rfl,_,rfl,bk,_,0,.ref ac,rfl,rfl,SqT.of B.e,rfl,ac,xc,rfl,.inr (SqT.of B.rc.e),_,_,rfl,rfl,bk,_,ac,xc,cs,ap,xp,ps,ae,xs,ss,rfl,B,by have:=B.rc.l;lia,by have:=B.rc.l;lia,fun k xk H2 s2 n ns e1 el=>?_⟩;rw [e2] at el;have DH:=yg B.okc B.lp B.un B.h5 B.okp cs.length B.lc;exact ⟨k,xk,_,rfl,e1,el,fun r hr=>⟨(DH r hr).1,Hf _ r hr⟩,fun k' H3 s3 n3 RD e3=>q k' H3 (s2.trans s3) (s2.free n3) RD e3⟩
theorem Ka:FnScope ["thing"] ["thing"] (aG (top 27)):=fS
theorem Fj (F:Fun K "refuse_no_clips" "refuse_no_clips" (top 27) f fd)(c1:Cal P w K mg base 4 "are_clips" ["thing"] (spT fZ)):FnOk P w K mg base CX0 5 f fd ["thing"] Dg:=by
 refine F.ok Ka (fun vs H Q E h=>?_) (fun ar A outer s H vs Q E hr h=>?_)
 ·obtain ⟨S,v,d,rfl,_⟩:=h;rfl
 ·obtain ⟨S,v,d,rfl,th,hz,ok,q⟩:=h;refine ⟨_,aD (cF (cW (dF (aF c1 hr (aQ (pv 0) aj)))) (aD fO) bf),?_⟩;refine ⟨_,rfl,S,v,d,rfl,th,hz,fun H1 s1=>⟨_,rfl,?_⟩⟩;rw [ok];exact bB (q H1 s1)
theorem Kc:FnScope ["sort","part"] ["sort","part"] (aG (top 59)):=fS
theorem Dj {i a b:Int}(h0:a<=i)(h1:i<=b):mD (.int i) a b=true:=by
 show (true && (decide (a<=i) && decide (i<=b)))=true;rw [zAt h0,zAt h1];rfl
theorem Fl (F:Fun K "refuse_no_loss" "refuse_no_loss" (top 59) f fd)(N:Nums mg)(c1:Cal P w K mg base 2 "is_whole_from" ["thing","least","most"] (lE mD)):FnOk P w K mg base CX0 3 f fd ["sort","part"] vZ:=by
 refine F.ok Kc (fun vs H Q E h=>?_) (fun ar A outer s H vs Q E hr h=>?_)
 ·obtain ⟨so,pa,rfl,_⟩:=h;rfl
 ·obtain ⟨so,pa,rfl,⟨⟨a0,a1⟩,b0,b1⟩,q⟩:=h;obtain ⟨t1,e1⟩:=N.sorts
  refine ⟨_,aB (cF (cW (dF (aF c1 hr (aq (pv 0) (aq aA (aq (aU cP (bV (v:=.int 3) rfl e1 ⟨_,rfl⟩) aA) aj)))))) (aD fO) bf)
   (aD (cF (cW (dF (aF c1 hr (aq (pv 1) (aq aA (aq aA aj)))))) (aD fO) bf)),?_⟩
  refine aC ?_;refine ⟨_,rfl,_,_,rfl,rfl,fun _=>False,.int so,.int so,0,_,rfl,.int _,(by show 1<=4000;decide),fun H1 s1=>⟨_,rfl,?_⟩⟩;rw [Dj a0 (by lia)];refine bB (dD ?_);dsimp only;refine ⟨_,rfl,fun _=>False,.int pa,.int pa,0,_,rfl,.int _,(by show 1<=4000;decide),fun H2 s2=>⟨_,rfl,?_⟩⟩;rw [Dj b0 b1];exact bB (q _ (s1.trans s2))
theorem RowsAt.els {H:Hp}{a:Addr}{xs:List V}{rs:List (List Int)}(h:RowsAt H a xs rs):Els H xs rs:=⟨h.l,h.g⟩
theorem Els.takeE {H:Hp}{xs:List V}{rs:List (List Int)}(h:Els H xs rs)(n:Nat):Els H (xs.take n) (rs.take n) :=
 ⟨by rw [zAd,zAd,h.1],fun i r e=>by
  have hi:i < n:=by
   rw [List.getElem?_take] at e;split at e
   ·assumption
   ·cases e
  rw [List.getElem?_take_of_lt hi] at e ⊢
  exact h.2 i r e⟩
theorem Els.dropE {H:Hp}{xs:List V}{rs:List (List Int)}(h:Els H xs rs)(n:Nat):Els H (xs.drop n) (rs.drop n) :=
 ⟨by rw [List.length_drop,List.length_drop,h.1],fun i r e=>by
  rw [List.getElem?_drop] at e ⊢
  exact h.2 _ r e⟩
theorem getD_some {L:List Int}{i:Nat}(h:i < L.length):L[i]?=some (L.getD i 0):=by
 rw [zA7,zA0 h];rfl
theorem cut_drop {xs:List V}{i:Nat}(h:i<=xs.length):jF xs (some (i:Int)) none=xs.drop i:=by
 unfold jF;rw [HT.sIx_none,HT.sIx_nat,Nat.min_eq_left h,List.take_of_length_le (by rw [List.length_drop];exact zA3 _)]
theorem Jm:(["at","sacks","part","sort"]:List Str).Nodup:=by decide +kernel
theorem Kd:(["clip","sort","part"]:List Str).Nodup:=by decide +kernel
theorem Ke:FnScope ["clip","sort","part"] ["clip","sort","part"] (aG (top 60)):=fS
theorem Dk (F:Fun K "clip_less" "clip_less" (top 60) f fd)(T:Mg mg)(Te:mg "enumerate" = none):FnOk P w K mg base CX0 1 f fd ["clip","sort","part"] yl:=by
 refine F.ok Ke (fun vs H Q E h=>?_) (fun ar A outer s H vs Q E hr h=>?_)
 ·obtain ⟨t,c,so,pa,rfl,_⟩:=h;rfl
 ·obtain ⟨t,c,so,pa,rfl,et,okc,hl,q⟩:=h
  refine ⟨_,aD (aR (bM bF rfl T.tuple boot_tuple (aq (bC (g:=jj K 2 (bN (bw 0) (bN (bw 1) jo))) ["at","sacks","part","sort"] [none,none,some 2,some 1] rfl (pi_enum rfl Te (aq (pv 0) aj))
   (fun C fp pins s₂ H₂=>⟨cZ rfl rfl (ao (pgn 0 Jm) (ao (pgn 1 Jm) aV)),bu,ni (bj jk (pv 0) (pv 3) (bA _)) (aU j6 (aU eZ (pv 1) (aU cP aA (pv 2))) aA) (pv 1)⟩)
   (fun C=>cI (cI trivial)) ⟨rfl,rfl,rfl,rfl⟩) aj))),?_⟩
  have l3:=okc.1;refine ⟨_,rfl,t,_,rfl,SqT.of et,comp_gen 3 (fun i ys σ Hc=>Same H Hc/\(∃ o1 o2,σ=[o1,o2,some (.int pa),some (.int so)])/\ys=((List.range i).map (qY so pa c)).map V.int) ⟨Same.refl H,⟨_,_,rfl⟩,rfl⟩ (by rw [sizeLine_eq];decide) ?_ ?_⟩
  ·rintro i ys σ Hc hi hy ⟨s1,⟨o1,o2,rfl⟩,rfl⟩;have gi:SqT K Hc t (c.map V.int):=SqT.of (s1 _ _ et);have BD:(c.map V.int)[i]?=some (.int (c.getD i 0)):=dO (by lia);refine ⟨⟨_,_,gi,BD⟩,fun x H' yv R hR=>?_⟩;obtain ⟨T1,oS,rfl,yv⟩:=yv;obtain ⟨x',fh,rfl⟩:=yv _ gi;rw [BD] at fh;cases fh;have s2:=s1.updR (o:=.tup [.int (i:Int),.int (c.getD i 0)]) oS;have hb:=okc.2 (c.getD i 0) (by rw [zA7,zA0 (by lia)];exact zAh _);refine ⟨T1,_,rfl,SqT.of aa,rfl,_,_,rfl,_,_,rfl,rfl,?_⟩;have fin:∀ v,v=qY so pa c i->R (.int v) [some (.int (i:Int)),some (.int (c.getD i 0)),some (.int pa),some (.int so)] (upd Hc T1 (.tup [.int (i:Int),.int (c.getD i 0)])):=fun v ev=>hR _ _ _ ⟨s2,⟨_,_,rfl⟩,by rw [ev,List.range_succ,zA4,zA4];rfl⟩;refine ⟨_,rfl,_,rfl,rfl,_,rfl,?_⟩;by_cases hs:(i:Int)=so
   ·rw [zAt (show V.int (i:Int)=V.int so by rw [hs])];refine bQ ?_;exact ⟨_,rfl,_,rfl,_,_,rfl,rfl,_,_,rfl,rfl,.inl (by lia),_,_,rfl,rfl,⟨by decide,by decide⟩,fin _ (by unfold qY;rw [zAx hs])⟩
   ·rw [zAz (show ¬ V.int (i:Int)=V.int so from fun z=>hs (by injection z))];exact bB ⟨_,rfl,fin _ (by unfold qY;rw [zAw hs])⟩
  ·rintro ys σ Hc hy ⟨s1,_,rfl⟩;refine ⟨⟨_,SqT.of (s1 _ _ et),by rw [zA1];lia⟩,fun D hD=>⟨D,_,rfl,.inl ⟨SqL.of aa,fun t' fw=>q t' _ ((s1.updR hD).updR fw) ?_⟩⟩⟩;rw [aa];unfold fG;rw [l3]
theorem Kf:FnScope ["clips","year","sort","part"] ["clips","year","sort","part"] (aG (top 61)):=fS
theorem Dl (F:Fun K "clips_less" "clips_less" (top 61) f fd)(T:Mg mg)(c1:Cal P w K mg base 1 "clip_less" ["clip","sort","part"] yl):FnOk P w K mg base CX0 2 f fd ["clips","year","sort","part"] iC:=by
 refine F.ok Kf (fun vs H Q E h=>?_) (fun ar A outer s H vs Q E hr h=>?_)
 ·obtain ⟨ac,xc,cs,y,so,pa,rfl,_⟩:=h;rfl
 ·obtain ⟨ac,xc,cs,y,so,pa,rfl,rc,okc,lc,y0,y1,hl,q⟩:=h
  refine ⟨_,aD (aR (aU K61Q.op_catU (fV mX (pv 0) gY (gZ (pv 1))) (bM bF rfl T.tuple boot_tuple (aq (bC ["clip","sort","part"] [none,some 2,some 3] rfl (fQ (fV mX (pv 0) (gZ (pv 1)) gY))
   (fun C fp pins s₂ H₂=>⟨pgn 0 Kd,bu,aF c1 hr (aq (pv 0) (aq (pv 1) (aq (pv 2) aj)))⟩)
   (fun C=>cI (cI trivial)) ⟨rfl,rfl,rfl,rfl⟩) aj)))),?_⟩
  obtain ⟨n,rfl⟩:∃ n:Nat,y=n:=⟨y.toNat,by lia⟩
  rw [zAi] at q;have RE:=rc.l;refine ⟨_,rfl,_,rfl,_,rfl,ac,_,rfl,rc.e,fun kr H1 s1 OD=>?_⟩;rw [jY (by lia)] at OD;refine ⟨_,rfl,_,rfl,_,rfl,ac,_,rfl,s1 _ _ rc.e,fun c2 H2 s2 DI=>?_⟩;rw [cut_drop (by lia)] at DI;have r2:=(rc.same s1).same s2;have OE:=r2.els.dropE n;refine ⟨c2,rfl,⟨_,SqT.of DI⟩,comp_gen (cs.drop n).length (fun i ys σ Hc=>Same H2 Hc/\(∃ o1,σ=[o1,some (.int so),some (.int pa)])/\Els Hc ys (((cs.drop n).take i).map (fG so pa))) ⟨Same.refl H2,⟨_,rfl⟩,Els.nil⟩ (by rw [List.length_drop,sizeLine_eq];lia) ?_ ?_⟩
  ·rintro i ys σ Hc hi hy ⟨s3,⟨o1,rfl⟩,els⟩;obtain ⟨t,ex,et⟩:=OE.2 i (cs.drop n)[i] (zA0 hi);have kH:=okc _ (List.mem_of_mem_drop (zAh hi))
   have bq:((cs.drop n).take (i+1)).map (fG so pa)=((cs.drop n).take i).map (fG so pa)++[fG so pa (cs.drop n)[i]]:=by
    rw [zAj,zA0 hi,zA4];rfl
   rw [bq];generalize (cs.drop n)[i]=r at et kH ⊢;refine ⟨⟨_,_,SqT.of (s3 _ _ DI),ex⟩,fun v H' y' R' DJ=>?_⟩;obtain ⟨rfl,y'⟩:=y';have hv:=y' _ (SqT.of (s3 _ _ DI));rw [ex] at hv;cases hv;refine aH ?_;exact ⟨_,rfl,_,rfl,_,rfl,t,r,so,pa,rfl,s3 _ _ et,kH,hl,fun t' H4 s4 e4=>DJ _ _ _ ⟨s3.trans s4,⟨_,rfl⟩,(els.same s4).app (Els.one e4)⟩⟩
  ·rintro ys σ Hc hy ⟨s3,_,els⟩;rw [zAm] at els;refine ⟨⟨_,SqT.of (s3 _ _ DI),by rw [OE.1];exact zA3 _⟩,fun D hD=>⟨D,_,rfl,.inl ⟨SqL.of aa,fun t' fw=>?_⟩⟩⟩;have s5:=(s3.updR (o:=.lst ys) hD).updR (o:=.tup ys) fw;have Lh:=s2.trans s5;have e8:=els.same ((Same.upd (o:=.lst ys) hD).updR (o:=.tup ys) fw);have iN:=(((rc.els.takeE n).same s1).same Lh).app e8;have ly:=els.1;rw [zA1,List.length_drop] at ly;refine ⟨kr,t',_,ys,rfl,rfl,Lh _ _ OD,aa,fun z=>?_,?_,fun c H6 s6 ec=>q c _ H6 ((s1.trans Lh).trans s6) ⟨ec,(iN.same s6).1,(iN.same s6).2⟩⟩
   ·rw [z] at ly;simp at ly;lia
   ·rw [zAd,sizeLine_eq];lia
theorem Kg:FnScope ["clips","year","sort","part"] ["clips","year","sort","part"] (aG (top 62)):=fS
theorem uV (F:Fun K "lessened" "lessened" (top 62) f fd)(c1:Cal P w K mg base 5 "refuse_no_clips" ["thing"] Dg)(c2:Cal P w K mg base 3 "refuse_no_year_of" ["clips","year"] vO)(c3:Cal P w K mg base 3 "refuse_no_loss" ["sort","part"] vZ)(c4:Cal P w K mg base 2 "clips_less" ["clips","year","sort","part"] iC):FnOk P w K mg base CX0 6 f fd ["clips","year","sort","part"] iC:=by
 refine F.ok Kg (fun vs H Q E h=>?_) (fun ar A outer s H vs Q E hr h=>?_)
 ·obtain ⟨ac,xc,cs,y,so,pa,rfl,_⟩:=h;rfl
 ·obtain ⟨ac,xc,cs,y,so,pa,rfl,rc,okc,lc,y0,y1,hl,q⟩:=h
  refine ⟨_,aB (cO (aF c1 hr (aq (pv 0) aj))) (aB (cO (aF c2 hr (aq (pv 0) (aq (pv 1) aj)))) (aB (cO (aF c3 hr (aq (pv 2) (aq (pv 3) aj))))
   (aD (aR (aF c4 hr (aq (pv 0) (aq (pv 1) (aq (pv 2) (aq (pv 3) aj))))))))),?_⟩
  refine aC ?_
  have zc:sz (bK cs)<=4000:=by
   show 1+szs (cs.map rowD)<=4000;rw [gQ (k:=3) fun r hr=>(okc r hr).1];lia
  refine ⟨_,rfl,(fun _=>False),_,bK cs,rfl,rc.th,zc,Di (by lia) lc okc,fun H1 s1=>?_⟩;dsimp only;refine aC ?_;refine ⟨_,rfl,_,rfl,ac,xc,cs,y,rfl,rc.same s1,y0,y1,fun H2 s2=>?_⟩;dsimp only;refine aC ?_;refine ⟨_,rfl,_,rfl,so,pa,rfl,hl,fun H3 s3=>?_⟩;dsimp only;have OF:=(s1.trans s2).trans s3;exact ⟨_,rfl,_,rfl,_,rfl,_,rfl,ac,xc,cs,y,so,pa,rfl,rc.same OF,okc,lc,y0,y1,hl,fun a' zw H4 s4 r4=>q a' zw H4 (OF.trans s4) r4⟩
theorem Jo:(["before","after"]:List Str).Nodup:=by decide +kernel
theorem scJ4:FnScope ["book","year","sort","part","clips","promises","sales","poorer"] ["book","year","sort","part"] (aG (top 64)):=fS
theorem Dm (F:Fun K "borne_by" "borne_by" (top 64) f fd)(Tz:mg "zip" = none)(c1:Cal P w K mg base 8 "refuse_no_year" ["book","year"] (Ja Jb))(c2:Cal P w K mg base 3 "refuse_no_loss" ["sort","part"] vZ)(c3:Cal P w K mg base 2 "clips_less" ["clips","year","sort","part"] iC)(c4:Cal P w K mg base 12 "owed_at_last" ["book"] Df):FnOk P w K mg base CX0 13 f fd ["book","year","sort","part"] ym:=by
 refine F.ok scJ4 (fun vs H Q E h=>?_) (fun ar A outer s H vs Q E hr h=>?_)
 ·obtain ⟨S,bk,y,so,pa,d,ac,xc,cs,ap,xp,ps,ae,xs,ss,rfl,_⟩:=h;rfl
 ·obtain ⟨S,bk,y,so,pa,d,ac,xc,cs,ap,xp,ps,ae,xs,ss,rfl,th,hz,hb,B,okc,y0,y1,hl,q⟩:=h
  refine K61P.ok_b (aJ ⟨cO (aF c1 hr (aq (pv 0) (aq (pv 1) aj)))⟩ (aJ ⟨cO (aF c2 hr (aq (pv 2) (aq (pv 3) aj)))⟩
   (aJ ⟨cz (pv 0) (bJ rfl (ao (pgn 4 scJ4.nd) (ao (pgn 5 scJ4.nd) (ao (pgn 6 scJ4.nd) aV))))⟩
   (aJ (gA 7 scJ4.nd ⟨bD (aq (aF c3 hr (aq (pv 4) (aq (pv 1) (aq (pv 2) (aq (pv 3) aj))))) (aq (pv 5) (aq (pv 6) aj)))⟩)
   (bT ⟨aR (Bo (g:=jj K 2 (bN (bw 0) (bN (bw 1) jo))) ["before","after"] [none,none] rfl (ZL.pi_zip rfl Tz (aq (aF c4 hr (aq (pv 0) aj)) (aq (aF c4 hr (aq (pv 7) aj)) aj)))
    (fun C fp pins s₂ H₂=>⟨cZ rfl rfl (ao (pgn 0 Jo) (ao (pgn 1 Jo) aV)),bu,aU cP (pv 1) (pv 0)⟩)
    (fun C=>trivial) ⟨rfl,rfl,rfl,rfl⟩)⟩))))) ?_
  refine aC ?_;refine ⟨_,rfl,_,rfl,S,bk,y,d,ac,xc,cs,ap,xp,ps,ae,xs,ss,rfl,th,hz,hb,B,y0,y1,fun H1 s1=>?_⟩;dsimp only;refine aC ?_;refine ⟨_,rfl,_,rfl,so,pa,rfl,hl,fun H2 s2=>?_⟩;dsimp only;have B2:=(B.same s1).same s2;refine aC ?_;refine ⟨_,rfl,bk,_,rfl,SqT.of B2.e,rfl,_,_,rfl,_,_,rfl,_,_,rfl,rfl,?_⟩;dsimp only;refine aC (aW ?_);refine ⟨_,rfl,_,rfl,_,rfl,_,rfl,ac,xc,cs,y,so,pa,rfl,B2.rc,okc,B.lc,y0,y1,hl,fun a' zw H3 s3 r3=>⟨_,rfl,_,rfl,zL,fun E9 OG=>?_⟩⟩;have s4:=s3.updR (o:=.tup [.ref a',.ref ap,.ref ae]) OG;have B4:=B2.same s4;have kC:=oZ (y:=y.toNat) okc hl
  have B5:BookAt (upd H3 E9 (.tup [.ref a',.ref ap,.ref ae])) E9 a' zw (dC so pa y.toNat cs) ap xp ps ae xs ss:=⟨aa,r3.same (Same.upd OG),fun r hr=>⟨(kC r hr).1,fun x hx=>((kC r hr).2 x hx).1⟩,by rw [gR];exact B.lc,B4.rp,B.lp,B.okp,B4.rs,B.ls,B.h5,B.un⟩
  have OH:=(s1.trans s2).trans s4;generalize upd H3 E9 (.tup [.ref a',.ref ap,.ref ae])=H4 at s4 B4 B5 OH ⊢;refine aH ?_;dsimp only;refine ⟨_,rfl,bk,ac,xc,cs,ap,xp,ps,ae,xs,ss,rfl,B4,by lia,fun k1 H5 s5 n5 WV e5=>⟨_,rfl,E9,a',zw,_,ap,xp,ps,ae,xs,ss,rfl,B5.same s5,by rw [gR];lia,fun k2 H6 s6 n6 WX e6=>⟨k1,k2,_,_,rfl,SqL.of (s6 _ _ e5),SqL.of e6,?_⟩⟩⟩;have Li:=s6 _ _ e5;have OI:=(OH.trans s5).trans s6;have l1:(dR cs ps ss).length=8:=j5 _ _ _;have l2:(dR (dC so pa y.toNat cs) ps ss).length=8:=j5 _ _ _;unfold oY at q;generalize dR cs ps ss=A1 at Li l1 q;generalize dR (dC so pa y.toNat cs) ps ss=A2 at e6 l2 q;refine comp_gen 8 (fun i ys σ Hc=>Same H6 Hc/\(∃ o1 o2,σ=[o1,o2])/\ys=(((A2.zip A1).take i).map fun p=>p.1 - p.2).map V.int) ⟨Same.refl H6,⟨_,_,rfl⟩,rfl⟩ (by rw [sizeLine_eq];decide) ?_ ?_
  ·rintro i ys σ Hc hi hy ⟨sc,⟨o1,o2,rfl⟩,rfl⟩;have gi:SqL K Hc k1 (A1.map V.int):=SqL.of (sc _ _ Li);have DL:SqL K Hc k2 (A2.map V.int):=SqL.of (sc _ _ e6);have ko:(A1.map V.int)[i]?=some (.int (A1.getD i 0)):=dO (by lia);have DM:(A2.map V.int)[i]?=some (.int (A2.getD i 0)):=dO (by lia);refine ⟨⟨_,_,_,_,gi,DL,ko,DM⟩,fun x H' yv R hR=>?_⟩;obtain ⟨T1,oS,rfl,yv⟩:=yv;obtain ⟨x',y',fh,gE,rfl⟩:=yv _ _ gi DL;rw [ko] at fh;cases fh;rw [DM] at gE;cases gE;refine ⟨T1,_,rfl,SqT.of aa,rfl,_,_,rfl,_,_,rfl,rfl,?_⟩;refine ⟨_,rfl,_,rfl,_,_,rfl,rfl,hR _ _ _ ⟨sc.updR oS,⟨_,_,rfl⟩,?_⟩⟩
   have ez:(A2.zip A1)[i]?=some (A2.getD i 0,A1.getD i 0):=by
    rw [List.getElem?_zip_eq_some];exact ⟨getD_some (by lia),getD_some (by lia)⟩
   rw [zAj,ez,zA4,zA4];rfl
  ·rintro ys σ Hc hy ⟨sc,_,rfl⟩;rw [List.take_of_length_le (by rw [zAs];lia)];refine ⟨⟨_,_,SqL.of (sc _ _ Li),SqL.of (sc _ _ e6),.inl (by rw [zA1];lia)⟩,fun D hD nD=>q D _ ((OI.trans sc).updR hD) ((OI.trans sc).free hD) nD aa⟩
structure LsAt (H0 H:Hp)(as:List Addr)(rs:List (List Int)):Prop where
 l:as.length=rs.length
 nd:as.Nodup
 fr:∀ a∈as,H0 a=none
 g:∀ i a,as[i]?=some a->H a=some (.lst ((rs.getD i []).map V.int))
theorem LsAt.same {H0 H H':Hp}{as:List Addr}{rs:List (List Int)}(h:LsAt H0 H as rs)(s:Same H H'):LsAt H0 H' as rs:=⟨h.l,h.nd,h.fr,fun i a e=>s _ _ (h.g i a e)⟩
theorem LsAt.nil {H0 H:Hp}:LsAt H0 H [] []:=⟨rfl,List.nodup_nil,fun _ h=>(List.not_mem_nil h).elim,fun i a e=>by simp at e⟩
theorem LsAt.snoc {H0 H:Hp}{as:List Addr}{rs:List (List Int)}{a:Addr}{r:List Int}(h:LsAt H0 H as rs)(n:∀ b∈as,b≠a)(n0:H0 a=none)(e:H a=some (.lst (r.map V.int))):LsAt H0 H (as++[a]) (rs++[r]):=by
 refine ⟨by rw [zA2,zA2,h.l];rfl,?_,fun b hb=>?_,fun i b eb=>?_⟩
 ·rw [List.nodup_append];exact ⟨h.nd,by simp,fun x hx y hy=>by rw [List.mem_singleton.mp hy];exact n x hx⟩
 ·rcases zA6.mp hb with z | z
  ·exact h.fr b z
  ·rw [List.mem_singleton.mp z];exact n0
 ·by_cases hi:i < as.length
  ·rw [zBc hi] at eb;rw [zA7,zBc (by rw [<- h.l];exact hi),<- zA7];exact h.g i b eb
  ·rw [zB8 (by lia)] at eb
   cases hj:i - as.length with
   | zero =>
    rw [hj] at eb;injection eb with eb;subst eb;have:i=rs.length:=by have:=h.l;lia
    rw [this,zA7,List.getElem?_concat_length];exact e
   | succ k =>
    rw [hj] at eb;simp at eb
theorem LsAt.put {H0 H:Hp}{as:List Addr}{rs:List (List Int)}(h:LsAt H0 H as rs){i:Nat}{a:Addr}(ea:as[i]?=some a)(r:List Int):LsAt H0 (upd H a (.lst (r.map V.int))) as (rs.set i r):=by
 have hi:i < as.length:=(zAa.mp ea).1;refine ⟨by rw [List.length_set];exact h.l,h.nd,h.fr,fun j b eb=>?_⟩;by_cases hj:j=i
 ·subst hj;rw [ea] at eb;cases eb;rw [aa,zA7,List.getElem?_set_self (by rw [<- h.l];exact hi)];rfl
 ·rw [az fun z=>hj ?_,zA7,List.getElem?_set_ne (Ne.symm hj),<- zA7]
  ·exact h.g j b eb
  ·subst z;obtain ⟨h1,e1⟩:=zAa.mp eb;obtain ⟨h2,e2⟩:=zAa.mp ea;exact (List.getElem_inj h.nd).mp (e1.trans e2.symm)
theorem Dn {so pa:Int}{c:List Int}(ok:okC c)(hl:okL so pa):c.set so.toNat (c.getD so.toNat 0 * (100 - pa) / 100)=fG so pa c:=by
 obtain ⟨⟨a0,a1⟩,_⟩:=hl
 match c,ok.1 with
 | [x,y,z],_ =>
  have:so=0\/so=1\/so=2:=by lia
  rcases this with rfl | rfl | rfl <;> rfl
def kW (so pa:Int)(y j:Nat)(cs:List (List Int)):List (List Int):=cs.take y++(((cs.drop y).take j).map (fG so pa)++(cs.drop y).drop j)
theorem w5 {so pa:Int}{y:Nat}{cs:List (List Int)}:kW so pa y 0 cs=cs:=by
 unfold kW;rw [List.take_zero,List.map_nil,List.nil_append,List.drop_zero,zBa]
theorem zU {so pa:Int}{y j:Nat}{cs:List (List Int)}(h:cs.length<=y+j):kW so pa y j cs=dC so pa y cs:=by
 unfold kW dC;rw [List.take_of_length_le (l:=cs.drop y) (by rw [List.length_drop];lia),List.drop_of_length_le (l:=cs.drop y) (by rw [List.length_drop];lia),zAn]
theorem wg {so pa:Int}{y j:Nat}{cs:List (List Int)}(h:y+j < cs.length):kW so pa y (j+1) cs=(kW so pa y j cs).set (y+j) (fG so pa cs[y+j])/\(kW so pa y j cs).getD (y+j) []=cs[y+j]:=by
 have hd:j < (cs.drop y).length:=by rw [List.length_drop];lia
 have e1:(cs.drop y).drop j=cs[y+j]::(cs.drop y).drop (j+1):=by
  rw [List.drop_eq_getElem_cons hd,List.getElem_drop]
 have e2:(cs.drop y).take (j+1)=(cs.drop y).take j++[cs[y+j]]:=by
  rw [zAj,zA0 hd,List.getElem_drop];rfl
 have l1:(cs.take y).length=y:=by rw [zAd];lia
 have l2:(((cs.drop y).take j).map (fG so pa)).length=j:=by rw [zA1,zAd];lia
 unfold kW;rw [e2,e1,zA4];constructor
 ·rw [List.set_append_right _ _ (by lia),List.set_append_right _ _ (by lia),l1,l2,show y+j - y - j=0 by lia,List.set_cons_zero,zAf];rfl
 ·rw [zA7,zB8 (by lia),zB8 (by lia),l1,l2,show y+j - y - j=0 by lia];rfl
theorem q8 {X:Cx}{K:Frag}(hK:X.K=K):dJ X (.type "list") (fun xs H Q=>∃ p ys,xs=[.ref p]/\(SqL K H p ys\/SqT K H p ys)/\∀ l,H l=none->Q (.ref l) (upd H l (.lst ys))):=by
 subst hK;exact ie
theorem Kh:(["_law_clip"]:List Str).Nodup:=by decide +kernel
theorem Kl:(["_law_row"]:List Str).Nodup:=by decide +kernel
theorem scL1:FnScope ["_law_clips_here","_law_year","_law_sort","_law_part","_law_rows_here","_law_row"] ["_law_clips_here","_law_year","_law_sort","_law_part"] (aG (top 79)):=fS
theorem Do (F:Fun K "_law_less" "_law_less" (top 79) f fd)(T:Mg mg)(Tl:mg "list" = none):FnOk P w K mg base CX0 1 f fd ["_law_clips_here","_law_year","_law_sort","_law_part"] iC:=by
 refine F.ok scL1 (fun vs H Q E h=>?_) (fun ar A outer s H vs Q E hr h=>?_)
 ·obtain ⟨ac,xc,cs,y,so,pa,rfl,_⟩:=h;rfl
 ·obtain ⟨ac,xc,cs,y,so,pa,rfl,rc,okc,lc,y0,y1,hl,q⟩:=h
  refine K61P.ok_b (aJ ⟨fJ (i:=4) ["_law_clip"] [none] rfl scL1.nd rfl (Or.inl rfl) (fQ (pv 0)) (fun C fp pins s₂ H₂=>⟨pgn 0 Kh,bu,bM (q8 (K:=K) rfl) rfl Tl mj (aq (pv 0) aj)⟩) (fun C=>trivial) ⟨rfl,rfl,rfl,rfl⟩⟩
   (aJ ⟨bY zB3 rfl (bW (fV wF (pv 4) (gZ (pv 1)) gY)) (pgn 5 scL1.nd)
    (aD (cz (aU j6 (aU eZ (pX bL (pv 5) (pv 2)) (aU cP aA (pv 3))) aA) (fP (pv 5) (pv 2) set_list)))⟩
   (bT ⟨aR (bM bF rfl T.tuple boot_tuple (aq (bC ["_law_row"] [none] rfl (bW (pv 4)) (fun C fp pins s₂ H₂=>⟨pgn 0 Kl,bu,bM (K61P.call_tuple_ofK (K:=K) rfl) rfl T.tuple boot_tuple (aq (pv 0) aj)⟩) (fun C=>trivial) ⟨rfl,rfl,rfl,rfl⟩) aj))⟩))) ?_
  obtain ⟨n,rfl⟩:∃ n:Nat,y=n:=⟨y.toNat,by lia⟩
  rw [zAi] at q;have RE:=rc.l;refine cC fun c_ ba=>?_;refine ⟨_,rfl,ac,rfl,⟨_,SqT.of rc.e⟩,comp_gen cs.length (fun i ys σ Hc=>Same H Hc/\(∃ o1,σ=[o1])/\∃ as:List Addr,ys=as.map V.ref/\LsAt H Hc as (cs.take i)) ⟨Same.refl H,⟨_,rfl⟩,[],rfl,LsAt.nil⟩ (by rw [sizeLine_eq];lia) ?_ ?_⟩
  ·rintro i ys σ Hc hi hy ⟨s1,⟨o1,rfl⟩,as,rfl,hA⟩;obtain ⟨t,ex,et⟩:=rc.g i cs[i] (zA0 hi);have bq:cs.take (i+1)=cs.take i++[cs[i]]:=by rw [zAj,zA0 hi];rfl
   rw [bq];generalize cs[i]=r at et ⊢;refine ⟨⟨_,_,SqT.of (s1 _ _ rc.e),ex⟩,fun v H' y' R' DJ=>?_⟩;obtain ⟨rfl,y'⟩:=y';have hv:=y' _ (SqT.of (s1 _ _ rc.e));rw [ex] at hv;cases hv;refine aH ?_;refine ⟨_,rfl,t,_,rfl,.inr (SqT.of (s1 _ _ et)),fun l DO=>DJ _ _ _ ⟨s1.updR DO,⟨_,rfl⟩,as++[l],by rw [zA4];rfl,(hA.same (Same.upd DO)).snoc (fun b hb z=>?_) (s1.free DO) aa⟩⟩;obtain ⟨j,hj⟩:=List.getElem?_of_mem hb;have:=hA.g j b hj;rw [z,DO] at this;cases this
  ·rintro ys σ Hc hy ⟨s1,_,as,rfl,hA⟩;rw [zAm] at hA;refine ⟨⟨_,SqT.of (s1 _ _ rc.e),by lia⟩,fun D hD=>?_⟩;have s2:=s1.updR (o:=.lst (as.map V.ref)) hD;have Lj:=hA.same (Same.upd (o:=.lst (as.map V.ref)) hD);have eD:upd Hc D (.lst (as.map V.ref)) D=some (.lst (as.map V.ref)):=aa
   have nD:∀ b∈as,b≠D:=fun b hb z=>by
    obtain ⟨j,hj⟩:=List.getElem?_of_mem hb;have:=hA.g j b hj;rw [z,hD] at this;cases this
   have fD:H D=none:=s1.free hD;generalize upd Hc D (.lst (as.map V.ref))=H2 at s2 Lj eD ⊢;have lA:=hA.l;clear hA hD s1;refine ba _ _ ?_;clear ba c_
   try dsimp only
   refine aC ?_;refine ⟨_,rfl,_,rfl,_,rfl,D,_,rfl,SqL.of eD,fun D2 Fc=>⟨D2,rfl,⟨_,SqL.of aa⟩,?_⟩⟩;rw [cut_drop (by rw [zA1];lia)];have s3:=s2.updR (o:=.lst ((as.map V.ref).drop n)) Fc;have OJ:=Lj.same (Same.upd (o:=.lst ((as.map V.ref).drop n)) Fc);have OL:=Same.upd (o:=.lst ((as.map V.ref).drop n)) Fc _ _ eD;have OM:upd H2 D2 (.lst ((as.map V.ref).drop n)) D2=some (.lst ((as.map V.ref).drop n)):=aa
   have RF:∀ b∈as,b≠D2:=fun b hb z=>by
    obtain ⟨j,hj⟩:=List.getElem?_of_mem hb;have:=Lj.g j b hj;rw [z,Fc] at this;cases this
   generalize upd H2 D2 (.lst ((as.map V.ref).drop n))=H3 at s3 OJ OL OM ⊢;refine fU (xs:=(as.map V.ref).drop n) (fun j σ Hc=>∃ x5,σ=[some (.ref ac),some (.int n),some (.int so),some (.int pa),some (.ref D),x5]/\Same H Hc/\Hc D=some (.lst (as.map V.ref))/\Hc D2=some (.lst ((as.map V.ref).drop n))/\LsAt H Hc as (kW so pa n j cs)) ?_ ?_ ?_ ?_
   ·exact ⟨none,rfl,s3,OL,OM,by rw [w5];exact OJ⟩
   ·rintro j σ Hc hj ⟨x5,rfl,sc,e1,e2,hA⟩;exact SqL.of e2
   ·rintro j x σ Hc hx ⟨x5,rfl,sc,e1,e2,hA⟩;rw [List.getElem?_drop,zAb] at hx;obtain ⟨b,hb,rfl⟩:=Option.map_eq_some_iff.mp hx
    have hj:n+j < cs.length:=by
     have:=(zAa.mp hb).1;lia
    obtain ⟨es,eg⟩:=wg (so:=so) (pa:=pa) hj;rw [es];have eb:=hA.g _ b hb;rw [eg] at eb;have kH:=okc _ (zAh hj);have put:=hA.put hb (fG so pa cs[n+j]);have el:=Dn kH hl;obtain ⟨⟨a0,a1⟩,p0,p1⟩:=id hl;have l3:=kH.1;generalize cs[n+j]=c at eb kH put el l3 ⊢
    have gg:atI (c.map V.int) so=some (.int (c.getD so.toNat 0)):=by
     have:=cY (dO (L:=c) (i:=so.toNat) (by lia));rw [show ((so.toNat:Nat):Int)=so by lia] at this;exact this
    have bm:=zB7 hb;refine aH ?_;refine ⟨_,rfl,_,rfl,b,_,so,_,rfl,rfl,SqL.of eb,gg,_,rfl,_,_,rfl,rfl,_,_,rfl,rfl,.inr (by lia),_,_,rfl,rfl,⟨by decide,by decide⟩,_,rfl,_,rfl,b,_,so,so.toNat,rfl,rfl,eb,oK a0 (by rw [zA1];lia),?_⟩;rw [jd,el];exact ⟨_,rfl,fun b' o e=>by rw [az (au e (hA.fr b bm))];exact sc _ _ e,by rw [az (nD b bm).symm];exact e1,by rw [az (RF b bm).symm];exact e2,put⟩
   ·rintro σ Hc ⟨x5,rfl,sc,e1,e2,hA⟩;rw [zU (by rw [List.length_drop,zA1];lia)] at hA;dsimp only;refine iU ?_;have lR:(dC so pa n cs).length=cs.length:=gR;generalize dC so pa n cs=R at hA q lR;refine ⟨_,rfl,D,rfl,⟨_,SqL.of e1⟩,comp_gen R.length (fun i ys σ Hd=>Same Hc Hd/\(∃ o1,σ=[o1])/\Els Hd ys (R.take i)) ⟨Same.refl Hc,⟨_,rfl⟩,Els.nil⟩ (by rw [sizeLine_eq];lia) ?_ ?_⟩
    ·rintro i ys σ Hd hi hy ⟨s4,⟨o1,rfl⟩,els⟩;have ON:i < as.length:=by lia
     have ex:(as.map V.ref)[i]?=some (.ref as[i]):=by rw [zAb,zA0 ON];rfl
     have eb:=s4 _ _ (hA.g i _ (zA0 ON));have bq:R.take (i+1)=R.take i++[R.getD i []]:=by rw [zAj,zA0 hi,zA7,zA0 hi];rfl
     rw [bq];refine ⟨⟨_,_,SqL.of (s4 _ _ e1),ex⟩,fun v H' y' R' DJ=>?_⟩;obtain ⟨rfl,y'⟩:=y';have hv:=y' _ (SqL.of (s4 _ _ e1));rw [ex] at hv;cases hv;refine aH ?_;exact ⟨_,rfl,as[i],_,rfl,.inl ⟨SqL.of eb,fun t ht=>DJ _ _ _ ⟨s4.updR ht,⟨_,rfl⟩,(els.same (Same.upd ht)).app (Els.one aa)⟩⟩⟩
    ·rintro ys σ Hd hy ⟨s4,_,els⟩;rw [zAm] at els;refine ⟨⟨_,SqL.of (s4 _ _ e1),by rw [zA1];lia⟩,fun D3 RG=>⟨D3,_,rfl,.inl ⟨SqL.of aa,fun t ht=>?_⟩⟩⟩;have s5:=(Same.upd (o:=.lst ys) RG).updR (o:=.tup ys) ht;have e8:=els.same s5;exact q t ys _ ((sc.trans s4).trans s5) ⟨aa,e8.1,e8.2⟩
inductive SpOwingI (vs:List V)(H:Hp)(Q:VK):Prop
 | mk:∀ ac xc cs ap xp ps ae xs ss,(vs=[.ref ac,.ref ap,.ref ae])->(RowsAt H ac xc cs)->((∀ r∈cs,r.length=3/\∀ x∈r,0<=x))->(1<=cs.length)->(cs.length<=20)->(RowsAt H ap xp ps)->(ps.length<=10)->((∀ r∈ps,okP r))->(RowsAt H ae xs ss)->(ss.length<=12)->((∀ s∈ss,s.length=5))->(un ps ss=none)->(∀ k H',Same H H'->H k=none->k≠sysModules->H' k=some (.lst ((dR cs ps ss).map V.int))->Q (.ref k) H')->SpOwingI  vs H Q
def yo:Sp:=fun vs H Q _=>SpOwingI  vs H Q
theorem scO1:FnScope ["_law_clips_here","_law_promises","_law_sales","_law_found","_law_due","_law_number","_law_holder","_law_sacks"] ["_law_clips_here","_law_promises","_law_sales"] (aG (top 80)):=fS
theorem zV (F:Fun K "_law_owing" "_law_owing" (top 80) f fd)(c3:Cal P w K mg base 3 "_law_years" ["_law_clips_here","_law_promises","_law_sales"] uT):FnOk P w K mg base CX0 4 f fd ["_law_clips_here","_law_promises","_law_sales"] yo:=by
 refine F.ok scO1 (fun vs H Q E h=>?_) (fun ar A outer s H vs Q E hr h=>?_)
 ·obtain ⟨ac,xc,cs,ap,xp,ps,ae,xs,ss,rfl,_⟩:=h;rfl
 ·obtain ⟨ac,xc,cs,ap,xp,ps,ae,xs,ss,rfl,rc,okc,sf,lc,rp,lp,okp,rs,ls,h5,ku,q⟩:=h
  refine ⟨_,aB (pss 3 scO1.nd (aU xF (cX (aq aA aj)) aA))
   (aB (bY zB3 rfl (bW (pX bO (pX bL (aF c3 hr (aq (pv 0) (aq (pv 1) (aq (pv 2) aj)))) (Ae v8 aA)) aA)) (bJ rfl (ao (pgn 4 scO1.nd) (ao (pgn 5 scO1.nd) (ao (pgn 6 scO1.nd) (ao (pgn 7 scO1.nd) aV)))))
    (aD (cz (aU bZ (pX bL (pv 3) (pv 6)) (pv 7)) (fP (pv 3) (pv 6) set_list))))
   (aD (aR (pv 3)))),?_⟩
  refine aC (aW ?_);refine ⟨zL,fun l0 nh=>⟨l0,8,_,rfl,rfl,aa,by decide,by decide,zL,fun l1 dv nr=>?_⟩⟩;have s2:Same H (upd (upd H l0 (.lst [V.int 0])) l1 (.lst (List.replicate (8:Int).toNat [V.int 0]).flatten)):=(Same.upd nh).updR dv;have el1:upd (upd H l0 (.lst [V.int 0])) l1 (.lst (List.replicate (8:Int).toNat [V.int 0]).flatten) l1=some (.lst ((hsum (fl · 2) (fl · 3) []).map V.int)):=aa;have zI:H l1=none:=(Same.upd nh).free dv;generalize upd (upd H l0 (.lst [V.int 0])) l1 (.lst (List.replicate (8:Int).toNat [V.int 0]).flatten)=H2 at s2 el1 ⊢;refine aH ?_;dsimp only;refine aC ?_;refine ⟨_,rfl,_,rfl,_,rfl,ac,xc,cs,ap,xp,ps,ae,xs,ss,rfl,rc.same s2,okc,lc,rp.same s2,lp,okp,rs.same s2,ls,h5,ku,fun l lk ts H3 s3 nl el lt hw=>?_⟩;have hn:cs.length - 1 < ts.length:=by lia
  obtain ⟨g2,tl,q2,Oo,R2,WW⟩:=hw (cs.length - 1) ts[cs.length - 1] (zA0 hn)
  have gg:atI (ts.map V.ref) (-1)=some (.ref ts[cs.length - 1]):=by
   have e1:ixN (ts.map V.ref).length (-1)=some (cs.length - 1):=by
    unfold ixN;rw [zAw (by decide),zA1,lt,zAx (by lia)];congr 1;lia
   unfold atI;rw [e1];show (ts.map V.ref)[cs.length - 1]?=_;rw [zAb,zA0 hn];rfl
  have elq:=WW.elq;rw [show cs.length - 1+1=cs.length by lia] at elq;have e3:=s3 _ _ el1
  have nq:q2≠l1:=fun z=>by
   have h0:=WW.eq;rw [z,e3] at h0;injection h0 with h0;injection h0 with h0;have h1:=elq.1;rw [<- h0] at h1 elq;have h1:8=(dX cs ps ss cs.length).length:=h1;obtain ⟨t,e,_⟩:=elq.2 0 _ (zA0 (by lia));cases e
  have DH:=yg okc lp ku h5 okp cs.length lc
  have hh:∀ r∈dX cs ps ss cs.length,r.length=4/\hO r:=fun r hr=>⟨(DH r hr).1,Hf _ r hr⟩
  unfold dR at q;generalize dX cs ps ss cs.length=R at elq hh q;refine ⟨_,rfl,l,_,-1,.ref ts[cs.length - 1],rfl,rfl,SqL.of el,gg,ts[cs.length - 1],_,2,.ref q2,rfl,rfl,SqT.of WW.e,rfl,q2,rfl,⟨_,SqL.of WW.eq⟩,?_⟩;refine fU (xs:=R2) (fun i σ Hc=>∃ x4 x5 x6 x7,σ=[some (.ref ac),some (.ref ap),some (.ref ae),some (.ref l1),x4,x5,x6,x7]/\(∀ b o,b≠l1->H3 b=some o->Hc b=some o)/\Hc l1=some (.lst ((hsum (fl · 2) (fl · 3) (R.take i)).map V.int))) ?_ ?_ ?_ ?_
  ·exact ⟨none,none,none,none,rfl,fun _ _ _ e=>e,e3⟩
  ·rintro i σ Hc hi ⟨x4,x5,x6,x7,rfl,sm,e⟩;exact SqL.of (sm _ _ nq WW.eq)
  ·rintro i x σ Hc hx ⟨x4,x5,x6,x7,rfl,sm,e⟩
   have hi:i < R.length:=by
    have:=(zAa.mp hx).1;rw [elq.1] at this;exact this
   obtain ⟨tr,dA,cx⟩:=elq.2 i R[i] (zA0 hi)
   have:x=.ref tr:=by
    rw [hx] at dA;exact zAl dA
   subst this;rw [qX hi];have l8:=j5 (fl · 2) (fl · 3) (R.take i);generalize hsum (fl · 2) (fl · 3) (R.take i)=L at e l8 ⊢;obtain ⟨o4,h0,h1⟩:=hh _ (zAh hi);generalize R[i]=r at cx h0 h1 o4 ⊢;rw [bR o4] at cx
   have RH:tr≠l1:=fun z=>by
    rw [z,e3] at cx;cases cx
   have Ll:atI (L.map V.int) (fl r 2)=some (.int (L.getD (fl r 2).toNat 0)):=by
    have:=cY (dO (L:=L) (i:=(fl r 2).toNat) (by lia));rw [show (((fl r 2).toNat:Nat):Int)=fl r 2 by lia] at this;exact this
   refine ⟨tr,_,rfl,SqT.of (sm _ _ RH cx),rfl,_,_,rfl,_,_,rfl,_,_,rfl,_,_,rfl,rfl,?_⟩;refine ⟨_,rfl,_,rfl,l1,_,fl r 2,_,rfl,rfl,SqL.of e,Ll,_,rfl,_,_,rfl,rfl,_,rfl,_,rfl,l1,_,fl r 2,(fl r 2).toNat,rfl,rfl,e,oK h0 (by rw [zA1];lia),?_⟩;rw [jd];exact ⟨_,_,_,_,rfl,fun b o hb e=>by rw [az hb];exact sm _ _ hb e,aa⟩
  ·rintro σ Hc ⟨x4,x5,x6,x7,rfl,sm,e⟩;dsimp only;rw [elq.1,zAm] at e;exact ⟨_,rfl,q l1 Hc (fun b o e=>sm _ _ (au e zI) (s3 _ _ (s2 _ _ e))) zI nr e⟩
theorem zW {L:List Int}(h:∀ i∈L,-1000000<=i/\i<=1000000):tame (.list (L.map PyData.int))=true:=by
 refine jh fun d hd=>?_;obtain ⟨i,hi,rfl⟩:=zA5.mp hd;have:=h i hi;exact zAt (by lia)
theorem yp {cs ps ss:List (List Int)}(ix:∀ r∈cs,r.length=3/\∀ x∈r,0<=x)(lc:cs.length<=20)(hl:ps.length<=10)(hu:un ps ss=none)(h5:∀ s∈ss,s.length=5)(okp:∀ r∈ps,okP r):∀ x∈dR cs ps ss,0<=x/\x<=1000000:=fun x hx=>by
 have DH:=yg ix hl hu h5 okp cs.length lc;obtain ⟨iO,Kj⟩:=uN (cs:=cs) hl hu h5 okp cs.length;have:=yj (h:=(fl · 2)) (v:=(fl · 3)) (B:=99) (by decide) (dX cs ps ss cs.length) (List.replicate 8 0) 0 (by decide) (fun r hr=>(vX (DH r hr)).2.2.2) (fun x hx=>by rw [List.eq_of_mem_replicate hx];decide) x hx;lia
theorem Fo (L:List Int):sz (.list (L.map PyData.int))=1+L.length:=by
 show 1+szs (L.map PyData.int)=_;rw [lK]
theorem Fp {cs ps ss:List (List Int)}{y so pa:Int}(okc:∀ r∈cs,okC r)(lc:cs.length<=20)(cE:okL so pa)(hl:ps.length<=10)(hu:un ps ss=none)(h5:∀ s∈ss,s.length=5)(okp:∀ r∈ps,okP r):(oY cs ps ss y so pa).length=8/\tame (.list ((oY cs ps ss y so pa).map PyData.int))=true:=by
 have w:∀ {cs:List (List Int)},(∀ r∈cs,okC r)->∀ r∈cs,r.length=3/\∀ x∈r,0<=x:=fun h r hr=>⟨(h r hr).1,fun x hx=>((h r hr).2 x hx).1⟩
 have l1:(dR cs ps ss).length=8:=j5 _ _ _;have l2:(dR (dC so pa y.toNat cs) ps ss).length=8:=j5 _ _ _;unfold oY;refine ⟨by rw [zA1,zAs,l1,l2];rfl,zW fun i hi=>?_⟩;obtain ⟨p,hp,rfl⟩:=zA5.mp hi;obtain ⟨m1,m2⟩:=List.of_mem_zip (show (p.1,p.2)∈_ from hp);have b1:=yp (w (oZ (y:=y.toNat) okc cE)) (by rw [gR];exact lc) hl hu h5 okp p.1 m1;have b2:=yp (w okc) lc hl hu h5 okp p.2 m2;lia
inductive SpLawI (K:Frag)(vs:List V)(H:Hp)(Q:VK):Prop
 | mk:∀ (a:Addr) (ns:List Int),(vs=[.ref a])->(SqL K H a (ns.map V.int))->(ns.length<=63)->(∀ H',Q (.bl true) H')->SpLawI K vs H Q
def yq (K:Frag):Sp:=fun vs H Q _=>SpLawI K vs H Q
theorem zZ:bootBuiltins "max" = some (.builtin "max"):=by decide +kernel
theorem p8:bootBuiltins "repr" = some (.builtin "repr"):=by decide +kernel
theorem Jp:(["_law_less_here","_law_more"]:List Str).Nodup:=by decide +kernel
theorem scLL:FnScope ["_law_script","_law_k","_law_state_here","_law_book_here","_law_elder","_law_turn","_law_year","_law_sort","_law_part","_law_fewer","_law_kept","_law_newer","_law_due","_law_again","_law_found"] ["_law_script"] (aG (top 81)):=fS
theorem Hh (F:Fun K "law" "law" (top 81) f fd)(T:Mg mg)(Tr:mg "range" = none)(Tm:mg "max" = none)(Tn:mg "min" = none)(Tp:mg "repr" = none)(Tz:mg "zip" = none)
  (c0:Cal P w K mg base 1 "_law_choice" ["_law_state_here","_law_many"] K61P.spChoice) (c1:Cal P w K mg base 2 "_law_state" ["_law_script","_law_k"] (K61P.spState K)) (c2:Cal P w K mg base 3 "_law_book" ["_law_state_here","_law_years_here","_law_most"] K61Q.spBook) (c3:Cal P w K mg base 4 "_law_owing" ["_law_clips_here","_law_promises","_law_sales"] yo) (c4:Cal P w K mg base 1 "_law_less" ["_law_clips_here","_law_year","_law_sort","_law_part"] iC) (c5:Cal P w K mg base 61 "_law_same" ["_law_found","_law_due"] Bs) (c6:Cal P w K mg base 6 "lessened" ["clips","year","sort","part"] iC) (c7:Cal P w K mg base 13 "borne_by" ["book","year","sort","part"] ym):FnOk P w K mg base CX0 63 f fd ["_law_script"] (yq K):=by
 refine F.ok scLL (fun vs H Q E h=>?_) (fun ar A outer s H vs Q E hr h=>?_)
 ·obtain ⟨a,ns,rfl,_⟩:=h;rfl
 ·obtain ⟨a,ns,rfl,hS,hl,q⟩:=h
  refine K61P.ok_b (aJ ⟨bY zB3 rfl (cD rfl Tr (aq (aN (j7 rfl) rfl Tm zZ (aq aA (aq (aN (fK rfl) rfl Tn qU (aq (aN cg rfl T.len PySem.boot_len (aq (pv 0) aj)) (aq aA aj))) aj))) aj)) (pgn 1 scLL.nd)
   (iD (aJ (gA 2 scLL.nd ⟨aF c1 hr (aq (pv 0) (aq (pv 1) aj))⟩)
   (aJ (gA 3 scLL.nd ⟨aF c2 hr (aq (pv 2) (aq aA (aq aA aj)))⟩)
   (aJ (gA 4 scLL.nd ⟨aF c3 hr (aq (pX bO (pv 3) aA) (aq (pX bO (pv 3) aA) (aq (pX bO (pv 3) aA) aj)))⟩)
   (bT ⟨bY zB3 rfl (cD rfl Tr (aq aA aj)) (pgn 5 scLL.nd)
    (iD (aJ ⟨uX (i:=6) (j:=7) rfl scLL.nd rfl rfl (by decide) rfl rfl (aq (aF c0 hr (aq (pv 2) (aq (aN cg rfl T.len PySem.boot_len (aq (pX bO (pv 3) aA) aj)) aj))) (aq (aF c0 hr (aq (pv 2) (aq aA aj))) aj)) rfl⟩
    (aJ (gA 8 scLL.nd ⟨pX bL (cX (aq aA (aq aA (aq (aF c0 hr (aq (pv 2) (aq aA aj))) (aq aA aj))))) (aF c0 hr (aq (pv 2) (aq aA aj)))⟩)
    (aJ ⟨uX (i:=9) (j:=10) rfl scLL.nd rfl rfl (by decide) rfl rfl (aq (aF c4 hr (aq (pX bO (pv 3) aA) (aq (pv 6) (aq (pv 7) (aq (pv 8) aj))))) (aq (aN (j9 (S:=fun _=>False) hr.gd (fun h=>h)) rfl Tp p8 (aq (pv 3) aj)) aj)) rfl⟩
    (aJ ⟨cF (cW (dF (aF c5 hr (aq (aF c6 hr (aq (pX bO (pv 3) aA) (aq (pv 6) (aq (pv 7) (aq (pv 8) aj))))) (aq (pv 9) aj))))) (aD (aR mZ)) bf⟩
    (aJ (gA 11 scLL.nd ⟨aF c3 hr (aq (pv 9) (aq (pX bO (pv 3) aA) (aq (pX bO (pv 3) aA) aj)))⟩)
    (aJ ⟨Bp (g:=jj K 2 (bN (bw 0) (bN (bw 1) jo))) (i:=12) ["_law_less_here","_law_more"] [none,none] rfl scLL.nd rfl (Or.inl rfl) (ZL.pi_zip rfl Tz (aq (pv 4) (aq (pv 11) aj)))
     (fun C fp pins s₂ H₂=>⟨cZ rfl rfl (ao (pgn 0 Jp) (ao (pgn 1 Jp) aV)),bu,aU cP (pv 1) (pv 0)⟩) (fun C=>trivial) ⟨rfl,rfl,rfl,rfl⟩⟩
    (bT ⟨bY zB3 rfl (cD rfl Tr (aq aA aj)) (pgn 13 scLL.nd)
     (iD (aJ (gA 14 scLL.nd ⟨aF c7 hr (aq (pv 3) (aq (pv 6) (aq (pv 7) (aq (pv 8) aj))))⟩)
     (aJ ⟨cF (PW.pt (tO (cW (dF (aF c5 hr (aq (pv 14) (aq (pv 12) aj))))) (uW (bj Fw (aN (j9 (S:=fun _=>False) hr.gd (fun h=>h)) rfl Tp p8 (aq (pv 3) aj)) (pv 10) (bA _))))) (aD (aR mZ)) bf⟩
     (bT ⟨cO (Gk zBd PySem.F.slot_list_reverse PySem.F.type_list_reverse vo (pv 14))⟩))))⟩))))))))⟩)))))⟩
   (bT (rR Ib))) ?_
  refine aC ?_;have DO:(ns.map V.int).length<=63:=by rw [zA1];exact hl
  refine ⟨_,rfl,a,_,rfl,.inl hS,_,_,rfl,_,_,rfl,_,rfl,?_,?_,?_⟩
  ·split <;> split <;> lia
  ·split <;> split <;> lia
  refine di (lo:=0) (fun i σ Hc=>∃ x1 x2 x3 x4 x5 x6 x7 x8 x9 bX bP bS bg aS,σ=[some (.ref a),x1,x2,x3,x4,x5,x6,x7,x8,x9,bX,bP,bS,bg,aS]/\Same H Hc) ?_ ?_ ?_
  ·exact ⟨none,none,none,none,none,none,none,none,none,none,none,none,none,none,rfl,Same.refl H⟩
  ·rintro i σ H1 hi ⟨x1,x2,x3,x4,x5,x6,x7,x8,x9,bX,bP,bS,bg,aS,rfl,s1⟩;refine aH ?_;refine pU fun De Cb=>?_;refine aC (aW ?_);refine ⟨_,rfl,_,rfl,a,ns,_,rfl,s1.seq hS,by lia,fun st x y z hn IM RI vx=>?_⟩;have OO:H st=none:=s1.free hn
   have g1:K61P.StAt (upd H1 st (.lst [.int x,.int y,.int z])) st:=⟨x,y,z,aa,IM,RI,vx⟩
   have s2:Same H (upd H1 st (.lst [.int x,.int y,.int z])):=s1.updR hn;generalize upd H1 st (.lst [.int x,.int y,.int z])=H2 at g1 s2 ⊢;refine aH ?_;dsimp only;refine aC (aW ?_);refine ⟨_,rfl,st,12,10,rfl,g1,by decide,by decide,by decide,by decide,fun bk ac xc cs ap xp ps ae xs ss H3 d3 eb rc sf NM okc rp lp okp rs ls fI ku=>?_⟩;have s3:Same H H3:=fun b o e=>d3.bt b o (s2 _ _ e) (au e OO)
   have kC:∀ r∈cs,r.length=3/\∀ x∈r,0<=x:=fun r hr=>⟨(okc r hr).1,fun x hx=>((okc r hr).2 x hx).1⟩
   have h5:∀ s∈ss,s.length=5:=fun s hs=>(fI s hs).1;have zS:ps.length<=10:=by lia
   have DS:ss.length<=12:=by lia
   have Ap:cs.length<=20:=by lia
   have B3:BookAt H3 bk ac xc cs ap xp ps ae xs ss:=⟨eb,rc,kC,Ap,rp,zS,okp,rs,DS,h5,ku⟩
   have Lm:IsTh (fun _=>False) H3 (.ref bk) (.tuple [bK cs,bK ps,bK ss]):=.tup eb (.cons rc.th (.cons rp.th (.cons rs.th .nil)));have hb:=yh sf (by lia) okc zS okp DS h5 ku
   have zd:sz (.tuple [bK cs,bK ps,bK ss])<=300:=by
    show 1+((1+szs (cs.map rowD))+((1+szs (ps.map rowD))+((1+szs (ss.map rowD))+0)))<=300;rw [gQ (k:=3) fun r hr=>(okc r hr).1,gQ (k:=6) fun r hr=>(okp r hr).1,gQ (k:=5) h5];lia
   have td:tame (.tuple [bK cs,bK ps,bK ss])=true:=by
    show (fu (cs.map rowD) && (fu (ps.map rowD) && (fu (ss.map rowD) && true)))=true;rw [ji fun r hr i hi=>by have:=(okc r hr).2 i hi;lia,ji fun r hr=>GZ (okp r hr),ji fun r hr=>(fI r hr).2];rfl
   refine aH ?_;dsimp only;generalize hd:PyData.tuple [bK cs,bK ps,bK ss]=d at Lm hb zd td;refine aC (aW ?_);refine ⟨_,rfl,bk,_,0,.ref ac,rfl,rfl,SqT.of eb,rfl,_,rfl,bk,_,1,.ref ap,rfl,rfl,SqT.of eb,rfl,_,rfl,bk,_,2,.ref ae,rfl,rfl,SqT.of eb,rfl,ac,xc,cs,ap,xp,ps,ae,xs,ss,rfl,rc,kC,sf,Ap,rp,zS,okp,rs,DS,h5,ku,fun le H4 s4 Ln RJ RK=>?_⟩;have RL:=s3.trans s4;have B4:=B3.same s4;have RM:=Lm.same s4;have d4:=d3.same s4
   have IT:le≠st:=fun z=>by
    obtain ⟨u1,u2,u3,e,_⟩:=d3.sa;rw [z,e] at Ln;cases Ln
   clear B3 Lm rc rp rs s3 s2 g1 d3 s4 eb Ln;refine aH ?_;dsimp only;refine ⟨_,rfl,by decide,by decide,?_⟩;refine di (lo:=0) (n:=3) (fun j σ Hc=>∃ x5 x6 x7 x8 x9 bX bP bS bg aS,σ=[some (.ref a),some (.int (0+(i:Int))),some (.ref st),some (.ref bk),some (.ref le),x5,x6,x7,x8,x9,bX,bP,bS,bg,aS]/\K61P.Dr st H4 Hc) ?_ ?_ ?_
   ·exact ⟨_,_,_,_,_,_,_,_,_,_,rfl,K61P.Dr.refl d4.sa⟩
   ·rintro j σ Hc hj ⟨x5,x6,x7,x8,x9,bX,bP,bS,bg,aS,rfl,dc⟩;refine aH ?_;refine pU fun Nu jv=>?_;have WY:=B4.e;have tb:=dc.tups d4.sa;refine aC ?_;refine ⟨_,rfl,_,rfl,bk,_,0,.ref ac,rfl,rfl,SqT.of (tb _ _ B4.e),rfl,ac,xc,rfl,.inr (SqT.of (tb _ _ B4.rc.e)),st,_,rfl,dc.sa,by have:=B4.rc.l;lia,by have:=B4.rc.l;lia,fun y a1 b1 kr y0 y1 k1 k2 k3=>⟨_,rfl,st,3,rfl,(dc.draw k1 k2 k3).sa,by decide,by decide,fun so a2 b2 CB RN JY k4 k5 k6=>⟨_,_,rfl,?_⟩⟩⟩;rw [B4.rc.l] at y1;have dd:=(dc.draw (c:=kr) k1 k2 k3).draw (c:=CB) k4 k5 k6;generalize upd (upd Hc st (.lst [.int a1,.int b1,.int kr])) st (.lst [.int a2,.int b2,.int CB])=H5 at dd ⊢;clear dc tb;dsimp only;refine aC (aW ?_);refine ⟨_,rfl,st,101,rfl,dd.sa,by decide,by decide,fun p1 a3 b3 Lo RO WZ k1 k2 k3=>⟨zL,fun pl kD=>?_⟩⟩;have d5:=dd.draw (c:=Lo) k1 k2 k3;have np:=d5.ne kD;have d6:=d5.new (o:=.lst [V.int 0,V.int 1,V.int p1,V.int 100]) kD;have ep:upd (upd H5 st (.lst [.int a3,.int b3,.int Lo])) pl (.lst [V.int 0,V.int 1,V.int p1,V.int 100]) pl=some (.lst [V.int 0,V.int 1,V.int p1,V.int 100]):=aa;generalize upd (upd H5 st (.lst [.int a3,.int b3,.int Lo])) pl (.lst [V.int 0,V.int 1,V.int p1,V.int 100])=H6 at d6 ep ⊢;refine ⟨_,rfl,st,4,rfl,d6.sa,by decide,by decide,fun r4 a4 b4 OP QO QP k4 k5 k6=>?_⟩
    obtain ⟨pa,RP,RQ,RS⟩:∃ pa:Int,atI [V.int 0,V.int 1,V.int p1,V.int 100] r4=some (.int pa)/\0<=pa/\pa<=100:=by
     have:r4=0\/r4=1\/r4=2\/r4=3:=by lia
     rcases this with rfl | rfl | rfl | rfl
     ·exact ⟨_,rfl,by decide,by decide⟩
     ·exact ⟨_,rfl,by decide,by decide⟩
     ·exact ⟨_,rfl,RO,by lia⟩
     ·exact ⟨_,rfl,by decide,by decide⟩
    refine ⟨pl,_,r4,.int pa,rfl,rfl,SqL.of (by rw [az np];exact ep),RP,?_⟩;have d7:=d6.draw (c:=OP) k4 k5 k6;generalize upd H6 st (.lst [.int a4,.int b4,.int OP])=H7 at d7 ⊢;clear d6 d5 dd ep np kD
    have cE:okL so pa:=⟨⟨RN,JY⟩,RQ,RS⟩
    have t7:=d7.tups d4.sa
    have B7:BookAt H7 bk ac xc cs ap xp ps ae xs ss:=⟨t7 _ _ B4.e,B4.rc.keep t7,kC,Ap,B4.rp.keep t7,zS,okp,B4.rs.keep t7,DS,h5,ku⟩
    have OQ:=d7.th d4.sa RM;have Lp:=d7.bt _ _ RK IT;refine aH ?_;dsimp only;refine aC ?_;refine ⟨_,rfl,bk,_,0,.ref ac,rfl,rfl,SqT.of B7.e,rfl,_,rfl,_,rfl,_,rfl,ac,xc,cs,y,so,pa,rfl,B7.rc,okc,Ap,y0,by lia,cE,fun af xf H8 s8 rf=>?_⟩;have B8:=B7.same s8;have OR:=OQ.same s8;refine ⟨_,rfl,_,d,rfl,OR,td,by lia,K61.room_sz hr (by decide) (by lia),_,_,rfl,?_⟩;dsimp only;have Fh:=oZ (y:=y.toNat) okc cE;have lf:(dC so pa y.toNat cs).length=cs.length:=gR
    have zf:sz (bK (dC so pa y.toNat cs))<=1000:=by
     show 1+szs ((dC so pa y.toNat cs).map rowD)<=1000;rw [gQ (k:=3) fun r hr=>(Fh r hr).1];lia
    have tf:tame (bK (dC so pa y.toNat cs))=true:=by
     show fu ((dC so pa y.toNat cs).map rowD)=true
     exact ji fun r hr i hi=>by have:=(Fh r hr).2 i hi;lia
    refine aC ?_;refine ⟨_,rfl,bk,_,0,.ref ac,rfl,rfl,SqT.of B8.e,rfl,_,rfl,_,rfl,_,rfl,ac,xc,cs,y,so,pa,rfl,B8.rc,okc,Ap,y0,by lia,cE,fun ag xg H9 s9 rg=>?_⟩;have Lq:=rf.same s9;refine ⟨_,rfl,(fun _=>False),.ref ag,.ref af,_,_,rfl,fun z=>z,rg.th,Lq.th,tf,tf,zf,zf,_,rfl,?_⟩;rw [decide_eq_true rfl];refine bB (dD ?_);dsimp only;have B9:=B8.same s9;have OS:=s8.trans s9;refine aC (aW ?_);refine ⟨_,rfl,_,rfl,bk,_,1,.ref ap,rfl,rfl,SqT.of B9.e,rfl,_,rfl,bk,_,2,.ref ae,rfl,rfl,SqT.of B9.e,rfl,af,xf,_,ap,xp,ps,ae,xs,ss,rfl,Lq,fun r hr=>⟨(Fh r hr).1,fun x hx=>((Fh r hr).2 x hx).1⟩,by lia,by lia,B9.rp,zS,okp,B9.rs,DS,h5,ku,fun ln OT OU W5 RT DT=>?_⟩;refine aH ?_;dsimp only;have xB:=OS.trans OU;have gv:=xB _ _ Lp;obtain ⟨lb,tb⟩:=Fp (y:=y) (ps:=ps) (ss:=ss) okc Ap cE zS ku h5 okp;have l1:(dR cs ps ss).length=8:=j5 _ _ _;have l2:(dR (dC so pa y.toNat cs) ps ss).length=8:=j5 _ _ _;have ja:oY cs ps ss y so pa=((dR (dC so pa y.toNat cs) ps ss).zip (dR cs ps ss)).map fun p=>p.1 - p.2:=rfl;generalize RU:oY cs ps ss y so pa=BO at lb tb ja;generalize dR cs ps ss=A1 at gv l1 ja;generalize dR (dC so pa y.toNat cs) ps ss=A2 at DT l2 ja;refine cC fun cc qr=>?_;refine ⟨_,rfl,_,rfl,le,ln,_,_,rfl,SqL.of gv,SqL.of DT,comp_gen 8 (fun i ys σ Hc=>Same OT Hc/\(∃ o1 o2,σ=[o1,o2])/\ys=(((A2.zip A1).take i).map fun p=>p.1 - p.2).map V.int) ⟨Same.refl OT,⟨_,_,rfl⟩,rfl⟩ (by rw [sizeLine_eq];decide) ?_ ?_⟩
    ·rintro i ys σ Hc hi hy ⟨sc,⟨o1,o2,rfl⟩,rfl⟩;have gi:SqL K Hc le (A1.map V.int):=SqL.of (sc _ _ gv);have DL:SqL K Hc ln (A2.map V.int):=SqL.of (sc _ _ DT);have ko:(A1.map V.int)[i]?=some (.int (A1.getD i 0)):=dO (by lia);have DM:(A2.map V.int)[i]?=some (.int (A2.getD i 0)):=dO (by lia);refine ⟨⟨_,_,_,_,gi,DL,ko,DM⟩,fun x H' yv R hR=>?_⟩;obtain ⟨T1,oS,rfl,yv⟩:=yv;obtain ⟨x',y',fh,gE,rfl⟩:=yv _ _ gi DL;rw [ko] at fh;cases fh;rw [DM] at gE;cases gE;refine ⟨T1,_,rfl,SqT.of aa,rfl,_,_,rfl,_,_,rfl,rfl,?_⟩;refine ⟨_,rfl,_,rfl,_,_,rfl,rfl,hR _ _ _ ⟨sc.updR oS,⟨_,_,rfl⟩,?_⟩⟩
     have ez:(A2.zip A1)[i]?=some (A2.getD i 0,A1.getD i 0):=by
      rw [List.getElem?_zip_eq_some];exact ⟨getD_some (by lia),getD_some (by lia)⟩
     rw [zAj,ez,zA4,zA4];rfl
    ·rintro ys σ OV hy ⟨sc,_,rfl⟩;rw [List.take_of_length_le (by rw [zAs];lia),<- ja];refine ⟨⟨_,_,SqL.of (sc _ _ gv),SqL.of (sc _ _ DT),.inl (by rw [zA1];lia)⟩,fun D hD nD=>?_⟩;have Fm:=(xB.trans sc).updR (o:=.lst (BO.map V.int)) hD;have eD:upd OV D (.lst (BO.map V.int)) D=some (.lst (BO.map V.int)):=aa;generalize upd OV D (.lst (BO.map V.int))=RV at Fm eD ⊢;have RW:=B7.same Fm;have DU:=OQ.same Fm;have RX:=d7.same Fm;refine qr _ _ ?_;clear qr cc sc hD gv DT Lq rf rg B9 B8 OR OU s9 s8 xB OS
     try dsimp only
     refine ⟨_,rfl,by decide,by decide,?_⟩;refine di (lo:=0) (n:=2) (fun m σ Hm=>∃ bg aS,σ=[some (.ref a),some (.int (0+(i:Int))),some (.ref st),some (.ref bk),some (.ref le),some (.int (0+(j:Int))),some (.int y),some (.int so),some (.int pa),some (.ref af),some (.str d.shown),some (.ref ln),some (.ref D),bg,aS]/\Same RV Hm) ?_ ?_ ?_
     ·exact ⟨_,_,rfl,Same.refl _⟩
     ·rintro m σ Hm hm ⟨bg,aS,rfl,sm⟩;refine aH ?_;refine pU fun Rn RY=>?_;refine aC (aW ?_);refine ⟨_,rfl,_,rfl,_,rfl,_,rfl,(fun _=>False),bk,y,so,pa,d,ac,xc,cs,ap,xp,ps,ae,xs,ss,rfl,DU.same sm,by lia,hb,RW.same sm,okc,y0,by lia,cE,fun k OW yn nk Kb ek=>?_⟩;rw [RU] at ek;have xC:=sm.trans yn;have t1:IsTh (fun a=>a≠sysModules) OW (.ref k) (.list (BO.map PyData.int)):=.lst Kb ek (IsThs.ints _);have t2:IsTh (fun a=>a≠sysModules) OW (.ref D) (.list (BO.map PyData.int)):=.lst nD (xC _ _ eD) (IsThs.ints _);have zB:sz (.list (BO.map PyData.int))<=1000:=by rw [Fo];lia
      refine aH ?_;dsimp only;refine aC ?_;refine ⟨_,rfl,_,rfl,(fun a=>a≠sysModules),.ref k,.ref D,_,_,rfl,fun z=>z rfl,t1,t2,tb,tb,zB,zB,_,rfl,?_⟩;rw [decide_eq_true rfl];refine bB ?_;refine ⟨_,rfl,_,d,rfl,DU.same xC,td,by lia,K61.room_sz hr (by decide) (by lia),_,rfl,rfl,_,rfl,?_⟩;rw [decide_eq_true rfl];refine bB (dD ?_);dsimp only;refine ⟨_,rfl,.inl ⟨rfl,_,SqL.of ek⟩,k,_,rfl,rfl,ek,?_⟩;refine RY _ _ ⟨_,_,rfl,fun b o e=>?_⟩;rw [az (au (sm _ _ e) nk)];exact xC _ _ e
     ·rintro σ Hm ⟨bg,aS,rfl,sm⟩;exact jv _ _ ⟨_,_,_,_,_,_,_,_,_,_,rfl,RX.same sm⟩
   ·rintro σ Hc ⟨x5,x6,x7,x8,x9,bX,bP,bS,bg,aS,rfl,dc⟩;exact Cb _ _ ⟨_,_,_,_,_,_,_,_,_,_,_,_,_,_,rfl,fun b o e=>dc.bt _ _ (RL _ _ e) (au e OO)⟩
  ·rintro σ Hc ⟨x1,x2,x3,x4,x5,x6,x7,x8,x9,bX,bP,bS,bg,aS,rfl,sc⟩;exact q Hc
end K61
structure PySem.W.Fast:Prop where
 (tw16372007908519280672 tw5542965204147579968 tw3106817376598029472 tw10485431711353608416 tw13088771090872990944 tw18145276670518070528 tw3394369833483249920 tw3551263610753365248 tw11681127357804909856 tw3576478440230176256 tw11211746375716784672 tw12174573522464668320 tw12789980750174553824 tw2925412673490144000 tw9007054810874571520 tw14710057692670659456 tw16726636601721691008 tw13234400678893559680 tw14015737937812919232 tw8465111739295171649 tw3537142500785362017 tw5094344541445214369 tw15217799725360364897 tw9808025080835292577 tw11686993236096373345 tw9892960852176650881 tw9561540825686250305 tw11530697927340034881 tw13938172141441420129 tw292964017709717377 tw10816504456840215457 tw9246109317918067714 tw18026169312147880034 tw13870711747276884066 tw6064891364816829602 tw14934118235130174690 tw16361661053397370146 tw9614927812092292482 tw1037044507627301474 tw206490247664170626 tw1659487648108347106 tw8381137610367624994 tw709875374781172514 tw10539245597658381186 tw8967256995788831682 tw9592715194348562435 tw10234594189271410723 tw15020867691367842915 tw17260657069204627587 tw6310881297536399779 tw7389147316340305315 tw7052879049341321923 tw10804413341030481635 tw10028991386017897251 tw5349436910818373507 tw6024594746777175939 tw10604792037198257059 tw3379453854481193923 tw3761185006023920579 tw6621933886463101988 tw18042406384376650788 tw11666875046474593412 tw17582810471180851332 tw11053834224448216356 tw9493495882751210852 tw12314780943924359652 tw16946467366387766820 tw6831925006489134724 tw308308566961404708 tw8252655403482793860 tw79468173674010500 tw9163258009342667716 tw3930031193729258501 tw17159104484922432517 tw9625776947229998117 tw5654945843774033125 tw4053354202567161125 tw14879691200508772677 tw14103479376936194533 tw16435413028556959237 tw10832207803315640965 tw9186210875660271269 tw6239024683468376741 tw8865323556769217349 tw14059270517505696645 tw12746250104381389733 tw15352503637809287398 tw4997042245755230566 tw2119156655992164806 tw6076751632050932326 tw11506009748045584998 tw7594597840186539622 tw10150468413007250182 tw9093563858464234310 tw1404974579616646982 tw14107843317529518022 tw11192823454574392294 tw14882615321788882023 tw15604686651604611303 tw9814636071848089863 tw1775004935673910631 tw3161072346259249543 tw6944302484724518311 tw1685349008236372423 tw14011358022791132615 tw6337429455084963399 tw6930619817300931367 tw3183773417874854823 tw4595659358767819848 tw17918848283046466792 tw17270754073160918280 tw14856139971449642408 tw17487774647080825544 tw235383946388671208 tw1060088498503700232 tw693758214964131624 tw12048387987517723657 tw12226824971222159433 tw13261735774564941929 tw9340795977806029961 tw4286074770113511561 tw16954671944999452841 tw5449735630909345993 tw10501400383439452393 tw7012131939984839977 tw15785640412630274473 tw16319123433549958569 tw10060339336209566153 tw2903507730654898697 tw6629052394553207433 tw12803644781393164937 tw994503123670685353 tw7326365610447996681 tw6655797522564684585 tw5070812966951029673 tw3366486813864860617 tw15336212167047961577 tw16415147562463199242 tw5801970111981519882 tw6559631189381598634 tw3388395672914820554 tw10571289496448352810 tw6901652412553870922 tw7564368907553004138 tw1104898156485176010 tw13984643036719749898 tw10421859203341785962 tw8610181595066175370 tw4998040569989581802 tw3019076567488481258 tw13065689394225112075 tw8624866409676772395 tw2476413195810210923 tw4011908310612148459 tw5597432916846244075 tw8619218641711935755 tw2765495864450175339 tw12711336021924946379 tw14470037067174762987 tw16105050816299523563 tw16616008128473594411 tw5543275303588866667 tw13199282318580297355 tw8101724086126232555 tw14791809215763209260 tw17627055690521720908 tw9180452911396425804 tw12928728410434844780 tw4320791047938925772 tw4924301146452882700 tw6538592697899492748 tw1628834105410089452 tw4124027040541331980 tw17101535822254936588 tw1010927116709916268 tw15317993261920362124 tw2364941335287016268 tw1647153208160840588 tw2378106340075943852 tw14557018312665752685 tw11345501991993121901 tw9690572308149943437 tw1273325847823894669 tw11901326577042329805 tw16465889629600437517 tw9147354345199855021 tw11623081808047160813 tw12399349615137453549 tw243564222029218317 tw9667261198263654989 tw2549003709276534381 tw6875390371918272237 tw4011041671512680269 tw6282396589243210605 tw7770490206960832493 tw1516968705514122221 tw10022026661375987758 tw11581851657276369998 tw18055460800200245486 tw11433397596288134638 tw1749893742370354766 tw10354022902371085998 tw6815013460145984302 tw1635884653707644782 tw14484160427834505166 tw5044342582764991535 tw5840008806195193903 tw16225310172089880719 tw15592656148561914127 tw12545054919914138991 tw16642678204163763567 tw10557808024046143887 tw15375527733519328783 tw13875404687361169103 tw6800882517261172495 tw3156484883542318895 tw4279138429565161327 tw4111378391403688847 tw15794193274350401648 tw7532162524454843536 tw5048139476953108784 tw5082485729469948496 tw10362336194602892944 tw199112167832131216 tw4805670503627137808 tw9231717494672557105 tw8049493040619397233 tw8165268166909182065 tw402053430208572593 tw6477617754942725521 tw13912470078296780305 tw15782200387523624561 tw17342560687412565617 tw15777447112036995793 tw13963717146812577521 tw4414285125317755665 tw466965724852850577 tw10751397077791847409 tw11600723982188802258 tw9422586085608985842 tw2947490035576129810 tw11148089597540773170 tw13570185966273769842 tw12728107522772659698 tw12606586137351992882 tw16006068672849314610 tw6956981624557499218 tw13414611707341531090 tw12888802306875849682 tw10202370668618078323 tw89657250804992147 tw18244544427255655827 tw8354440212872881683 tw13832630981455287059 tw2622566221060599667 tw15741466866911834132 tw10705983646992630804 tw3789689526373155860 tw14218453909942274196 tw7902084837041952948 tw10403255653231420596 tw14471366181576087796 tw6429042610341457140 tw9903613928092839284 tw15862513441624291860 tw15601708921201121844 tw17985817353506402964 tw2392818053086263956 tw13059651556543915700 tw13955723163132954356 tw17638745303051919124 tw5141750366179632948 tw14108816145702125364 tw6434712683217438548 tw1215500582241607572 tw6991754514356906900 tw11142104527390765972 tw12203029941810333652 tw16957327868917283796 tw3609332704291953620 tw10617205738959008789 tw3991227694260793397 tw7887074432676777141 tw6556381816982580405 tw18221135567897112789 tw11697009291789805813 tw16597640864502049077 tw4917224090392940981 tw9901034178823856565 tw10461147526355282421 tw5929910549758757557 tw15634582101665260213 tw1662564713937620693 tw7192465793649157973 tw12975542272255761237 tw17506502014805189557 tw15518373882626686965 tw14436029579532769302 tw12968330341824566358 tw4342197863705743702 tw8561106210105037206 tw6147053612002362998 tw17854035662809347702 tw10705554789291290358 tw17238346110138520438 tw15354536880804266902 tw3284483361531805590 tw5307979566192864214 tw12276353366171363286 tw488950458737773558 tw1381934755464780823 tw3664390457260563671 tw6452446873349784951 tw2489121782200954263 tw253066636610740663 tw6656598403795023351 tw6779149426920290903 tw741125697276697239 tw11039919630177269399 tw8623408035123610551 tw3339802745475281879 tw9918113950171564248 tw15566802739866740024 tw372907798461240632 tw478114204220311896 tw7952012960936176248 tw10836974946248774264 tw13117703939821912920 tw11299777593093734328 tw451418883381452728 tw12228961400866784313 tw14674996672111371545 tw1096318390103378233 tw5232835198024813881 tw15742224288720657753 tw4533695215432732057 tw8335718771370604953 tw7001429584146415001 tw9057331083368574585 tw1927468032828423833 tw7051306050702330617 tw16052644676167681913 tw542628916311809945 tw5484296969890377721 tw12554523745780294649 tw10403906865678841914 tw16244523309078130810 tw2788930624525509818 tw7796754489433206970 tw7178349569592584442 tw781939946607405466 tw10904264533029928506 tw7436193958673822362 tw13788673925545104058 tw13632675866089012986 tw18287258231948241690 tw7120168482516895674 tw14151769358986658746 tw1539247133399872506 tw1701085507862743131 tw11722184266200013915 tw11007698542944987483 tw7712932320121703771 tw13456976379150960091 tw8500186517243767323 tw8247051751274789467 tw12198830442831487675 tw17441150501851834043 tw6535004448762809275 tw2019580128638436315 tw9256531506724239323 tw954788451392996380 tw13630041465747104924 tw1376633030863048892 tw13868810270327407836 tw9651454367169347868 tw8075139472582274492 tw4409691205729872348 tw14555440955096146428 tw14353293463351108124 tw10619684496014570076 tw4514805103674483324 tw10735536885001341756 tw12856026913894992892 tw16702921408360932413 tw4318340197090397309 tw5597796450675254589 tw7221583946215242077 tw155020998232625565 tw14076737038771999165 tw8383441081581612573 tw13128633370763936349 tw8645659343097331357 tw16325487768384152317 tw10452177824097780509 tw3967131277441746813 tw493632427990793085 tw9911805272319975325 tw13181616444692602813 tw1069809161554196445 tw17191983428901530686 tw5867139830766914750 tw14733955064239362270 tw9620673935769836990 tw8170275942915932702 tw14064206552889752350 tw6330187383813932830 tw12185145252147520382 tw13711529729938409470 tw6773098702976851039 tw13717509920779577535 tw10162571158734105823 tw4683622135640413599 tw13466121714957768191 tw18377187553133599263 tw5100293073069394527 tw12891086837393307263 tw1726051365247325887 tw13551851928439270111 tw13276826441708934975 tw759212865876123455 tw8660419430757003135 tw13321498331275922303 tw11453435088313822143 tw8998686125917897695 tw17497241956693232607 tw347639673550386175 tw2767109533880824356 tw6573133110673993080 tw3228502377743049792 tw4778298242398170298 tw15298699680728722874 tw2236344998942669006 tw14014525299885540697 tw10612881750316570451 tw14568634878538822166 tw11784854357616319290 tw12238779467797334604 tw4246844771914866770 tw1955370156289123252 tw7312929786922551680 tw5070005321378409498:True)
namespace K61
open PySem L2
theorem el1 {C:List Value->Prop}(h:∀ a0:Value,C [a0]):∀ us:List Value,us.length=1->C us:=fun us e=>match us,e with | [a0],_=>h a0
theorem el2 {C:List Value->Prop}(h:∀ a0 a1:Value,C [a0,a1]):∀ us:List Value,us.length=2->C us:=fun us e=>match us,e with | [a0,a1],_=>h a0 a1
theorem el3 {C:List Value->Prop}(h:∀ a0 a1 a2:Value,C [a0,a1,a2]):∀ us:List Value,us.length=3->C us:=fun us e=>match us,e with | [a0,a1,a2],_=>h a0 a1 a2
theorem el4 {C:List Value->Prop}(h:∀ a0 a1 a2 a3:Value,C [a0,a1,a2,a3]):∀ us:List Value,us.length=4->C us:=fun us e=>match us,e with | [a0,a1,a2,a3],_=>h a0 a1 a2 a3
theorem el5 {C:List Value->Prop}(h:∀ a0 a1 a2 a3 a4:Value,C [a0,a1,a2,a3,a4]):∀ us:List Value,us.length=5->C us:=fun us e=>match us,e with | [a0,a1,a2,a3,a4],_=>h a0 a1 a2 a3 a4
def Has (K:Frag)(x:Str)(st:Stmt):Prop:=∃ (f:Addr) (od an:Option Addr) (sl:Array (Option Value)) (oc kV dc pm cd ct:Value),PySem.W.nsIn K mainGlobals x=some (some (.ref f)) /\
 K.lookup f=some ⟨oc,od,.func (PySem.W.fnOf x x (gj st) (fH st) (aG st) .none kV dc pm an cd ct),sl⟩/\PySem.W.codeIn K cd x=true/\PySem.W.keepIn K (.ref f)=true
theorem has_mk {K:Frag}{x:Str}{st:Stmt}{f:Addr}{od an:Option Addr}{sl:Array (Option Value)}{oc kV dc pm cd ct:Value}(a:PySem.W.nsIn K mainGlobals x=some (some (.ref f)))
  (l:K.lookup f=some ⟨oc,od,.func (PySem.W.fnOf x x (gj st) (fH st) (aG st) .none kV dc pm an cd ct),sl⟩) (c:PySem.W.codeIn K cd x=true) (k:PySem.W.keepIn K (.ref f)=true):Has K x st:=⟨f,od,an,sl,oc,kV,dc,pm,cd,ct,a,l,c,k⟩
theorem Has.get {K:Frag}{x:Str}{st:Stmt}{h:Heap}{mg:Str->Option Value}(H:Has K x st)(X:K.In h)(G:h.Ns mainGlobals mg):∃ f fd,Fun K x x st f fd/\mg x=some (.ref f):=by
 obtain ⟨f,od,an,sl,oc,kV,dc,pm,cd,ct,a,l,c,k⟩:=H;exact ⟨f,_,Am (st:=st) l c k,PySem.W.mg_of X G a⟩
theorem aX (P:Program)(w:World)(base:Heap){K:Frag}{mg:Str->Option Value}{k:Nat}{x:Str}{ps:List Str}{sp:Sp}{f:Addr}{fd:FuncData}(F:FnOk P w K mg base CX0 k f fd ps sp)(m:mg x=some (.ref f))(kp:PySem.W.keepIn K (.ref f)=true)(b:Binds K fd ps []):Cal P w K mg base k x ps sp:=⟨f,fd,F,m,kp,b⟩
theorem all_mk {l:PySem.W.OpenLaw}{w:World}{K:Frag}{h:Heap}{mg:Str->Option Value}{fa fL:Addr}{RZ OX:Option Addr}{R0:Array (Option Value)}{R1 OY OZ yi Lr O0:Value}{t0 t1 t2 t3 t4 t5 t6 t7 t8 t9 O3:Tok}(X:K.In h)(G:h.Ns mainGlobals mg)(R3:mg "law" = some (.ref fa))
  (h11:Has K "is_whole" (top 11))
  (h12:Has K "is_whole_from" (top 12))
  (h13:Has K "is_tuple_of" (top 13))
  (h14:Has K "are_wholes" (top 14))
  (h25:Has K "is_clip" (top 25))
  (h26:Has K "are_clips" (top 26))
  (h27:Has K "refuse_no_clips" (top 27))
  (h28:Has K "is_promise" (top 28))
  (h29:Has K "are_promises" (top 29))
  (h30:Has K "are_sales" (top 30))
  (h31:Has K "held_in" (top 31))
  (h32:Has K "is_sale_between" (top 32))
  (h33:Has K "sale_holds" (top 33))
  (h34:Has K "first_unheld" (top 34))
  (h35:Has K "is_book" (top 35))
  (h36:Has K "refuse_no_book" (top 36))
  (h40:Has K "are_weights" (top 40))
  (h41:Has K "refuse_unpartable" (top 41))
  (h42:Has K "places_by_rest" (top 42))
  (h43:Has K "parts_of" (top 43))
  (h44:Has K "parted" (top 44))
  (h46:Has K "sacks_of" (top 46))
  (h47:Has K "claims_in" (top 47))
  (h48:Has K "shares_of" (top 48))
  (h49:Has K "made_good" (top 49))
  (h50:Has K "sort_given" (top 50))
  (h51:Has K "year_given" (top 51))
  (h52:Has K "years_given" (top 52))
  (h53:Has K "refuse_no_year_of" (top 53))
  (h54:Has K "refuse_no_year" (top 54))
  (h56:Has K "owed_behind" (top 56))
  (h57:Has K "by_holder" (top 57))
  (h59:Has K "refuse_no_loss" (top 59))
  (h60:Has K "clip_less" (top 60))
  (h61:Has K "clips_less" (top 61))
  (h62:Has K "lessened" (top 62))
  (h63:Has K "owed_at_last" (top 63))
  (h64:Has K "borne_by" (top 64))
  (h66:Has K "_law_cell_at" (top 66))
  (h67:Has K "_law_state" (top 67))
  (h68:Has K "_law_choice" (top 68))
  (h69:Has K "_law_same" (top 69))
  (h70:Has K "_law_parted" (top 70))
  (h71:Has K "_law_rows" (top 71))
  (h72:Has K "_law_claims" (top 72))
  (h73:Has K "_law_served" (top 73))
  (h74:Has K "_law_years" (top 74))
  (h75:Has K "_law_clips" (top 75))
  (h76:Has K "_law_promise" (top 76))
  (h77:Has K "_law_sale" (top 77))
  (h78:Has K "_law_book" (top 78))
  (h79:Has K "_law_less" (top 79))
  (h80:Has K "_law_owing" (top 80))
  (aL:PySem.W.nsIn K mainGlobals "law" = some (some (.ref fL))) (lL:K.lookup fL=some ⟨R1,RZ,.func (PySem.W.fnOf "law" "law" (gj (top 81)) (fH (top 81)) (aG (top 81)) .none OY OZ yi OX Lr O0),R0⟩) (cL:PySem.W.codeIn K Lr "law" = true) (kL:PySem.W.keepIn K (.ref fL)=true)
  (n0:PySem.W.nsIn K mainGlobals "SORTS" = some (some (.int 3 t0)))
  (n1:PySem.W.nsIn K mainGlobals "HOLDERS" = some (some (.int 8 t1)))
  (n2:PySem.W.nsIn K mainGlobals "LAST_YEAR" = some (some (.int 19 t2)))
  (n3:PySem.W.nsIn K mainGlobals "MOST_CLIPS" = some (some (.int 20 t3)))
  (n4:PySem.W.nsIn K mainGlobals "MOST_PROMISES" = some (some (.int 10 t4)))
  (n5:PySem.W.nsIn K mainGlobals "MOST_WOOL" = some (some (.int 999 t5)))
  (n6:PySem.W.nsIn K mainGlobals "MOST_SACKS" = some (some (.int 99 t6)))
  (n7:PySem.W.nsIn K mainGlobals "MOST_PRICE" = some (some (.int 1000000 t7)))
  (n8:PySem.W.nsIn K mainGlobals "MOST_SALES" = some (some (.int 12 t8)))
  (n9:PySem.W.nsIn K mainGlobals "MOST_WEIGHTS" = some (some (.int 80 t9)))
  (n10:PySem.W.nsIn K mainGlobals "MOST_WEIGHT" = some (some (.int 99 O3)))
  (cy:PySem.W.nsIn K mainGlobals "isinstance" = some none)
  (sv:PySem.W.nsIn K mainGlobals "int" = some none)
  (mB:PySem.W.nsIn K mainGlobals "bool" = some none)
  (js:PySem.W.nsIn K mainGlobals "tuple" = some none)
  (mE:PySem.W.nsIn K mainGlobals "len" = some none)
  (sx:PySem.W.nsIn K mainGlobals "all" = some none)
  (ay:PySem.W.nsIn K mainGlobals "range" = some none)
  (ip:PySem.W.nsIn K mainGlobals "list" = some none)
  (gx:PySem.W.nsIn K mainGlobals "max" = some none)
  (gy:PySem.W.nsIn K mainGlobals "min" = some none)
  (mI:PySem.W.nsIn K mainGlobals "repr" = some none)
  (gz:PySem.W.nsIn K mainGlobals "zip" = some none)
  (av:PySem.W.nsIn K mainGlobals "enumerate" = some none)
  (ff:PySem.W.nsIn K mainGlobals "sorted" = some none)
  (dE:PySem.W.nsIn K mainGlobals "sum" = some none)
  : ∃ fd:FuncData,(∀ (s:Shared) (v:Value),BindsTo s fd ⟨[v],[]⟩ [("_law_script",v)])/\∀ base:Heap,K.In base->base.Ns mainGlobals mg->FnOk l.prog w K mg base CX0 63 fa fd ["_law_script"] (yq K):=by
 have e:=R3.symm.trans (PySem.W.mg_of X G aL);cases e;have FL:=Am (st:=top 81) lL cL kL;obtain ⟨W6,R4,Ls,R5⟩:=h11.get X G;have R6:=Ls.binds (ps:=["thing"]) fun _ _ _ _ _ _=>el1 fun _=>rfl;obtain ⟨Xa,R7,Lu,R8⟩:=h12.get X G;have R9:=Lu.binds (ps:=["thing","least","most"]) fun _ _ _ _ _ _=>el3 fun _ _ _=>rfl;obtain ⟨Xb,Sa,Lv,Sb⟩:=h13.get X G;have Sd:=Lv.binds (ps:=["thing","fewest","most"]) fun _ _ _ _ _ _=>el3 fun _ _ _=>rfl;obtain ⟨Xc,Se,Lw,Sf⟩:=h14.get X G;have Sg:=Lw.binds (ps:=["thing","many"]) fun _ _ _ _ _ _=>el2 fun _ _=>rfl;obtain ⟨Xd,Sh,Lx,Si⟩:=h25.get X G;have Sj:=Lx.binds (ps:=["thing"]) fun _ _ _ _ _ _=>el1 fun _=>rfl;obtain ⟨Xe,Sk,Lz,Sl⟩:=h26.get X G;have Sn:=Lz.binds (ps:=["thing"]) fun _ _ _ _ _ _=>el1 fun _=>rfl;obtain ⟨Xf,So,LA,Sq⟩:=h27.get X G;have Sr:=LA.binds (ps:=["thing"]) fun _ _ _ _ _ _=>el1 fun _=>rfl;obtain ⟨Xg,Ss,LB,Su⟩:=h28.get X G;have Sv:=LB.binds (ps:=["thing"]) fun _ _ _ _ _ _=>el1 fun _=>rfl;obtain ⟨Xh,Sw,LC,Sx⟩:=h29.get X G;have Sy:=LC.binds (ps:=["thing"]) fun _ _ _ _ _ _=>el1 fun _=>rfl;obtain ⟨Xi,Sz,LD,SA⟩:=h30.get X G;have SD:=LD.binds (ps:=["thing"]) fun _ _ _ _ _ _=>el1 fun _=>rfl;obtain ⟨Xj,SE,LF,SF⟩:=h31.get X G;have SI:=LF.binds (ps:=["promises","sales","number","year"]) fun _ _ _ _ _ _=>el4 fun _ _ _ _=>rfl;obtain ⟨Xk,SJ,LG,SK⟩:=h32.get X G;have SM:=LG.binds (ps:=["promises","sale"]) fun _ _ _ _ _ _=>el2 fun _ _=>rfl;obtain ⟨Xl,SN,LH,SO⟩:=h33.get X G;have SQ:=LH.binds (ps:=["promises","ahead","sale"]) fun _ _ _ _ _ _=>el3 fun _ _ _=>rfl;obtain ⟨Xm,SR,LI,SS⟩:=h34.get X G;have SU:=LI.binds (ps:=["promises","sales"]) fun _ _ _ _ _ _=>el2 fun _ _=>rfl;obtain ⟨Xn,SV,LJ,SW⟩:=h35.get X G;have SX:=LJ.binds (ps:=["thing"]) fun _ _ _ _ _ _=>el1 fun _=>rfl;obtain ⟨Xo,SY,LK,S0⟩:=h36.get X G;have S5:=LK.binds (ps:=["thing"]) fun _ _ _ _ _ _=>el1 fun _=>rfl;obtain ⟨Xp,S8,LM,S9⟩:=h40.get X G;have Ta:=LM.binds (ps:=["thing"]) fun _ _ _ _ _ _=>el1 fun _=>rfl;obtain ⟨Xq,Tb,LN,Tc⟩:=h41.get X G;have Td:=LN.binds (ps:=["sacks","weights"]) fun _ _ _ _ _ _=>el2 fun _ _=>rfl;obtain ⟨Xr,Tf,LO,Tg⟩:=h42.get X G;have Th:=LO.binds (ps:=["rests"]) fun _ _ _ _ _ _=>el1 fun _=>rfl;obtain ⟨Xs,Ti,LP,Tj⟩:=h43.get X G;have Tq:=LP.binds (ps:=["sacks","weights"]) fun _ _ _ _ _ _=>el2 fun _ _=>rfl;obtain ⟨Xt,Tt,LQ,Tu⟩:=h44.get X G;have Tv:=LQ.binds (ps:=["sacks","weights"]) fun _ _ _ _ _ _=>el2 fun _ _=>rfl;obtain ⟨Xu,Tw,LR,Tx⟩:=h46.get X G;have TB:=LR.binds (ps:=["rows"]) fun _ _ _ _ _ _=>el1 fun _=>rfl;obtain ⟨Xv,TC,LS,TF⟩:=h47.get X G;have TH:=LS.binds (ps:=["promises","sales","sort","year"]) fun _ _ _ _ _ _=>el4 fun _ _ _ _=>rfl;obtain ⟨Xw,TJ,LU,TK⟩:=h48.get X G;have TL:=LU.binds (ps:=["wool","claims"]) fun _ _ _ _ _ _=>el2 fun _ _=>rfl;obtain ⟨Xx,TM,LV,TN⟩:=h49.get X G;have TQ:=LV.binds (ps:=["wool","owed"]) fun _ _ _ _ _ _=>el2 fun _ _=>rfl;obtain ⟨Xy,TR,LW,TU⟩:=h50.get X G;have TV:=LW.binds (ps:=["wool","claims","owed"]) fun _ _ _ _ _ _=>el3 fun _ _ _=>rfl;obtain ⟨Xz,TX,LX,TY⟩:=h51.get X G;have TZ:=LX.binds (ps:=["book","year","owed"]) fun _ _ _ _ _ _=>el3 fun _ _ _=>rfl;obtain ⟨XA,T2,LY,T3⟩:=h52.get X G;have T4:=LY.binds (ps:=["book","year"]) fun _ _ _ _ _ _=>el2 fun _ _=>rfl;obtain ⟨XB,T5,LZ,T6⟩:=h53.get X G;have T7:=LZ.binds (ps:=["clips","year"]) fun _ _ _ _ _ _=>el2 fun _ _=>rfl;obtain ⟨XC,T8,L0,T9⟩:=h54.get X G;have Ua:=L0.binds (ps:=["book","year"]) fun _ _ _ _ _ _=>el2 fun _ _=>rfl;obtain ⟨XD,Ub,L3,Uc⟩:=h56.get X G;have Ud:=L3.binds (ps:=["book","year"]) fun _ _ _ _ _ _=>el2 fun _ _=>rfl;obtain ⟨XE,Ue,L4,Ug⟩:=h57.get X G;have Uh:=L4.binds (ps:=["rows"]) fun _ _ _ _ _ _=>el1 fun _=>rfl;obtain ⟨XF,Ui,L5,Uj⟩:=h59.get X G;have Uk:=L5.binds (ps:=["sort","part"]) fun _ _ _ _ _ _=>el2 fun _ _=>rfl;obtain ⟨XG,Ul,L6,Um⟩:=h60.get X G;have Uo:=L6.binds (ps:=["clip","sort","part"]) fun _ _ _ _ _ _=>el3 fun _ _ _=>rfl;obtain ⟨XH,Up,L7,Uq⟩:=h61.get X G;have Ur:=L7.binds (ps:=["clips","year","sort","part"]) fun _ _ _ _ _ _=>el4 fun _ _ _ _=>rfl;obtain ⟨XI,Us,L8,Ut⟩:=h62.get X G;have Uu:=L8.binds (ps:=["clips","year","sort","part"]) fun _ _ _ _ _ _=>el4 fun _ _ _ _=>rfl;obtain ⟨XJ,Uv,L9,Uw⟩:=h63.get X G;have Ux:=L9.binds (ps:=["book"]) fun _ _ _ _ _ _=>el1 fun _=>rfl;obtain ⟨XM,Uy,Ma,Uz⟩:=h64.get X G;have UA:=Ma.binds (ps:=["book","year","sort","part"]) fun _ _ _ _ _ _=>el4 fun _ _ _ _=>rfl;obtain ⟨XN,UB,Mb,UC⟩:=h66.get X G;have UD:=Mb.binds (ps:=["_law_script","_law_k"]) fun _ _ _ _ _ _=>el2 fun _ _=>rfl;obtain ⟨XO,UE,Mc,UG⟩:=h67.get X G;have UH:=Mc.binds (ps:=["_law_script","_law_k"]) fun _ _ _ _ _ _=>el2 fun _ _=>rfl;obtain ⟨XQ,UI,Md,UJ⟩:=h68.get X G;have UK:=Md.binds (ps:=["_law_state_here","_law_many"]) fun _ _ _ _ _ _=>el2 fun _ _=>rfl;obtain ⟨XR,UL,Me,UM⟩:=h69.get X G;have UN:=Me.binds (ps:=["_law_found","_law_due"]) fun _ _ _ _ _ _=>el2 fun _ _=>rfl;obtain ⟨XS,UO,Mf,UP⟩:=h70.get X G;have UQ:=Mf.binds (ps:=["_law_sacks","_law_weights"]) fun _ _ _ _ _ _=>el2 fun _ _=>rfl;obtain ⟨XT,UR,Mj,US⟩:=h71.get X G;have UT:=Mj.binds (ps:=["_law_promises","_law_sales"]) fun _ _ _ _ _ _=>el2 fun _ _=>rfl;obtain ⟨XU,UU,Ml,UW⟩:=h72.get X G;have UX:=Ml.binds (ps:=["_law_promises","_law_rows_here","_law_year","_law_sort"]) fun _ _ _ _ _ _=>el4 fun _ _ _ _=>rfl;obtain ⟨XW,UY,Mm,UZ⟩:=h73.get X G;have U0:=Mm.binds (ps:=["_law_lacks","_law_some","_law_year","_law_sort","_law_have"]) fun _ _ _ _ _ _=>el5 fun _ _ _ _ _=>rfl;obtain ⟨XX,U1,Mp,U2⟩:=h74.get X G;have U3:=Mp.binds (ps:=["_law_clips_here","_law_promises","_law_sales"]) fun _ _ _ _ _ _=>el3 fun _ _ _=>rfl;obtain ⟨XY,U4,Mq,U5⟩:=h75.get X G;have U6:=Mq.binds (ps:=["_law_state_here","_law_most"]) fun _ _ _ _ _ _=>el2 fun _ _=>rfl;obtain ⟨XZ,U7,Mr,U8⟩:=h76.get X G;have U9:=Mr.binds (ps:=["_law_state_here","_law_years_here"]) fun _ _ _ _ _ _=>el2 fun _ _=>rfl;obtain ⟨X0,Va,Ms,Vb⟩:=h77.get X G;have Vc:=Ms.binds (ps:=["_law_state_here","_law_promises"]) fun _ _ _ _ _ _=>el2 fun _ _=>rfl;obtain ⟨X1,Vd,Mt,Ve⟩:=h78.get X G;have Vf:=Mt.binds (ps:=["_law_state_here","_law_years_here","_law_most"]) fun _ _ _ _ _ _=>el3 fun _ _ _=>rfl;obtain ⟨X2,Vg,Mu,Vh⟩:=h79.get X G;have Vi:=Mu.binds (ps:=["_law_clips_here","_law_year","_law_sort","_law_part"]) fun _ _ _ _ _ _=>el4 fun _ _ _ _=>rfl;obtain ⟨X3,Vj,Mv,Vk⟩:=h80.get X G;have Vl:=Mv.binds (ps:=["_law_clips_here","_law_promises","_law_sales"]) fun _ _ _ _ _ _=>el3 fun _ _ _=>rfl
 have T:Mg mg:=⟨(zAu X G cy),(zAu X G sv),(zAu X G mB),(zAu X G js),(zAu X G mE),(zAu X G sx)⟩
 have TP:K61.Mg mg:=⟨(zAu X G cy),(zAu X G sv),(zAu X G mB),(zAu X G js),(zAu X G mE),(zAu X G sx)⟩
 have N:Nums mg:=⟨⟨t0,PySem.W.mg_of X G n0⟩,⟨t1,PySem.W.mg_of X G n1⟩,⟨t2,PySem.W.mg_of X G n2⟩,⟨t3,PySem.W.mg_of X G n3⟩,⟨t4,PySem.W.mg_of X G n4⟩,⟨t5,PySem.W.mg_of X G n5⟩,⟨t6,PySem.W.mg_of X G n6⟩,⟨t7,PySem.W.mg_of X G n7⟩⟩
 have NP:K61P.Nums mg:=⟨⟨t9,PySem.W.mg_of X G n9⟩,⟨O3,PySem.W.mg_of X G n10⟩⟩
 have N2:MS mg:=⟨⟨t8,PySem.W.mg_of X G n8⟩⟩
 refine ⟨PySem.W.fnOf "law" "law" (gj (top 81)) (fH (top 81)) (aG (top 81)) .none OY OZ yi OX Lr O0,fun s v=>.of_eq rfl,fun base _ _=>?_⟩;have O4:=aX l.prog w base (uE Ls T) R5 Ls.kp R6;have Fn:=aX l.prog w base (pW Lu O4) R8 Lu.kp R9;have As:=aX l.prog w base (oH Lv T) Sb Lv.kp Sd;have Mw:=aX l.prog w base (pP Lw T O4 As) Sf Lw.kp Sg;have Vm:=aX l.prog w base (vD Lx T N Mw) Si Lx.kp Sj;have O5:=aX l.prog w base (sS Lz T N Vm As) Sl Lz.kp Sn;have Vn:=aX l.prog w base (Fj LA O5) Sq LA.kp Sr;have Vo:=aX l.prog w base (pQ LB T N Mw) Su LB.kp Sv;have O6:=aX l.prog w base (mz LC T N Vo As) Sx LC.kp Sy;have O7:=aX l.prog w base (sV LD T N2 Mw As) SA LD.kp SD;have O8:=aX l.prog w base (En LF N) SF LF.kp SI;have Vp:=aX l.prog w base (Eo LG T N) SK LG.kp SM;have Vq:=aX l.prog w base (Bw LH T (zAu X G ay) Vp O8) SO LH.kp SQ;have Vr:=aX l.prog w base (Bx LI (zAu X G av) O6 O7 Vq) SS LI.kp SU;have Vs:=aX l.prog w base (ok_book LJ As O5 O6 O7 Vr) SW LJ.kp SX;have Vt:=aX l.prog w base (Ex LK Vs) S0 LK.kp S5;have Vu:=aX l.prog w base (K61P.ok_are_weights LM TP NP Fn As) S9 LM.kp Ta;have Vv:=aX l.prog w base (K61P.ok_refuse LN (zAu X G dE) Vu Fn) Tc LN.kp Td;have Vw:=aX l.prog w base (K61P.ok_places LO (zAu X G av) (zAu X G ff)) Tg LO.kp Th;have Vx:=aX l.prog w base (K61P.ok_parts LP TP (zAu X G dE) Vw) Tj LP.kp Tq;have Vy:=aX l.prog w base (K61P.ok_parted LQ Vv Vx) Tu LQ.kp Tv;have Vz:=aX l.prog w base (By LR (zAu X G dE)) Tx LR.kp TB;have VA:=aX l.prog w base (zx LS (zAu X G av) O8) TF LS.kp TH;have VB:=aX l.prog w base (zu LU T (zAu X G dE) Vy) TK LU.kp TL;have VC:=aX l.prog w base (Er LV (zAu X G gy)) TN LV.kp TQ;have VD:=aX l.prog w base (BX LW (zAu X G dE) (zAu X G ip) (zAu X G gz) VB VC) TU LW.kp TV;have VE:=aX l.prog w base (Ew LX T N (zAu X G ay) (zAu X G ff) VA VD Vz) TY LX.kp TZ;have VF:=aX l.prog w base (Ck LY (zAu X G ay) VE) T3 LY.kp T4;have O9:=aX l.prog w base (Ey LZ T Fn) T6 LZ.kp T7;have VG:=aX l.prog w base (Cp L0 Vt O9) T9 L0.kp Ua;have VH:=aX l.prog w base (Cq L3 VF) Uc L3.kp Ud;have VI:=aX l.prog w base (Hg L4 N) Ug L4.kp Uh;have Pa:=aX l.prog w base (Fl L5 N Fn) Uj L5.kp Uk;have VJ:=aX l.prog w base (Dk L6 T (zAu X G av)) Um L6.kp Uo;have Pb:=aX l.prog w base (Dl L7 T VJ) Uq L7.kp Ur;have VL:=aX l.prog w base (uV L8 Vn O9 Pa Pb) Ut L8.kp Uu;have VM:=aX l.prog w base (Fi L9 T VI VH) Uw L9.kp Ux;have VN:=aX l.prog w base (Dm Ma (zAu X G gz) VG Pa Pb VM) Uz Ma.kp UA;have VO:=aX l.prog w base (K61P.ok_cell Mb TP) UC Mb.kp UD;have VP:=aX l.prog w base (K61P.ok_state Mc (zAu X G gx) VO) UG Mc.kp UH;have DV:=aX l.prog w base (K61P.ok_choice Md) UJ Md.kp UK;have VQ:=aX l.prog w base (Em Me (zAu X G mI)) UM Me.kp UN;have VR:=aX l.prog w base (K61Q.ok_lparted Mf TP (zAu X G dE) (zAu X G ay) (zAu X G gx)) UP Mf.kp UQ;have Pc:=aX l.prog w base (Fd Mj T (zAu X G av) (zAu X G ay) (zAu X G gy) (zAu X G gx)) US Mj.kp UT;have VS:=aX l.prog w base (vQ Ml (zAu X G av) (zAu X G ay)) UW Ml.kp UX;have VT:=aX l.prog w base (zK Mm (zAu X G dE) (zAu X G gz) (zAu X G ip) VR) UZ Mm.kp U0;have VU:=aX l.prog w base (zQ Mp T (zAu X G av) (zAu X G ay) (zAu X G gz) (zAu X G ff) (zAu X G gy) (zAu X G dE) Pc VS VT) U2 Mp.kp U3;have VW:=aX l.prog w base (K61Q.ok_clips Mq TP (zAu X G ay) DV) U5 Mq.kp U6;have VX:=aX l.prog w base (K61Q.ok_prom Mr (zAu X G gy) DV) U8 Mr.kp U9;have VY:=aX l.prog w base (K61Q.ok_sale Ms T (zAu X G gx) DV) Vb Ms.kp Vc;have VZ:=aX l.prog w base (K61Q.ok_book Mt TP (zAu X G ay) (zAu X G mE) DV VW VX VY Pc) Ve Mt.kp Vf;have V0:=aX l.prog w base (Do Mu T (zAu X G ip)) Vh Mu.kp Vi;have V1:=aX l.prog w base (zV Mv VU) Vk Mv.kp Vl;exact Hh FL T (zAu X G ay) (zAu X G gx) (zAu X G gy) (zAu X G mI) (zAu X G gz) DV VP VZ V1 V0 VQ VL VN
theorem walk {l:PySem.W.OpenLaw}{q:Program}{loose:List Str}{XP:(Str->Option Value)->Heap->Prop}{YP:World->Heap->Prop}{d:DefRec}{K:Params->Frag}(hn:l.most=some 63)(AM:d.params.defaults=[])
  (hY:∀ (w:World) (h:Heap),YP w h->(K w.params).In h)
  (F:∀ (w:World) (mg:Str->Option Value) (fa:Addr) (h:Heap),(K w.params).In h->h.Ns mainGlobals mg->mg d.name=some (.ref fa) ->
   ∃ fd:FuncData,(∀ (s:Shared) (u:Value),BindsTo s fd ⟨[u],[]⟩ [("_law_script",u)])/\∀ base:Heap,(K w.params).In base->base.Ns mainGlobals mg->FnOk l.prog w (K w.params) mg base CX0 63 fa fd ["_law_script"] (yq (K w.params))) :
  PySem.W.WalkO q loose XP YP l.row.toRowW d [] (fun f vs=>PySem.call f vs) :=
 L2.walk_of (n:=63) (k:=63) (x:="_law_script") (CX:=fun _=>CX0) (sp:=fun w=>yq (K w.params)) hn (by decide) AM ⟨rfl,by decide,by decide,rfl⟩ hY F (fun _ _ a ns hl _ hS=>⟨a,ns,rfl,hS,hl,fun _=>rfl⟩) fun _ _ _ _ _ z=>z
end K61
open PySem PySem.W PyProof.Rows
set_option maxRecDepth 100000 in
set_option maxHeartbeats 0 in
theorem PySem.Challenge.cw_woolyears_k61_sheep_die_holds : PySem.Challenge.rw_woolyears_k61_sheep_die.Holds := by
 w_on;o_law;k_head;(case hw=>w_witness2)
 k_fill
 refine K61.walk (l:=PySem.Challenge.rw_woolyears_k61_sheep_die) rfl rfl (fun w h Y=>PySem.W.kIn_of Y) ?F
 case F =>
  intro w mg fa h KX G hmg
  refine' K61.all_mk KX G hmg ?h11 ?h12 ?h13 ?h14 ?h25 ?h26 ?h27 ?h28 ?h29 ?h30 ?h31 ?h32 ?h33 ?h34 ?h35 ?h36 ?h40 ?h41 ?h42 ?h43 ?h44 ?h46 ?h47 ?h48 ?h49 ?h50 ?h51 ?h52 ?h53 ?h54 ?h56 ?h57 ?h59 ?h60 ?h61 ?h62 ?h63 ?h64 ?h66 ?h67 ?h68 ?h69 ?h70 ?h71 ?h72 ?h73 ?h74 ?h75 ?h76 ?h77 ?h78 ?h79 ?h80 ?aL ?lL ?cL ?kL ?n0 ?n1 ?n2 ?n3 ?n4 ?n5 ?n6 ?n7 ?n8 ?n9 ?n10 ?z0 ?z1 ?z2 ?z3 ?z4 ?z5 ?z6 ?z7 ?z8 ?z9 ?z10 ?z11 ?z12 ?z13 ?z14
  case h11|h12|h13|h14|h25|h26|h27|h28|h29|h30|h31|h32|h33|h34|h35|h36|h40|h41|h42|h43|h44|h46|h47|h48|h49|h50|h51|h52|h53|h54|h56|h57|h59|h60|h61|h62|h63|h64|h66|h67|h68|h69|h70|h71|h72|h73|h74|h75|h76|h77|h78|h79|h80=>
   refine' K61.has_mk ?a ?l ?c ?k
   case a|l|c|k=>k_is
  case aL|lL|cL|kL|n0|n1|n2|n3|n4|n5|n6|n7|n8|n9|n10|z0|z1|z2|z3|z4|z5|z6|z7|z8|z9|z10|z11|z12|z13|z14=>k_is
