import PyProof.Rows.All
import Wide.All
import OpenK.AllK
import Wide.FinOn
import Lean
import PyProof.EqAt
import PyProof.EqKinds
import PyProof.TupleCall
import PyProof.StrLawsRepr
import PyProof.ZipIter
import PySem.Challenge.RW_woolyears_k92_whole_more_wool
import PyProof.Rows.SortRunsK
import PyProof.AttrMissHeap
import PyProof.SeqRoads
import PyProof.ListOps
import PyProof.DictUpdate
import PyProof.DictWalks
import KE.KDictList
import PyProof.Rows.SortWalk
import KE.KRevSl
import KE.KRevIter
set_option compiler.extract_closed false
set_option Elab.async false
set_option linter.all false
set_option maxRecDepth 100000
set_option maxHeartbeats 4000000
noncomputable section
def zAt:=@decide_eq_true
def zAu:=@if_neg
def zAv:=@PySem.W.mg_none_of
def zAw:=@PySem.wpAny_bind
def zAx:=@if_pos
def zAy:=@PySem.Heap.lt_size
def zAz:=@PySem.Heap.get?_push_of_some
def zB0:=@PySem.wpAny_pure
def zB1:=@decide_eq_false
def zB2:=@Nat.lt_of_lt_of_le
def zB3:=@PySem.Heap.get?_push_size
def zB4:=@Nat.ne_of_lt
def zB5:=@List.getElem?_append_left
def zB6:=@of_decide_eq_true
def zB7:=@List.getElem?_append_right
def zB8:=@PySem.PassesOwn.never
def zB9:=@List.take_append_drop
def zBa:=@List.mem_of_getElem?
def zBb:=@List.mem_append_right
def zBc:=@List.filter_cons_of_neg
def zBd:=@List.filter_cons_of_pos
def zBe:=@PySem.F.type_list_append
def zBf:=@PySem.F.slot_list_append
def zBg:=@PySem.F.plainAttrs_list
def zA0:=@List.getElem?_eq_getElem
def zA1:=@List.length_map
def zA2:=@List.length_append
def zA3:=@Nat.le_refl
def zA4:=@List.map_append
def zA5:=@List.mem_map
def zA6:=@List.mem_append
def zA7:=@List.getD_eq_getElem?_getD
def zA8:=@List.size_toArray
def zA9:=@Array.length_toList
def zAa:=@List.getElem?_eq_some_iff
def zAb:=@List.getElem?_map
def zAc:=@Bool.and_eq_true
def zAd:=@List.length_take
def zAe:=@List.length_cons
def zAf:=@List.append_assoc
def zAg:=@Bool.false_ne_true
def zAh:=@List.getElem_mem
def zAi:=@Int.toNat_natCast
def zAj:=@List.take_add_one
def zAk:=@List.map_cons
def zAl:=@Option.some.inj
def zAm:=@List.take_length
def zAn:=@List.append_nil
def zAo:=@List.mem_cons
def zAp:=@Nat.zero_le
def zAq:=@List.mem_filter
def zAr:=@List.map_map
def zAs:=@List.length_zip
namespace L2
open PySem PySem.Spec PyProof.Rows
abbrev Key:=Sum Int Str
def nR:Key->Value->Bool
 | .inl k,v=>Value.isInt k v
 | .inr x,v=>Value.isStrOf x v
def GP (w:World):Key->Int
 | .inl k=>hashInt k
 | .inr x=>hashStr w x
theorem bZ:∀ {k:Key} {v:Value},nR k v=true->(∃ i t,k=Sum.inl i/\v=Value.int i t)\/(∃ x t,k=Sum.inr x/\v=Value.str x t)
 | .inl i,v,h=>by
  obtain ⟨t,e⟩:=Value.isInt_shape (k:=i) (v:=v) h;exact .inl ⟨i,t,rfl,e⟩
 | .inr x,v,h=>by
  obtain ⟨t,e⟩:=Value.isStrOf_shape (x:=x) (v:=v) h;exact .inr ⟨x,t,rfl,e⟩
theorem vK (i:Int)(t:Tok):nR (.inl i) (.int i t)=true:=by simp [nR,Value.isInt]
theorem vL (x:Str)(t:Tok):nR (.inr x) (.str x t)=true:=by simp [nR,Value.isStrOf]
theorem Dd (a b:Int):decide ((Sum.inl a:Key)=Sum.inl b)=(a == b):=by
 by_cases e:a=b
 ·subst e;simp
 ·have h:¬ (Sum.inl a:Key)=Sum.inl b:=fun q=>e (Sum.inl.inj q);rw [zB1 h];exact (beq_eq_false_iff_ne.mpr e).symm
theorem Df (a b:Str):decide ((Sum.inr a:Key)=Sum.inr b)=decide (a=b):=by
 by_cases e:a=b
 ·subst e;simp
 ·have h:¬ (Sum.inr a:Key)=Sum.inr b:=fun q=>e (Sum.inr.inj q);rw [zB1 h,zB1 e]
theorem Dg (a:Int)(b:Str):decide ((Sum.inl a:Key)=Sum.inr b)=false:=zB1 (fun q=>nomatch q)
theorem Dh (a:Str)(b:Int):decide ((Sum.inr a:Key)=Sum.inl b)=false:=zB1 (fun q=>nomatch q)
def cA (prog:Program)(w:World):PySem.KeyKind prog w Key where
 is:=nR
 hash:=GP w
 inj:=fun v a b ha hb=>by
  rcases bZ ha with ⟨i,t,rfl,rfl⟩ | ⟨x,t,rfl,rfl⟩
  ·rcases bZ hb with ⟨j,u,rfl,e⟩ | ⟨y,u,rfl,e⟩
   ·injection e with e1 _;rw [e1]
   ·exact nomatch e
  ·rcases bZ hb with ⟨j,u,rfl,e⟩ | ⟨y,u,rfl,e⟩
   ·exact nomatch e
   ·injection e with e1 _;rw [e1]
 byValue:=fun k v h=>by
  rcases bZ h with ⟨i,t,rfl,rfl⟩ | ⟨x,t,rfl,rfl⟩ <;> rfl
 pyHash:=fun hv h=>by
  rcases bZ hv with ⟨i,t,rfl,rfl⟩ | ⟨x,t,rfl,rfl⟩
  ·exact wpAny_pyHash_int h
  ·exact wpAny_pyHash_str h
 eqBool:=fun hu hv h=>by
  rcases bZ hu with ⟨i,t,rfl,rfl⟩ | ⟨x,t,rfl,rfl⟩
  ·rcases bZ hv with ⟨j,u,rfl,rfl⟩ | ⟨y,u,rfl,rfl⟩
   ·rw [Dd] at h;exact wpAny_eqBool_int h
   ·rw [Dg] at h;exact SeqAt.EqAt.int_str i t y u _ _ _ _ h
  ·rcases bZ hv with ⟨j,u,rfl,rfl⟩ | ⟨y,u,rfl,rfl⟩
   ·rw [Dh] at h;exact SeqAt.EqAt.str_int x t j u _ _ _ _ h
   ·rw [Df] at h;exact wpAny_eqBool_str h
 «strs»:=fun k x t v h=>by
  rcases bZ h with ⟨i,u,rfl,e⟩ | ⟨y,u,rfl,e⟩
  ·exact nomatch e
  ·injection e with e1 _;subst e1;cases v <;> rfl
theorem qL (prog:Program)(w:World)(i:Int)(t:Tok):(cA prog w).is (.inl i) (.int i t)=true:=vK i t
theorem qM (prog:Program)(w:World)(x:Str)(t:Tok):(cA prog w).is (.inr x) (.str x t)=true:=vL x t
inductive V where
 | non | bl (b:Bool) | int (i:Int) | str (x:Str) | byt (b:Array UInt8) | flt (b:UInt64) | ref (a:Addr) | ty (n:String)
 deriving DecidableEq
def RelV:V->Value->Prop
 | .non,u=>u=Value.none
 | .bl b,u=>u=Value.bool b
 | .int i,u=>∃ t,u=Value.int i t
 | .str x,u=>∃ t,u=Value.str x t
 | .byt b,u=>∃ t,u=Value.bytes b t
 | .flt b,u=>∃ t,u=Value.float b t
 | .ref a,u=>u=Value.ref a
 | .ty n,u=>u=Value.type n
abbrev Vals:List V->List Value->Prop:=Paired RelV
theorem Vals.length {xs:List V}{us:List Value}(r:Vals xs us):xs.length=us.length:=Paired.length r
theorem Vals.get:∀ {xs:List V} {us:List Value} {i:Nat} {x:V},Vals xs us->xs[i]?=some x->∃ u,us[i]?=some u/\RelV x u
 | _,_,_,_,.nil,e=>by simp at e
 | _,_,0,_,.cons r _,e=>by simp at e;subst e;exact ⟨_,rfl,r⟩
 | _,_,i+1,x,.cons _ t,e=>by
  obtain ⟨u,h1,h2⟩:=Vals.get (i:=i) (x:=x) t (by simpa using e);exact ⟨u,by simpa using h1,h2⟩
theorem Vals.set {x:V}{u:Value}(r:RelV x u):∀ {xs:List V} {us:List Value} (i:Nat),Vals xs us->Vals (xs.set i x) (us.set i u)
 | _,_,_,.nil=>.nil
 | _,_,0,.cons _ t=>.cons r t
 | _,_,i+1,.cons q t=>.cons q (Vals.set r i t)
theorem Vals.append:∀ {xs ys:List V} {us ws:List Value},Vals xs us->Vals ys ws->Vals (xs++ys) (us++ws)
 | _,_,_,_,.nil,s=>s
 | _,_,_,_,.cons r t,s=>.cons r (Vals.append t s)
theorem Vals.take:∀ {xs:List V} {us:List Value} (n:Nat),Vals xs us->Vals (xs.take n) (us.take n)
 | _,_,0,_=>.nil
 | _,_,_+1,.nil=>.nil
 | _,_,n+1,.cons r t=>.cons r (Vals.take n t)
theorem Vals.drop:∀ {xs:List V} {us:List Value} (n:Nat),Vals xs us->Vals (xs.drop n) (us.drop n)
 | _,_,0,r=>r
 | _,_,_+1,.nil=>.nil
 | _,_,n+1,.cons _ t=>Vals.drop n t
def RelO:Option V->Option Value->Prop
 | some v,some u=>RelV v u
 | none,none=>True
 | _,_=>False
def KV {κ:Type}:List (κ×V)->List (κ×Value)->Prop:=Paired fun (p:κ×V) (q:κ×Value)=>p.1=q.1/\RelV p.2 q.2
def kV:Key->V
 | .inl i=>.int i
 | .inr x=>.str x
inductive HO where
  | lst (xs:List V)
  | tup (xs:List V)
  | dK (kvs:List (Key×V)) | dT (kvs:List (List Key×V))
  | set (S:Int->Bool) (n:Nat)
  | ins (C dx:Addr) (fs:List (Str×V))
  | own (x:Addr)
  | xd (fs:List (Str×V))
  | met (f x:Addr)
  | rng (lo hi:Int)
  | frz (o:Obj) (u:HO)
  | tbl (ps:Array Value)
  | ext (φ:Heap->Prop)
abbrev Hp:=Addr->Option HO
def upd (H:Hp)(a:Addr)(o:HO):Hp:=fun b=>if b=a then some o else H b
theorem aj {H:Hp}{a:Addr}{o:HO}:upd H a o a=some o:=by unfold upd;rw [zAx rfl]
theorem aA {H:Hp}{a b:Addr}{o:HO}(h:b≠a):upd H a o b=H b:=by unfold upd;rw [zAu h]
theorem Ez {H:Hp}{a b:Addr}{o u:HO}(h:H a=some o)(h':H b=some u)(d:o≠u):a≠b:=by
 intro e;subst e;rw [h] at h';exact d (zAl h')
theorem aC {H:Hp}{a b:Addr}{o:HO}(h:H a=some o)(h':H b=none):a≠b:=by
 intro e;subst e;rw [h] at h';cases h'
section
variable (P:Program)(w:World)
def ObjOk (H:Hp)(h:Heap)(a:Addr):HO->Prop
 | .lst xs=>xs.length<=sizeLine/\∃ (its:List Value) (n:Nat),Vals xs its/\h.get? a=some { cls:=.type "list",data:=.seq its.toArray n }
 | .tup xs=>xs.length<=sizeLine/\∃ its:List Value,Vals xs its/\IsTup h a its.toArray
 | .dK kvs=>kvs.length<=sizeLine/\(a == sysModules)=false/\∃ vs,KV kvs vs/\h.DictOf (cA P w) a vs
 | .dT kvs=>kvs.length<=sizeLine/\(a == sysModules)=false/\∃ xs:List (List Key×Addr×Value),
   Paired (fun (p:List Key×V) (q:List Key×Addr×Value)=>p.1=q.1/\H q.2.1=some (.tup (p.1.map kV))/\RelV p.2 q.2.2) kvs xs /\
   ∃ o es ep,h.get? a=some o/\o.ExactDict/\o.data=.dict es ep/\es.toList=xs.map (entryOfKey (tupleKind (cA P w)))/\(xs.map (·.1)).Nodup
 | .set S n=>h.SetOf (intKind P w) a S n
 | .ins C dx fs=>H dx=some (.own a)/\fs.length<=1000/\dx≠a/\h.get? a=some (PySem.W.instObj C dx) /\
   ∃ mA,h.Ns1 dx mA/\(∀ f,RelO (fs.lookup f) (mA f))/\PySem.Within mA (fs.map (·.1))
 | .own _=>∃ o,h.get? a=some o
 | .xd fs=>∃ mA,h.Ns1 a mA/\∀ f,RelO (fs.lookup f) (mA f)
 | .rng lo hi=>∃ t u v,h.get? a=some { cls:=.type "range",data:=.fields #[.int lo t,.int hi u,.int 1 v] }
 | .frz o u=>h.get? a=some o/\ObjOk H h a u
 | .tbl ps=>h.get? a=some { cls:=.none,data:=.fields ps }
 | .met f x=>h.get? a=some (PySem.W.methodObj (.ref f) (.ref x))
 | .ext φ=>φ h/\(∃ o,h.get? a=some o)/\∀ h1 h2:Heap,φ h1->(∀ o,h1.get? a=some o->h2.get? a=some o)->φ h2
def HOk (H:Hp)(h:Heap):Prop:=∀ a o,H a=some o->ObjOk P w H h a o
end
section
variable {P:Program}{w:World}{H H':Hp}{h h':Heap}{a:Addr}{o:HO}
theorem ObjOk.lt (x:ObjOk P w H h a o):a < h.objs.size:=by
 cases o with
 | lst xs=>obtain ⟨_,_,_,_,e⟩:=x;exact zAy e
 | tup xs=>obtain ⟨_,_,_,p⟩:=x;exact p.lt
 | dK kvs=>obtain ⟨_,_,_,_,o,_,_,e,_⟩:=x;exact zAy e
 | dT kvs=>obtain ⟨_,_,_,_,o,_,_,e,_⟩:=x;exact zAy e
 | set S n=>obtain ⟨o,_,_,_,e,_⟩:=x;exact zAy e
 | ins C dx fs=>obtain ⟨_,_,_,e,_⟩:=x;exact zAy e
 | own y=>obtain ⟨_,e⟩:=x;exact zAy e
 | xd fs=>obtain ⟨_,⟨_,_,_,e,_⟩,_⟩:=x;exact zAy e
 | rng lo hi=>obtain ⟨_,_,_,e⟩:=x;exact zAy e
 | frz ob u=>obtain ⟨e,_⟩:=x;exact zAy e
 | tbl ps=>exact zAy (show h.get? a=some _ from x)
 | met f y=>exact zAy (show h.get? a=some _ from x)
 | ext φ=>obtain ⟨_,⟨_,e⟩,_⟩:=x;exact zAy e
theorem Paired.mapP {α β:Type}{F G:α->β->Prop}:∀ {uk:List α} {uu:List β},Paired F uk uu->(∀ a b,F a b->G a b)->Paired G uk uu
 | _,_,.nil,_=>.nil
 | _,_,.cons r t,f=>.cons (f _ _ r) (Paired.mapP t f)
theorem ObjOk.stay (x:ObjOk P w H h a o)(k:∀ b u,(b=a\/H b=some (.own a))->h.get? b=some u->h'.get? b=some u)
  (ho:∀ b,H b=some (.own a)->H' b=some (.own a)) (ht:∀ b xs,H b=some (.tup xs)->H' b=some (.tup xs)):ObjOk P w H' h' a o:=by
 induction o with
 | lst xs=>obtain ⟨z,its,n,r,e⟩:=x;exact ⟨z,its,n,r,k _ _ (.inl rfl) e⟩
 | tup xs=>obtain ⟨z,its,r,ob,e,c⟩:=x;exact ⟨z,its,r,ob,k _ _ (.inl rfl) e,c⟩
 | dK kvs=>obtain ⟨z,y,vs,r,ob,es,ep,e,c⟩:=x;exact ⟨z,y,vs,r,ob,es,ep,k _ _ (.inl rfl) e,c⟩
 | dT kvs =>
  obtain ⟨z,y,xs,r,ob,es,ep,e,c⟩:=x;exact ⟨z,y,xs,Paired.mapP r fun p q z=>⟨z.1,ht _ _ z.2.1,z.2.2⟩,ob,es,ep,k _ _ (.inl rfl) e,c⟩
 | set S n=>obtain ⟨ob,es,ep,t,e,c⟩:=x;exact ⟨ob,es,ep,t,k _ _ (.inl rfl) e,c⟩
 | ins C dx fs =>
  obtain ⟨d,z,ne,e,mA,⟨od,es,ep,e2,c⟩,r⟩:=x;exact ⟨ho _ d,z,ne,k _ _ (.inl rfl) e,mA,⟨od,es,ep,k _ _ (.inr d) e2,c⟩,r⟩
 | own y=>obtain ⟨ob,e⟩:=x;exact ⟨ob,k _ _ (.inl rfl) e⟩
 | xd fs=>obtain ⟨mA,⟨od,es,ep,e,c⟩,r⟩:=x;exact ⟨mA,⟨od,es,ep,k _ _ (.inl rfl) e,c⟩,r⟩
 | rng lo hi=>obtain ⟨t,u,v,e⟩:=x;exact ⟨t,u,v,k _ _ (.inl rfl) e⟩
 | frz ob u ih=>obtain ⟨e,q⟩:=x;exact ⟨k _ _ (.inl rfl) e,ih q⟩
 | tbl ps =>
  have e:h.get? a=some { cls:=.none,data:=.fields ps }:=x;show h'.get? a=some { cls:=.none,data:=.fields ps };exact k a _ (.inl rfl) e
 | met f y =>
  have e:h.get? a=some (PySem.W.methodObj (.ref f) (.ref y)):=x;show h'.get? a=some (PySem.W.methodObj (.ref f) (.ref y));exact k a _ (.inl rfl) e
 | ext φ=>obtain ⟨p,⟨o,e⟩,st⟩:=x;exact ⟨st _ _ p fun o q=>k _ _ (.inl rfl) q,⟨o,k _ _ (.inl rfl) e⟩,st⟩
theorem HOk.lt (x:HOk P w H h)(e:H a=some o):a < h.objs.size:=(x a o e).lt
theorem HOk.fresh (x:HOk P w H h)(e:h.objs.size<=a):H a=none:=by
 cases q:H a with
 | none=>rfl
 | some u=>exact absurd (zB2 (x.lt q) e) (Nat.lt_irrefl _)
theorem HOk.kept (x:HOk P w H h)(k:∀ b u,h.get? b=some u->h'.get? b=some u):HOk P w H h':=fun a o e =>
 (x a o e).stay (fun b u _ q=>k b u q) (fun _ q=>q) fun _ _ q=>q
theorem HOk.laid (x:HOk P w H h)(k:∀ b u,h.get? b=some u->h'.get? b=some u)(hp:h.objs.size<=a)(new:ObjOk P w (upd H a o) h' a o):HOk P w (upd H a o) h':=fun b u e=>by
 have hn:=x.fresh hp;by_cases hb:b=a
 ·subst hb;rw [aj] at e;cases e;exact new
 ·rw [aA hb] at e
  exact (x b u e).stay (fun c v _ q=>k c v q) (fun c q=>by rw [aA (aC q hn)];exact q) fun c xs q=>by rw [aA (aC q hn)];exact q
end
def Rd (H:Hp)(a:Addr)(u:HO):Prop:=H a=some u\/∃ o,H a=some (.frz o u)
theorem Rd.ok {P:Program}{w:World}{H:Hp}{h:Heap}{a:Addr}{u:HO}(r:Rd H a u)(x:HOk P w H h):ObjOk P w H h a u:=by
 rcases r with r | ⟨o,r⟩
 ·exact x a u r
 ·obtain ⟨_,q⟩:=x a _ r;exact q
def Mut:Option HO->Prop
 | some (.lst _)=>True
 | some (.dK _)=>True
 | some (.dT _)=>True
 | some (.set _ _)=>True
 | some (.ins _ _ _)=>True
 | some (.ext _)=>True
 | _=>False
section
variable {P:Program}{w:World}{H:Hp}{h h':Heap}{x e:Addr}{o':HO}
theorem HOk.write (ok:HOk P w H h)(mu:Mut (H x))(he:e=x\/H e=some (.own x))(k:∀ b u,b≠e->h.get? b=some u->h'.get? b=some u)(sF:∃ u,h'.get? e=some u)
  (new:ObjOk P w (upd H x o') h' x o'):HOk P w (upd H x o') h':=fun b u q=>by
 have uS:∀ c y,H c=some (.own y)->c≠x:=fun c y r z=>by subst z;rw [r] at mu;exact mu
 have B3:∀ c xs,H c=some (.tup xs)->c≠x:=fun c xs r z=>by subst z;rw [r] at mu;exact mu
 by_cases hb:b=x
 ·subst hb;rw [aj] at q;cases q;exact new
 ·rw [aA hb] at q;by_cases oC:b=e
  ·have q':H b=some (.own x):=by
    rcases he with z | z
    ·exact absurd (oC.trans z) hb
    ·rw [oC];exact z
   rw [q] at q';cases q';obtain ⟨v,hv⟩:=sF;exact ⟨v,by rw [oC];exact hv⟩
  ·refine (ok b u q).stay (fun c v hc r=>k c v ?_ r) (fun c r=>by rw [aA (uS c b r)];exact r) fun c xs r=>by rw [aA (B3 c xs r)];exact r
   rcases hc with rfl | hc
   ·exact oC
   ·rintro rfl;rcases he with z | z
    ·exact uS c b hc z
    ·rw [hc] at z;cases z;exact hb rfl
end
structure Un (fs ex:List Addr)(H H':Hp)(h h':Heap):Prop where
 keep:∀ b o,h.get? b=some o->H b=none->b ∉ fs->b ∉ ex->h'.get? b=some o
 slot:∀ b o,h.get? b=some o->H b=none->b∈fs->b ∉ ex->∃ sl,h'.get? b=some { o with slots:=sl }
 free:∀ b o,h.get? b=some o->H b=none->b ∉ ex->H' b=none
 there:∀ b o,h.get? b=some o->b ∉ ex->∃ o',h'.get? b=some o'
 tups:∀ b xs,H b=some (.tup xs)->H' b=some (.tup xs)
 frzs:∀ b o u,H b=some (.frz o u)->H' b=some (.frz o u)
 tbls:∀ b ps,H b=some (.tbl ps)->∃ more,H' b=some (.tbl (ps++more))
section
variable {fs KH ex QE:List Addr}{H H1 H2:Hp}{h h1 h2 h':Heap}{a x e:Addr}{o:HO}
theorem Un.any (u:Un fs ex H H1 h h1){b:Addr}{ob:Obj}(q:h.get? b=some ob)(n:H b=none)(hx:b ∉ ex):∃ sl,h1.get? b=some { ob with slots:=sl }:=by
 by_cases hb:b∈fs
 ·exact u.slot b ob q n hb hx
 ·exact ⟨ob.slots,u.keep b ob q n hb hx⟩
theorem Un.kept (k:∀ b u,h.get? b=some u->h'.get? b=some u):Un fs ex H H h h' :=
 ⟨fun b ob q _ _ _=>k b ob q,fun b ob q _ _ _=>⟨ob.slots,k b ob q⟩,fun _ _ _ n _=>n,fun b ob q _=>⟨ob,k b ob q⟩,fun _ _ q=>q,fun _ _ _ q=>q,fun _ ps q=>⟨#[],by rw [q];simp⟩⟩
theorem Un.refl:Un fs ex H H h h:=Un.kept fun _ _ q=>q
theorem Un.laid (k:∀ b u,h.get? b=some u->h'.get? b=some u)(hp:h.objs.size<=a)(hn:H a=none):Un fs ex H (upd H a o) h h' where
 keep:=fun b u q _ _ _=>k b u q
 slot:=fun b u q _ _ _=>⟨u.slots,k b u q⟩
 free:=fun b u q n _=>by rw [aA (zB4 (zB2 (zAy q) hp))];exact n
 there:=fun b u q _=>⟨u,k b u q⟩
 tups:=fun b xs q=>by rw [aA (aC q hn)];exact q
 frzs:=fun b u xs q=>by rw [aA (aC q hn)];exact q
 tbls:=fun b ps q=>⟨#[],by rw [aA (aC q hn),q];simp⟩
theorem Un.write (mu:Mut (H x))(he:e=x\/H e=some (.own x))(k:∀ b u,b≠e->h.get? b=some u->h'.get? b=some u)(sF:∃ u,h'.get? e=some u):Un fs ex H (upd H x o) h h':=by
 have hx:∀ b,H b=none->b≠x:=fun b n z=>by subst z;rw [n] at mu;exact mu
 have hb:∀ b,H b=none->b≠e:=fun b n z=>by
  subst z;rcases he with r | r
  ·exact hx b n r
  ·rw [n] at r;cases r
 have hm:∀ b u,H b=some u->¬ Mut (some u)->b≠x:=fun b u q nm z=>by subst z;rw [q] at mu;exact nm mu
 refine ⟨fun b u q n _ _=>k b u (hb b n) q,fun b u q n _ _=>⟨u.slots,k b u (hb b n) q⟩,fun b u q n _=>by rw [aA (hx b n)];exact n,fun b u q _=>?_,
  fun b xs q=>by rw [aA (hm b _ q fun z=>z)];exact q,fun b u xs q=>by rw [aA (hm b _ q fun z=>z)];exact q,fun b ps q=>⟨#[],by rw [aA (hm b _ q fun z=>z),q];simp⟩⟩
 by_cases oC:b=e
 ·subst oC;exact sF
 ·exact ⟨u,k b u oC q⟩
end
def trk (h:Heap)(H:Hp):List Addr:=(List.range h.objs.size).filter fun a=>(H a).isSome
def pI (h:Heap)(H:Hp):Heap:=PySem.W.hideAll h (trk h H)
theorem vM (h:Heap)(H:Hp):(pI h H).objs.size=h.objs.size:=PySem.W.hideAll_size _ _
theorem xH {h:Heap}{H:Hp}{b:Addr}{o:Obj}(e:h.get? b=some o)(n:H b=none):(pI h H).get? b=some o :=
 PySem.W.hideAll_get _ e fun hm=>by
  have q:(H b).isSome=true:=(zAq.mp hm).2;rw [n] at q;simp at q
theorem Ae {h:Heap}{H:Hp}{b:Addr}{o:Obj}(e:(pI h H).get? b=some o):h.get? b=some o/\H b=none:=by
 have e':h.get? b=some o:=PySem.W.of_hideAll (trk h H) e;refine ⟨e',?_⟩
 cases q:H b with
 | none=>rfl
 | some x =>
  have hm:b∈trk h H:=List.mem_filter.mpr ⟨List.mem_range.mpr (Heap.lt_size e'),by simp [q]⟩;have z:(pI h H).get? b=none:=PySem.W.hideAll_none (trk h H) hm;rw [z] at e;cases e
structure Mod (K:PySem.W.Frag)(mg:Str->Option Value)(base:Heap):Prop where
 kin:K.In base
 glob:base.Ns mainGlobals mg
 blt:∃ mb,base.Ns builtinsNs mb/\∀ x:Str,x≠"__name__" -> mb x=bootBuiltins x
 nolimit:base.NoLimit
structure Cx where
 prog:Program
 w:World
 K:PySem.W.Frag
 mg:Str->Option Value
 base:Heap
 A:Around
 N:List Str
 s₀:Shared
 H₀:Hp
 env:Env
 outer:List Env
 stack:List Env
 ex:List Addr
 fn:Str->Bool
 calm:Bool
 pn:List (Addr×Obj)
 xe:Value->Shared->Prop
def frs (l:List Env):List Addr:=l.filterMap (·.frame)
abbrev Cx.fs (X:Cx):List Addr:=frs X.outer
def Vis (sc:Scope)(x:Str):Prop:=sc.names.lookup x=some .local\/sc.names.lookup x=some .cell\/sc.names.lookup x=some .free
def Loc (sc:Scope)(x:Str):Prop:=sc.names.lookup x=some .local\/sc.names.lookup x=some .cell
def Look (env:Env)(h:Heap)(m:Str->Option Value)(x:Str)(u:Value):Prop :=
 (env.kindOf x=some .local/\m x=some u)\/((env.kindOf x=some .cell\/env.kindOf x=some .free)/\∃ c,env.cells.lookup x=some c/\h.IsCell c (some u))
structure Cx.Ok (X:Cx):Prop where
 mod:Mod X.K X.mg X.base
 kind:X.env.scope.kind=.function
 glob:X.env.globals=mainGlobals
 blt:X.env.builtins=builtinsNs
 above:X.s₀.heap.objs.size<=X.env.locals
 inj:∀ x y c,X.env.cells.lookup x=some c->X.env.cells.lookup y=some c->x=y
 has:∀ x,(X.env.kindOf x=some .cell\/X.env.kindOf x=some .free)->∃ c,X.env.cells.lookup x=some c
 cab:∀ x c,X.fn x=true->X.env.cells.lookup x=some c->X.s₀.heap.objs.size<=c
 hd:X.calm=true->X.A.handled=none
 frames:X.A.frames=some X.stack
 stk:X.stack=X.outer\/(X.stack=X.env::X.outer/\X.env.frame=some X.env.locals)
 exf:∀ b∈X.ex,b≠X.env.locals/\∀ x c,X.env.cells.lookup x=some c->c≠b
 bs:∀ b o,X.base.get? b=some o->X.s₀.heap.get? b=some o/\X.H₀ b=none
 bsz:X.base.objs.size<=X.s₀.heap.objs.size
 noex:∀ b o,X.base.get? b=some o->b ∉ X.ex
 exfs:∀ b∈X.ex,b ∉ X.fs
 funs:X.s₀.heap.FunFrames X.base X.outer
 frf:∀ b∈X.fs,X.H₀ b=none
structure Inv (X:Cx)(pins:List (Addr×Obj))(σ:List (Option V))(H:Hp)(s:Shared):Prop where
 ok:X.Ok
 os:s.os=X.s₀.os
 bare:AllBare s.gens
 base:Un X.fs X.ex X.H₀ H X.s₀.heap s.heap
 loc:∃ m,s.heap.Ns X.env.locals m/\∀ (i:Nat) (x:Str) (v:V),X.N[i]?=some x->σ[i]?=some (some v)->Vis X.env.scope x->∃ u,RelV v u/\Look X.env s.heap m x u
 cell:∀ x c,X.env.cells.lookup x=some c->∃ v,s.heap.IsCell c v
 free:H X.env.locals=none
 freeC:∀ x c,X.env.cells.lookup x=some c->H c=none
 pin:∀ p∈X.pn++pins,s.heap.get? p.1=some p.2/\H p.1=none/\p.1≠X.env.locals/\p.1 ∉ X.fs/\∀ v,p.2.data≠.cell v
 hok:HOk X.prog X.w H s.heap
 len:σ.length=X.N.length
section
variable {X:Cx}{pins:List (Addr×Obj)}{σ:List (Option V)}{H H':Hp}{s:Shared}{h':Heap}
theorem Cx.Ok.nofr (ok:X.Ok){b:Addr}{o:Obj}(e:X.base.get? b=some o):b ∉ X.fs:=fun hb=>by
 have:=(ok.funs.mem hb).1;rw [e] at this;cases this
theorem Inv.bs (I:Inv X pins σ H s):∀ b o,X.base.get? b=some o->s.heap.get? b=some o/\H b=none:=fun b o e =>
 ⟨I.base.keep b o (I.ok.bs b o e).1 (I.ok.bs b o e).2 (I.ok.nofr e) (I.ok.noex b o e),I.base.free b o (I.ok.bs b o e).1 (I.ok.bs b o e).2 (I.ok.noex b o e)⟩
theorem Inv.bk (I:Inv X pins σ H s):∀ b o,X.base.get? b=some o->s.heap.get? b=some o:=fun b o e=>(I.bs b o e).1
theorem Inv.mod (I:Inv X pins σ H s):Mod X.K X.mg X.base:=I.ok.mod
theorem Inv.kIn (I:Inv X pins σ H s):X.K.In s.heap:=I.ok.mod.kin.keeps I.bk
theorem Inv.lt (I:Inv X pins σ H s):X.env.locals < s.heap.objs.size:=let ⟨_,hn,_⟩:=I.loc;hn.lt
theorem Inv.sz (I:Inv X pins σ H s):X.s₀.heap.objs.size<=s.heap.objs.size:=Nat.le_trans I.ok.above (Nat.le_of_lt I.lt)
theorem Inv.nofs (I:Inv X pins σ H s){a:Addr}(h:s.heap.objs.size<=a):a ∉ X.fs:=fun hb=>by
 obtain ⟨_,o,ho,_⟩:=I.ok.funs.mem hb;exact absurd (zB2 (zAy ho) (Nat.le_trans I.sz h)) (Nat.lt_irrefl _)
theorem Inv.cne (I:Inv X pins σ H s):∀ x c,X.env.cells.lookup x=some c->c≠X.env.locals:=fun x c e z=>by
 obtain ⟨v,o,ho,hd⟩:=I.cell x c e;obtain ⟨m,⟨o',es,ep,iN,AU,_⟩,_⟩:=I.loc;rw [z,iN] at ho;cases ho;rw [AU] at hd;cases hd
theorem Inv.funs (I:Inv X pins σ H s):s.heap.FunFrames X.base X.outer:=by
 have all:∀ (l:List Env),(∀ b∈frs l,b∈X.fs)->X.s₀.heap.FunFrames X.base l->s.heap.FunFrames X.base l:=by
  intro l
  induction l with
  | nil=>intro _ _;trivial
  | cons env r ih =>
   intro hs hl;obtain ⟨hk,⟨L,o,hf,hn,ho,hd⟩,hr⟩:=hl;have hL:L∈X.fs:=hs L (by unfold frs;rw [List.filterMap_cons,hf];exact List.mem_cons_self);obtain ⟨sl,e⟩:=I.base.slot L o ho (I.ok.frf L hL) hL fun z=>I.ok.exfs L z hL;exact ⟨hk,⟨L,_,hf,hn,e,hd⟩,ih (fun b hb=>hs b (by unfold frs;rw [List.filterMap_cons,hf];exact List.mem_cons_of_mem _ hb)) hr⟩
 exact all X.outer (fun _ hb=>hb) I.ok.funs
theorem Inv.stack (I:Inv X pins σ H s):s.heap.FunFrames X.base X.stack:=by
 rcases I.ok.stk with e | ⟨e,hf⟩
 ·rw [e];exact I.funs
 ·rw [e];obtain ⟨m,hn,_⟩:=I.loc;refine .cons (by rw [I.ok.kind];decide) hf hn ?_ I.funs;exact Heap.get?_none_of_le (Nat.le_trans I.ok.bsz I.ok.above)
theorem Inv.stkSub (I:Inv X pins σ H s):∀ b∈frs X.stack,b∈X.env.locals::X.fs:=fun b hb=>by
 rcases I.ok.stk with e | ⟨e,hf⟩
 ·rw [e] at hb;exact List.mem_cons_of_mem _ hb
 ·rw [e] at hb;unfold frs at hb;rw [List.filterMap_cons,hf] at hb;exact hb
theorem Inv.stkFree (I:Inv X pins σ H s):∀ b∈frs X.stack,H b=none:=fun b hb=>by
 rcases zAo.mp (I.stkSub b hb) with e | hb
 ·rw [e];exact I.free
 ·obtain ⟨_,o,ho,_⟩:=I.ok.funs.mem hb;exact I.base.free b o ho (I.ok.frf b hb) fun z=>I.ok.exfs b z hb
theorem Inv.step {g':Array GenState}{t':Nat}{d':Drawn}{ch:List Addr}(I:Inv X pins σ H s)
  (kN:∀ b∈ch,(b∈X.ex\/X.s₀.heap.objs.size<=b)/\b≠X.env.locals/\(∀ x c,X.env.cells.lookup x=some c->c≠b)/\∀ p∈X.pn++pins,p.1≠b)
  (keep:∀ b o,b≠X.env.locals->b ∉ X.fs->b ∉ ch->s.heap.get? b=some o->H b=none->h'.get? b=some o)
  (slot:∀ b o,b≠X.env.locals->b∈X.fs->b ∉ ch->s.heap.get? b=some o->H b=none->∃ sl,h'.get? b=some { o with slots:=sl }) (free:∀ b o,b ∉ ch->s.heap.get? b=some o->H b=none->H' b=none)
  (there:∀ b o,b ∉ ch->s.heap.get? b=some o->∃ o',h'.get? b=some o')
  (tups:∀ b xs,H b=some (.tup xs)->H' b=some (.tup xs)) (frzs:∀ b o u,H b=some (.frz o u)->H' b=some (.frz o u)) (tbls:∀ b ps,H b=some (.tbl ps)->∃ more,H' b=some (.tbl (ps++more)))
  (ns:∀ m,s.heap.Ns X.env.locals m->h'.Ns X.env.locals m) (hok:HOk X.prog X.w H' h') (hg:AllBare g') :
  Inv X pins σ H' { s with heap:=h',gens:=g',drawn:=d',toks:=t' }:=by
 have Iw:∀ b o,X.s₀.heap.get? b=some o->b≠X.env.locals:=fun b o e=>zB4 (zB2 (zAy e) I.ok.above)
 have AV:∀ b o,X.s₀.heap.get? b=some o->b ∉ X.ex->b ∉ ch:=fun b o e hx hb=>by
  rcases (kN b hb).1 with z | z
  ·exact hx z
  ·exact absurd (zB2 (zAy e) z) (Nat.lt_irrefl _)
 have cellK:∀ x c,X.env.cells.lookup x=some c->∀ v,s.heap.IsCell c v->h'.IsCell c v:=fun x c e v ⟨o,ho,hd⟩=>by
  have u4:c ∉ ch:=fun z=>(kN c z).2.2.1 x c e rfl;by_cases hc:c∈X.fs
  ·obtain ⟨sl,q⟩:=slot c o (I.cne x c e) hc u4 ho (I.freeC x c e);exact ⟨_,q,hd⟩
  ·exact ⟨o,keep c o (I.cne x c e) hc u4 ho (I.freeC x c e),hd⟩
 refine ⟨I.ok,I.os,hg,⟨fun b o e n hb hx=>?_,fun b o e n hb hx=>?_,fun b o e n hx=>?_,fun b o e hx=>?_,fun b xs e=>tups b xs (I.base.tups b xs e),fun b o xs e=>frzs b o xs (I.base.frzs b o xs e),fun b ps e=>?_⟩,?_,fun x c e=>?_,?_,fun x c e=>?_,fun p hp=>?_,hok,I.len⟩
 ·exact keep b o (Iw b o e) hb (AV b o e hx) (I.base.keep b o e n hb hx) (I.base.free b o e n hx)
 ·obtain ⟨sl,e1⟩:=I.base.slot b o e n hb hx;obtain ⟨KI,e2⟩:=slot b _ (Iw b o e) hb (AV b o e hx) e1 (I.base.free b o e n hx);exact ⟨KI,e2⟩
 ·obtain ⟨o',e1⟩:=I.base.there b o e hx;exact free b o' (AV b o e hx) e1 (I.base.free b o e n hx)
 ·obtain ⟨o',e1⟩:=I.base.there b o e hx;exact there b o' (AV b o e hx) e1
 ·obtain ⟨m1,e1⟩:=I.base.tbls b ps e;obtain ⟨m2,e2⟩:=tbls b _ e1;exact ⟨m1++m2,by rw [e2,Array.append_assoc]⟩
 ·obtain ⟨m,hn,hl⟩:=I.loc;refine ⟨m,ns m hn,fun i x v e1 e2 e3=>?_⟩;obtain ⟨u,r,l⟩:=hl i x v e1 e2 e3;refine ⟨u,r,?_⟩;rcases l with l | ⟨k,c,e,z⟩
  ·exact .inl l
  ·exact .inr ⟨k,c,e,cellK x c e _ z⟩
 ·obtain ⟨v,z⟩:=I.cell x c e;exact ⟨v,cellK x c e v z⟩
 ·obtain ⟨m,⟨o,_,_,ho,_⟩,_⟩:=I.loc;exact free _ o (fun z=>(kN _ z).2.1 rfl) ho I.free
 ·obtain ⟨v,o,ho,hd⟩:=I.cell x c e;exact free c o (fun z=>(kN c z).2.2.1 x c e rfl) ho (I.freeC x c e)
 ·obtain ⟨e,n,ne,nf,d⟩:=I.pin p hp;have u4:p.1 ∉ ch:=fun z=>(kN p.1 z).2.2.2 p hp rfl;exact ⟨keep p.1 p.2 ne nf u4 e n,free p.1 p.2 u4 e n,ne,nf,d⟩
theorem Inv.un {t':Nat}(I:Inv X pins σ H s)(u:Un X.fs [] H H' s.heap h')(hok:HOk X.prog X.w H' h'):Inv X pins σ H' { s with heap:=h',toks:=t' }:=by
 obtain ⟨m,⟨o,es,ep,ho,r⟩,_⟩:=id I.loc;obtain ⟨sl,hL⟩:=u.any ho I.free (by simp)
 exact I.step (g':=s.gens) (d':=s.drawn) (ch:=[]) (fun _ z=>nomatch z) (fun b o _ hb _ e n=>u.keep b o e n hb (by simp)) (fun b o _ hb _ e n=>u.slot b o e n hb (by simp)) (fun b o _ e n=>u.free b o e n (by simp)) (fun b o _ e=>u.there b o e (by simp)) u.tups u.frzs u.tbls (fun m' hm=>by
  obtain ⟨o',fv,u7,iN,r'⟩:=hm;rw [ho] at iN;cases iN
  exact ⟨_,fv,u7,hL,r'⟩) hok I.bare
theorem Inv.call {g':Array GenState}{t':Nat}{d':Drawn}{ch:List Addr}(I:Inv X pins σ H s)(u:Un (frs X.stack) ch H H' s.heap h')(hok:HOk X.prog X.w H' h')(hg:AllBare g')
  (kN:∀ b∈ch,(b∈X.ex\/X.s₀.heap.objs.size<=b)/\b≠X.env.locals/\(∀ x c,X.env.cells.lookup x=some c->c≠b)/\∀ p∈X.pn++pins,p.1≠b) :
  Inv X pins σ H' { s with heap:=h',gens:=g',drawn:=d',toks:=t' }:=by
 obtain ⟨m,⟨o,es,ep,ho,r⟩,_⟩:=id I.loc;obtain ⟨sl,hL⟩:=u.any ho I.free fun z=>(kN _ z).2.1 rfl
 exact I.step (ch:=ch) kN (fun b o hL hb hc e n=>u.keep b o e n (fun z=>(zAo.mp (I.stkSub b z)).elim hL hb) hc) (fun b o _ _ hc e n=>u.any e n hc) (fun b o hc e n=>u.free b o e n hc) (fun b o hc e=>u.there b o e hc) u.tups u.frzs u.tbls (fun m' hm=>by
  obtain ⟨o',fv,u7,iN,r'⟩:=hm;rw [ho] at iN;cases iN
  exact ⟨_,fv,u7,hL,r'⟩) hok hg
theorem Inv.turned {t':Nat}{it:Addr}(I:Inv X pins σ H s)(k:∀ b o,b≠it->s.heap.get? b=some o->h'.get? b=some o)(hn:H it=none)(hL:it≠X.env.locals)
  (h1:it∈X.ex\/X.s₀.heap.objs.size<=it) (h2:∀ x c,X.env.cells.lookup x=some c->c≠it) (h3:∀ p∈X.pn++pins,p.1≠it):Inv X pins σ H { s with heap:=h',toks:=t' }:=by
 have Iy:∀ b u,H b=some u->b≠it:=fun b u e z=>by rw [z,hn] at e;cases e
 refine I.step (g':=s.gens) (d':=s.drawn) (ch:=[it]) (fun b hb=>?_) (fun b o _ _ hc e _=>k b o (fun z=>hc (by simp [z])) e) (fun b o _ _ hc e _=>⟨o.slots,k b o (fun z=>hc (by simp [z])) e⟩) (fun _ _ _ _ n=>n)
  (fun b o hc e=>⟨o,k b o (fun z=>hc (by simp [z])) e⟩) (fun _ _ e=>e) (fun _ _ _ e=>e) (fun b ps e=>⟨#[],by rw [e];simp⟩) (fun m hm=>?_) (fun b u e=>?_) I.bare
 ·have e:b=it:=by simpa using hb
  subst e;exact ⟨h1,hL,h2,h3⟩
 ·obtain ⟨o,es,ep,ho,r⟩:=hm;exact ⟨o,es,ep,k _ o (Ne.symm hL) ho,r⟩
 ·refine (I.hok b u e).stay (fun c v hc q=>k c v ?_ q) (fun _ q=>q) fun _ _ q=>q;rcases hc with z | z
  ·rw [z];exact Iy b u e
  ·exact Iy c _ z
theorem Inv.tok (I:Inv X pins σ H s)(t:Nat):Inv X pins σ H { s with toks:=t }:=I.un (h':=s.heap) (t':=t) Un.refl I.hok
theorem Inv.kept {t':Nat}(I:Inv X pins σ H s)(k:∀ b u,s.heap.get? b=some u->h'.get? b=some u):Inv X pins σ H { s with heap:=h',toks:=t' }:=I.un (Un.kept k) (I.hok.kept k)
theorem Inv.laid {a:Addr}{o:HO}{t':Nat}(I:Inv X pins σ H s)(k:∀ b u,s.heap.get? b=some u->h'.get? b=some u)(hp:s.heap.objs.size<=a)(new:ObjOk X.prog X.w (upd H a o) h' a o) :
  Inv X pins σ (upd H a o) { s with heap:=h',toks:=t' }:=I.un (Un.laid k hp (I.hok.fresh hp)) (I.hok.laid k hp new)
theorem Inv.write {x e:Addr}{o:HO}{t':Nat}(I:Inv X pins σ H s)(mu:Mut (H x))(he:e=x\/H e=some (.own x))(k:∀ b u,b≠e->s.heap.get? b=some u->h'.get? b=some u)(sF:∃ u,h'.get? e=some u)
  (new:ObjOk X.prog X.w (upd H x o) h' x o):Inv X pins σ (upd H x o) { s with heap:=h',toks:=t' }:=I.un (Un.write mu he k sF) (I.hok.write mu he k sF new)
theorem Inv.pins_of {mE:List (Addr×Obj)}(I:Inv X pins σ H s)(h:∀ p∈mE,s.heap.get? p.1=some p.2/\H p.1=none/\p.1≠X.env.locals/\p.1 ∉ X.fs/\∀ v,p.2.data≠.cell v):Inv X mE σ H s :=
 ⟨I.ok,I.os,I.bare,I.base,I.loc,I.cell,I.free,I.freeC,fun p hp=>(zA6.mp hp).elim (fun z=>I.pin p (List.mem_append_left _ z)) (h p),I.hok,I.len⟩
theorem qN {N:List Str}(hN:N.Nodup){i j:Nat}{x:Str}(a:N[i]?=some x)(b:N[j]?=some x):i=j:=by
 obtain ⟨h1,e1⟩:=zAa.mp a;obtain ⟨h2,e2⟩:=zAa.mp b;exact (List.getElem_inj hN).mp (e1.trans e2.symm)
theorem nU {M:Model}{A:Around}{E:Value->Shared->Prop}{i:Nat}{x:Str}{v:V}{u:Value}{Q:Unit->Shared->Prop}(I:Inv X pins σ H s)(hN:X.N.Nodup)(hi:X.N[i]?=some x)(hx:Loc X.env.scope x)(r:RelV v u)
  (h:∀ s',Inv X pins (σ.set i (some v)) H s'->(∃ a,Heap.SameBut a s.heap s'.heap/\(a=X.env.locals\/X.env.cells.lookup x=some a))->Q () s') (hf:X.fn x=true\/X.env.scope.names.lookup x=some .local:=by first | exact .inl rfl | exact .inr rfl | assumption):wpAny M A (storeName X.env x u) Q E s:=by
 obtain ⟨m,hn,hl⟩:=id I.loc;have B4:(X.env.scope.kind == .class || (X.env.scope.kind == .module && X.env.locals != X.env.globals))=false:=by rw [I.ok.kind];rfl
 have va:i < σ.length:=by rw [I.len];exact (zAa.mp hi).1
 have cne:=I.cne
 have tracked:∀ {a:Addr} {h':Heap},(∃ o,s.heap.get? a=some o/\H a=none)->Heap.SameBut a s.heap h'->HOk X.prog X.w H h':=fun {a h'} ha hs b ob e=>by
  obtain ⟨_,_,hfree⟩:=ha;refine (I.hok b ob e).stay (fun c w' hc q=>(hs.2 c ?_).trans q) (fun _ q=>q) fun _ _ q=>q;rintro rfl;rcases hc with rfl | hc
  ·rw [hfree] at e;cases e
  ·rw [hfree] at hc;cases hc
 rcases hx with hk | hk
 ·refine wpAny_storeName_local hk hn (fun h' KJ hs=>?_) B4;obtain ⟨oL,_,_,KL,_⟩:=id hn;refine h _ ⟨I.ok,I.os,I.bare,⟨fun b o e n hb hx=>?_,fun b o e n hb hx=>?_,I.base.free,fun b o e hx=>?_,I.base.tups,I.base.frzs,I.base.tbls⟩,⟨_,KJ,fun j y v' e1 e2 e3=>?_⟩,fun y c e=>?_,I.free,I.freeC,fun p hp=>?_,tracked ⟨oL,KL,I.free⟩ hs,by simpa using I.len⟩ ⟨_,hs,.inl rfl⟩
  ·exact (hs.2 b (zB4 (zB2 (zAy e) I.ok.above))).trans (I.base.keep b o e n hb hx)
  ·obtain ⟨sl,e1⟩:=I.base.slot b o e n hb hx;exact ⟨sl,(hs.2 b (zB4 (zB2 (zAy e) I.ok.above))).trans e1⟩
  ·obtain ⟨o',e1⟩:=I.base.there b o e hx;exact ⟨o',(hs.2 b (zB4 (zB2 (zAy e) I.ok.above))).trans e1⟩
  ·by_cases hj:j=i
   ·subst hj;rw [hi] at e1;cases e1;rw [List.getElem?_set_self va] at e2;cases e2;exact ⟨u,r,.inl ⟨hk,by simp⟩⟩
   ·rw [List.getElem?_set_ne (Ne.symm hj)] at e2;obtain ⟨u',r',q⟩:=hl j y v' e1 e2 e3;refine ⟨u',r',?_⟩;rcases q with ⟨k,e⟩ | ⟨k,c,e,z⟩
    ·refine .inl ⟨k,?_⟩;have:y≠x:=fun e=>hj (qN hN e1 (e ▸ hi));simp [this,e]
    ·exact .inr ⟨k,c,e,z.sameBut hs (cne y c e)⟩
  ·obtain ⟨w',z⟩:=I.cell y c e;exact ⟨w',z.sameBut hs (cne y c e)⟩
  ·obtain ⟨e,n,ne,nf,d⟩:=I.pin p hp;exact ⟨(hs.2 p.1 ne).trans e,n,ne,nf,d⟩
 ·have B5:X.fn x=true:=by
   rcases hf with z | z
   ·exact z
   ·rw [z] at hk;cases hk
  obtain ⟨c,hc⟩:=I.ok.has x (.inl hk);obtain ⟨w',z⟩:=I.cell x c hc;refine wpAny_storeName_cell I.ok.kind hk hc z (fun h' ay hs=>?_);obtain ⟨oc,Iz,B6⟩:=id z;refine h { s with heap:=h' } ⟨I.ok,I.os,I.bare,⟨fun b o e n hb hx=>?_,fun b o e n hb hx=>?_,I.base.free,fun b o e hx=>?_,I.base.tups,I.base.frzs,I.base.tbls⟩,⟨m,hn.sameBut hs (Ne.symm (cne x c hc)),fun j y v' e1 e2 e3=>?_⟩,fun y c' e=>?_,I.free,I.freeC,fun p hp=>?_,tracked ⟨oc,Iz,I.freeC x c hc⟩ hs,by simpa using I.len⟩ ⟨c,hs,.inr hc⟩
  ·exact (hs.2 b (zB4 (zB2 (zAy e) (I.ok.cab x c B5 hc)))).trans (I.base.keep b o e n hb hx)
  ·obtain ⟨sl,e1⟩:=I.base.slot b o e n hb hx;exact ⟨sl,(hs.2 b (zB4 (zB2 (zAy e) (I.ok.cab x c B5 hc)))).trans e1⟩
  ·obtain ⟨o',e1⟩:=I.base.there b o e hx;exact ⟨o',(hs.2 b (zB4 (zB2 (zAy e) (I.ok.cab x c B5 hc)))).trans e1⟩
  ·by_cases hj:j=i
   ·subst hj;rw [hi] at e1;cases e1;rw [List.getElem?_set_self va] at e2;cases e2;exact ⟨u,r,.inr ⟨.inl hk,c,hc,ay⟩⟩
   ·rw [List.getElem?_set_ne (Ne.symm hj)] at e2;obtain ⟨u',r',q⟩:=hl j y v' e1 e2 e3;refine ⟨u',r',?_⟩;rcases q with q | ⟨k,c',e,z'⟩
    ·exact .inl q
    ·refine .inr ⟨k,c',e,z'.sameBut hs ?_⟩;rintro rfl;exact hj (qN hN e1 (I.ok.inj _ _ _ e hc ▸ hi))
  ·by_cases AW:c'=c
   ·subst AW;exact ⟨_,ay⟩
   ·obtain ⟨w2,z2⟩:=I.cell y c' e;exact ⟨w2,z2.sameBut hs AW⟩
  ·obtain ⟨e,n,ne,nf,d⟩:=I.pin p hp;refine ⟨(hs.2 p.1 ?_).trans e,n,ne,nf,d⟩;intro q;rw [q,Iz] at e;have q':oc=p.2:=zAl e;exact d w' (by rw [<- q'];exact B6)
theorem gf {M:Model}{A:Around}{E:Value->Shared->Prop}{i:Nat}{x:Str}{v:V}{u:Value}{Q:Unit->Shared->Prop}(I:Inv X pins σ H s)(hN:X.N.Nodup)(hi:X.N[i]?=some x)(hx:Loc X.env.scope x)(r:RelV v u)
  (h:∀ s',Inv X pins (σ.set i (some v)) H s'->Q () s') (hf:X.fn x=true\/X.env.scope.names.lookup x=some .local:=by first | exact .inl rfl | exact .inr rfl | assumption):wpAny M A (storeName X.env x u) Q E s :=
 nU I hN hi hx r (fun s' I' _=>h s' I') hf
theorem Inv.call' {s':Shared}{ch:List Addr}(I:Inv X pins σ H s)(ho:s'.os=s.os)(u:Un (frs X.stack) ch H H' s.heap s'.heap)(hok:HOk X.prog X.w H' s'.heap)(hg:AllBare s'.gens)
  (kN:∀ b∈ch,(b∈X.ex\/X.s₀.heap.objs.size<=b)/\b≠X.env.locals/\(∀ x c,X.env.cells.lookup x=some c->c≠b)/\∀ p∈X.pn++pins,p.1≠b):Inv X pins σ H' s':=by
 obtain ⟨h',g',d',t',o'⟩:=s';have e:o'=s.os:=ho;subst e;exact I.call (g':=g') (t':=t') (d':=d') u hok hg kN
end
abbrev XK:=Value->Option Addr->Hp->Prop
abbrev St:=List (Option V)
abbrev VK:=V->Hp->Prop
abbrev TE:=St->Hp->VK->Prop
abbrev TT:=St->Hp->(Bool->Hp->Prop)->Prop
abbrev TA:=St->Hp->(List V->Hp->Prop)->Prop
structure Ends where
 nx:St->Hp->Prop
 rt:VK
 bk:St->Hp->Prop:=fun _ _=>False
 ct:St->Hp->Prop:=fun _ _=>False
abbrev TS:=Ends->St->Hp->Prop
def EP (X:Cx)(pins:List (Addr×Obj))(σ:St)(Q:VK)(u:Value)(s':Shared):Prop:=∃ v H',Inv X pins σ H' s'/\RelV v u/\Q v H'
def TP (X:Cx)(pins:List (Addr×Obj))(σ:St)(Q:Bool->Hp->Prop)(b:Bool)(s':Shared):Prop:=∃ H',Inv X pins σ H' s'/\Q b H'
def AP (X:Cx)(pins:List (Addr×Obj))(σ:St)(Q:List V->Hp->Prop)(us:List Value)(s':Shared):Prop:=∃ vs H',Inv X pins σ H' s'/\Vals vs us/\Q vs H'
def SP (X:Cx)(pins:List (Addr×Obj))(D:Ends)(f:Flow)(s':Shared):Prop :=
 match f with
 | .next=>∃ ai H',Inv X pins ai H' s'/\D.nx ai H'
 | .brk=>∃ ai H',Inv X pins ai H' s'/\D.bk ai H'
 | .cont=>∃ ai H',Inv X pins ai H' s'/\D.ct ai H'
 | .ret u=>∃ v ai H',Inv X pins ai H' s'/\RelV v u/\D.rt v H'
def PE (X:Cx)(e:Expr)(t:TE):Prop :=
 ∀ (pins:List (Addr×Obj)) (s:Shared) (σ:St) (H:Hp) (Q:VK),Inv X pins σ H s->t σ H Q->wpAny (model X.prog X.w) X.A (eval e X.env) (EP X pins σ Q) X.xe s
def PT (X:Cx)(e:Expr)(t:TT):Prop :=
 ∀ (pins:List (Addr×Obj)) (s:Shared) (σ:St) (H:Hp) (Q:Bool->Hp->Prop),Inv X pins σ H s->t σ H Q->wpAny (model X.prog X.w) X.A (isTrue e X.env (eval e X.env)) (TP X pins σ Q) X.xe s
def PW (X:Cx)(e:Expr)(t:TT):Prop :=
 ∀ (whole:Sem Value) (pins:List (Addr×Obj)) (s:Shared) (σ:St) (H:Hp) (Q:Bool->Hp->Prop),Inv X pins σ H s->t σ H Q->wpAny (model X.prog X.w) X.A (isTrue e X.env whole) (TP X pins σ Q) X.xe s
theorem PW.pt {X:Cx}{e:Expr}{t:TT}(h:PW X e t):PT X e t:=h _
def PA (X:Cx)(es:List Expr)(t:TA):Prop :=
 ∀ (pos:Pos) (pins:List (Addr×Obj)) (s:Shared) (σ:St) (H:Hp) (Q:List V->Hp->Prop),Inv X pins σ H s->t σ H Q->wpAny (model X.prog X.w) X.A (spliced (backTo pos (starEach es X.env))) (AP X pins σ Q) X.xe s
def PS (X:Cx)(st:Stmt)(t:TS):Prop :=
 ∀ (pins:List (Addr×Obj)) (s:Shared) (σ:St) (H:Hp) (D:Ends),Inv X pins σ H s->t D σ H->wpAny (model X.prog X.w) X.A (exec st X.env) (SP X pins D) X.xe s
def PSs (X:Cx)(st:List Stmt)(t:TS):Prop :=
 ∀ (pins:List (Addr×Obj)) (s:Shared) (σ:St) (H:Hp) (D:Ends),Inv X pins σ H s->t D σ H->wpAny (model X.prog X.w) X.A (execs st X.env) (SP X pins D) X.xe s
theorem thn {α:Type}{t:Sem α}{Q Q':α->Shared->Prop}{M:Model}{A:Around}{E:Value->Shared->Prop}{s:Shared}(h:wpAny M A t Q E s)(hQ:∀ a s,Q a s->Q' a s):wpAny M A t Q' E s:=wpAny_mono h hQ fun _ _ x=>x
section
variable {X:Cx}
theorem bin {a b:Expr}{ta tb:TE}(ha:PE X a ta)(hb:PE X b tb){pins:List (Addr×Obj)}{s:Shared}{σ:St}{H:Hp}{R:V->V->Hp->Prop}(I:Inv X pins σ H s)(h:ta σ H fun x H1=>tb σ H1 fun y H2=>R x y H2)
  {α:Type} {Q:α->Shared->Prop} {f:Value->Value->Sem α}
  (hf:∀ v u s2 x y H2,Inv X pins σ H2 s2->RelV x v->RelV y u->R x y H2->wpAny (model X.prog X.w) X.A (f v u) Q X.xe s2) :
  wpAny (model X.prog X.w) X.A (eval a X.env) (fun v s₁=>wpAny (model X.prog X.w) X.A (eval b X.env) (fun u s₂=>wpAny (model X.prog X.w) X.A (f v u) Q X.xe s₂) X.xe s₁) X.xe s:=by
 refine thn (ha pins s σ H _ I h) fun v s1 ⟨x,H1,I1,r1,q1⟩=>?_;refine thn (hb pins s1 σ H1 _ I1 q1) fun u s2 ⟨y,H2,I2,r2,q2⟩=>?_;exact hf v u s2 x y H2 I2 r1 r2 q2
inductive TVarI (i:Nat)(σ:St)(H:Hp)(Q:VK):Prop
 | mk:∀ v,(σ[i]?=some (some v))->(Q v H)->TVarI i σ H Q
def Af (i:Nat):TE:=fun σ H Q=>TVarI i σ H Q
def tC (v:V):TE:=fun _ H Q=>Q v H
theorem Di {i:Nat}{x:Str}{pos:Pos}(hN:X.N[i]?=some x)(hv:Vis X.env.scope x)(hd:(x == ("__debug__" : Str))=false:=by decide)(iO:(x == ("__classdict__" : Str))=false:=by decide):PE X (.Name x pos) (Af i):=by
 intro pins s σ H Q I h;obtain ⟨v,e,h⟩:=h;obtain ⟨m,hn,hl⟩:=I.loc;obtain ⟨u,r,l⟩:=hl i x v hN e hv
 have fin:EP X pins σ Q u s:=⟨v,H,I,r,h⟩
 rcases l with ⟨hk,hm⟩ | ⟨hk,c,hc,hcell⟩
 ·exact wpAny_Name (wpAny_loadName_local I.ok.kind hk hn hm fin) hd
 ·rcases hk with hk | hk
  ·exact wpAny_Name (wpAny_loadName_cell I.ok.kind hk hc hcell fin) hd
  ·exact wpAny_Name (wpAny_loadName_free I.ok.kind hk hc hcell fin iO) hd
theorem az {i j pos}:PE X (.Constant (.int i) j pos) (tC (.int i)):=fun _ _ _ H _ I h=>wpAny_Constant_int ⟨.int i,H,I.tok _,⟨_,rfl⟩,h⟩
theorem iB {b j pos}:PE X (.Constant (.bool b) j pos) (tC (.bl b)):=fun _ _ _ H _ I h=>Constant_bool ⟨.bl b,H,I,rfl,h⟩
theorem pJ {j pos}:PE X (.Constant .none j pos) (tC .non):=fun _ _ _ H _ I h=>Constant_none ⟨.non,H,I,rfl,h⟩
def Gl (X:Cx)(x:Str):Prop:=X.env.kindOf x=some .globalImplicit
theorem uq {E:Value->Shared->Prop}{pins:List (Addr×Obj)}{s:Shared}{σ:St}{H:Hp}{x:Str}{u:Value}{pos:Pos}{Q:Value->Shared->Prop}(I:Inv X pins σ H s)(hg:Gl X x)(hm:X.mg x=some u)(h:Q u s)
  (hd:(x == ("__debug__" : Str))=false:=by decide):wpAny (model X.prog X.w) X.A (eval (.Name x pos) X.env) Q E s :=
 Calls.Name_function_global I.ok.kind hg (Calls.loadGlobal_global (by rw [I.ok.glob];exact I.mod.glob.keeps I.bk) hm h) hd
theorem fP {E:Value->Shared->Prop}{pins:List (Addr×Obj)}{s:Shared}{σ:St}{H:Hp}{x:Str}{u:Value}{pos:Pos}{Q:Value->Shared->Prop}(I:Inv X pins σ H s)(hg:Gl X x)(hm:X.mg x=none)(hv:bootBuiltins x=some u)(h:Q u s)
  (hn:x≠"__name__" := by decide) (hd:(x == ("__debug__" : Str))=false:=by decide):wpAny (model X.prog X.w) X.A (eval (.Name x pos) X.env) Q E s:=by
 obtain ⟨mb,h1,h2⟩:=I.mod.blt;exact Calls.Name_function_global I.ok.kind hg (Calls.loadGlobal_builtin (by rw [I.ok.glob];exact I.mod.glob.keeps I.bk) hm (by rw [I.ok.blt];exact h1.keeps I.bk) ((h2 x hn).trans hv) h) hd
theorem bK {x:Str}{v:V}{u:Value}{pos:Pos}(hg:Gl X x)(hm:X.mg x=some u)(r:RelV v u)(hd:(x == ("__debug__" : Str))=false:=by decide):PE X (.Name x pos) (tC v) :=
 fun _ _ _ H _ I h=>uq I hg hm ⟨v,H,I,r,h⟩ hd
theorem pK {x:Str}{v:V}{u:Value}{pos:Pos}(hg:Gl X x)(hm:X.mg x=none)(hv:bootBuiltins x=some u)(r:RelV v u)(hn:x≠"__name__" := by decide)(hd:(x == ("__debug__" : Str))=false:=by decide):PE X (.Name x pos) (tC v) :=
 fun _ _ _ H _ I h=>fP I hg hm hv ⟨v,H,I,r,h⟩ hn hd
variable {a b:Expr}{ta tb:TE}{pos:Pos}
def PC (X:Cx)(op:CmpOp)(a b:Expr)(t:TE):Prop :=
 ∀ (pins:List (Addr×Obj)) (s:Shared) (σ:St) (H:Hp) (Q:VK),Inv X pins σ H s->t σ H Q ->
  wpAny (model X.prog X.w) X.A (eval a X.env) (fun v s₁=>wpAny (model X.prog X.w) X.A (eval b X.env) (fun u s₂=>wpAny (model X.prog X.w) X.A (compareOp op v u) (EP X pins σ Q) X.xe s₂) X.xe s₁) X.xe s
def tB (t:TE):TT:=fun σ H Q=>t σ H fun x H1=>∃ c,x=.bl c/\Q c H1
theorem Dj {op:CmpOp}{t:TE}(h:PC X op a b t)(h1:behindInMarks op b=false:=by first | exact nobehind _ (by decide) (by decide) | rfl):PT X (.Compare a [op] [b] pos) (tB t):=by
 intro pins s σ H Q I hw;refine wpAny_isTrue_Compare1 (thn (h pins s σ H _ I hw) fun v s1 h1=>thn h1 fun u s2 h2=>thn h2 fun c s3 ⟨x,H1,I1,r1,q1⟩=>?_) h1;obtain ⟨d,rfl,q⟩:=q1;cases r1;exact wpAny_truthy_bool ⟨H1,I1,q⟩
theorem dq {e:Expr}{t:TE}(h:PE X e t)(he:∀ whole,isTrue e X.env whole=(do let v <- whole;standAt e.pos;holding [v] (truthy v)):=by intro _;rfl):PT X e (tB t):=by
 intro pins s σ H Q I hw;refine isTrue_plain (thn (h pins s σ H _ I hw) fun v s1 ⟨x,H1,I1,r1,q1⟩=>?_) (he _);obtain ⟨d,rfl,q⟩:=q1;cases r1;exact wpAny_truthy_bool ⟨H1,I1,q⟩
variable {tA AX:TT}{rest:List Expr}
def GQ (t u:TT):TT:=fun σ H Q=>t σ H fun c H1=>if c=true then u σ H1 Q else Q false H1
def tOr (t u:TT):TT:=fun σ H Q=>t σ H fun c H1=>if c=true then Q true H1 else u σ H1 Q
def GR (t:TT):TT:=fun σ H Q=>t σ H fun c H1=>Q (!c) H1
theorem pL (ha:PT X a tA):PW X (.BoolOp .And [a] pos) tA:=by
 intro wh pins s σ H Q I h;refine isTrue_and (thn (ha pins s σ H Q I h) fun c s1 e=>?_)
 cases c with
 | true=>exact isTrue_and_nil e
 | false=>exact e
theorem sW (ha:PT X a tA):PW X (.BoolOp .Or [a] pos) tA:=by
 intro wh pins s σ H Q I h;refine isTrue_or (thn (ha pins s σ H Q I h) fun c s1 e=>?_)
 cases c with
 | false=>exact isTrue_or_nil e
 | true=>exact e
theorem sX (ha:PT X a tA)(hb:PW X (.BoolOp .And (b::rest) pos) AX):PW X (.BoolOp .And (a::b::rest) pos) (GQ tA AX):=by
 intro wh pins s σ H Q I h;refine isTrue_and (thn (ha pins s σ H _ I h) fun c s1 ⟨H1,I1,q1⟩=>?_)
 cases c with
 | true=>exact hb wh pins s1 σ H1 Q I1 q1
 | false=>exact ⟨H1,I1,q1⟩
theorem qO (ha:PT X a tA)(hb:PW X (.BoolOp .Or (b::rest) pos) AX):PW X (.BoolOp .Or (a::b::rest) pos) (tOr tA AX):=by
 intro wh pins s σ H Q I h;refine isTrue_or (thn (ha pins s σ H _ I h) fun c s1 ⟨H1,I1,q1⟩=>?_)
 cases c with
 | true=>exact ⟨H1,I1,q1⟩
 | false=>exact hb wh pins s1 σ H1 Q I1 q1
theorem cH (ha:PT X a tA):PT X (.UnaryOp .Not a pos) (GR tA):=by
 intro pins s σ H Q I h;exact isTrue_not (ha pins s σ H (fun c H1=>Q (!c) H1) I h)
def Ck (ta tb:TE):TE:=fun σ H Q=>ta σ H fun x H1=>∃ c,x=.bl c/\if c=true then tb σ H1 Q else Q (.bl false) H1
def EY (ta:TE):TE:=fun σ H Q=>ta σ H fun x H1=>∃ c,x=.bl c/\Q (.bl (!c)) H1
theorem dB {op}{t:TE}(h:PE X a t):PE X (.BoolOp op [a] pos) t:=fun pins s σ H Q I hw=>BoolOp_one (h pins s σ H Q I hw)
theorem cg (ha:PE X a ta)(hb:PE X (.BoolOp .And (b::rest) pos) tb):PE X (.BoolOp .And (a::b::rest) pos) (Ck ta tb):=by
 intro pins s σ H Q I h;refine BoolOp_and (thn (ha pins s σ H _ I h) fun v s1 ⟨x,H1,I1,r1,q1⟩=>?_);obtain ⟨c,rfl,q1⟩:=q1;cases r1;refine wpAny_truthy_bool ?_
 cases c with
 | true=>exact hb pins s1 σ H1 Q I1 q1
 | false=>exact ⟨.bl false,H1,I1,rfl,q1⟩
theorem Dk (ha:PE X a ta):PE X (.UnaryOp .Not a pos) (EY ta):=by
 intro pins s σ H Q I h;refine UnaryOp_ (thn (ha pins s σ H _ I h) fun v s1 ⟨x,H1,I1,r1,q1⟩=>?_);obtain ⟨c,rfl,q1⟩:=q1;cases r1;exact not_of (wpAny_truthy_bool ⟨.bl (!c),H1,I1,rfl,q1⟩)
def tIf (t:TT)(ta tb:TE):TE:=fun σ H Q=>t σ H fun c H1=>if c=true then ta σ H1 Q else tb σ H1 Q
theorem qP {c:Expr}(hc:PT X c tA)(ha:PE X a ta)(hb:PE X b tb):PE X (.IfExp c a b pos) (tIf tA ta tb):=by
 intro pins s σ H Q I h;refine wpAny_IfExp (thn (hc pins s σ H _ I h) fun d s1 ⟨H1,I1,q1⟩=>?_)
 cases d with
 | true=>exact ha pins s1 σ H1 Q I1 q1
 | false=>exact hb pins s1 σ H1 Q I1 q1
end
def SqL (K:PySem.W.Frag)(H:Hp)(a:Addr)(xs:List V):Prop :=
 Rd H a (.lst xs) \/
  ∃ (o:Obj) (its:Array Value) (n:Nat),K.lookup a=some o/\o.cls=.type "list" /\ o.dict=none/\o.data=.seq its n/\its.size<=sizeLine/\Vals xs its.toList
def SqT (K:PySem.W.Frag)(H:Hp)(a:Addr)(xs:List V):Prop :=
 Rd H a (.tup xs) \/
  ∃ (o:Obj) (its:Array Value) (n:Nat),K.lookup a=some o/\o.cls=.type "tuple" /\ o.data=.seq its n/\its.size<=sizeLine/\Vals xs its.toList
def GX:Value->Option V
 | .none=>some .non
 | .bool b=>some (.bl b)
 | .int i _=>some (.int i)
 | .str x _=>some (.str x)
 | .bytes b _=>some (.byt b)
 | .float b _=>some (.flt b)
 | .ref a=>some (.ref a)
 | .type n=>some (.ty n)
 | _=>none
theorem RelV.abs {x:V}{u:Value}(r:RelV x u):GX u=some x:=by
 cases x with
 | non=>cases r;rfl
 | bl _=>cases r;rfl
 | int _=>obtain ⟨t,rfl⟩:=r;rfl
 | str _=>obtain ⟨t,rfl⟩:=r;rfl
 | byt _=>obtain ⟨t,rfl⟩:=r;rfl
 | flt _=>obtain ⟨t,rfl⟩:=r;rfl
 | ref _=>cases r;rfl
 | ty _=>cases r;rfl
theorem RelV.inj {x y:V}{u:Value}(r:RelV x u)(q:RelV y u):x=y:=zAl (r.abs.symm.trans q.abs)
theorem Vals.inj:∀ {xs ys:List V} {us:List Value},Vals xs us->Vals ys us->xs=ys
 | _,_,_,.nil,.nil=>rfl
 | _,_,_,.cons r t,.cons r' t'=>by rw [r.inj r',Vals.inj t t']
section
variable {X:Cx}{pins:List (Addr×Obj)}{σ:St}{H:Hp}{s:Shared}{a:Addr}{xs ys:List V}
theorem SqL.of {K:PySem.W.Frag}(h:H a=some (.lst xs)):SqL K H a xs:=.inl (.inl h)
theorem SqT.of {K:PySem.W.Frag}(h:H a=some (.tup xs)):SqT K H a xs:=.inl (.inl h)
theorem Inv.list (I:Inv X pins σ H s)(h:SqL X.K H a xs):∃ its:List Value,Vals xs its/\PlainL s.heap a its.toArray/\xs.length<=sizeLine:=by
 rcases h with h | ⟨o,its,n,hk,hc,hd,hs,hz,r⟩
 ·obtain ⟨z,its,n,r,e⟩:=h.ok I.hok;exact ⟨its,r,⟨_,n,e,rfl,rfl,rfl⟩,z⟩
 ·refine ⟨its.toList,r,⟨o,n,I.kIn a o hk,hc,hd,by simpa using hs⟩,?_⟩;have e:=r.length;simp only [Array.length_toList] at e;lia
theorem Inv.tuple (I:Inv X pins σ H s)(h:SqT X.K H a xs):∃ its:List Value,Vals xs its/\IsTup s.heap a its.toArray/\xs.length<=sizeLine:=by
 rcases h with h | ⟨o,its,n,hk,hc,hs,hz,r⟩
 ·obtain ⟨z,its,r,p⟩:=h.ok I.hok;exact ⟨its,r,p,z⟩
 ·refine ⟨its.toList,r,⟨o,I.kIn a o hk,hc,n,by simpa using hs⟩,?_⟩;have e:=r.length;simp only [Array.length_toList] at e;lia
theorem Inv.list_inj (I:Inv X pins σ H s)(h:SqL X.K H a xs)(h':SqL X.K H a ys):xs=ys:=by
 obtain ⟨its,r,⟨o,n,e,_,_,d⟩,_⟩:=I.list h;obtain ⟨its',r',⟨o',n',e',_,_,d'⟩,_⟩:=I.list h';rw [e] at e';cases e';rw [d] at d';injection d' with d1 _;have:its=its':=by simpa using congrArg Array.toList d1
 subst this;exact r.inj r'
theorem Inv.tuple_inj (I:Inv X pins σ H s)(h:SqT X.K H a xs)(h':SqT X.K H a ys):xs=ys:=by
 obtain ⟨its,r,⟨o,e,_,n,d⟩,_⟩:=I.tuple h;obtain ⟨its',r',⟨o',e',_,n',d'⟩,_⟩:=I.tuple h';rw [e] at e';cases e';rw [d] at d';injection d' with d1 _;have:its=its':=by simpa using congrArg Array.toList d1
 subst this;exact r.inj r'
end
abbrev Cx.wish (X:Cx)(E:Value->Shared->Prop):Cx:={ X with xe:=E }
abbrev Cx.nox (X:Cx):Cx:=X.wish fun _ _=>False
theorem Cx.Ok.wish {X:Cx}(ok:X.Ok)(E:Value->Shared->Prop):(X.wish E).Ok :=
 ⟨ok.mod,ok.kind,ok.glob,ok.blt,ok.above,ok.inj,ok.has,ok.cab,ok.hd,ok.frames,ok.stk,ok.exf,ok.bs,ok.bsz,ok.noex,ok.exfs,ok.funs,ok.frf⟩
theorem Cx.Ok.unwish {X:Cx}{E:Value->Shared->Prop}(ok:(X.wish E).Ok):X.Ok :=
 ⟨ok.mod,ok.kind,ok.glob,ok.blt,ok.above,ok.inj,ok.has,ok.cab,ok.hd,ok.frames,ok.stk,ok.exf,ok.bs,ok.bsz,ok.noex,ok.exfs,ok.funs,ok.frf⟩
section
variable {X:Cx}{pins:List (Addr×Obj)}{σ:St}{H:Hp}{s:Shared}{E:Value->Shared->Prop}
theorem Inv.wish (I:Inv X pins σ H s)(E:Value->Shared->Prop):Inv (X.wish E) pins σ H s:=⟨I.ok.wish E,I.os,I.bare,I.base,I.loc,I.cell,I.free,I.freeC,I.pin,I.hok,I.len⟩
theorem Inv.unwish (I:Inv (X.wish E) pins σ H s):Inv X pins σ H s:=⟨I.ok.unwish,I.os,I.bare,I.base,I.loc,I.cell,I.free,I.freeC,I.pin,I.hok,I.len⟩
theorem SP.unwish {D:Ends}{f:Flow}{s':Shared}(h:SP (X.wish E) pins D f s'):SP X pins D f s':=by
 cases f with
 | next=>obtain ⟨ai,H',I,q⟩:=h;exact ⟨ai,H',I.unwish,q⟩
 | brk=>obtain ⟨ai,H',I,q⟩:=h;exact ⟨ai,H',I.unwish,q⟩
 | cont=>obtain ⟨ai,H',I,q⟩:=h;exact ⟨ai,H',I.unwish,q⟩
 | ret u=>obtain ⟨v,ai,H',I,r,q⟩:=h;exact ⟨v,ai,H',I.unwish,r,q⟩
theorem PSs.nox {st:List Stmt}{t:TS}(h:PSs X.nox st t):PSs X st t:=fun pins s σ H D I hw =>
 wpAny_mono (h pins s σ H D (I.wish _) hw) (fun _ _ q=>q.unwish) fun _ _ z=>False.elim z
end
section
variable {X:Cx}{st:Stmt}{rest:List Stmt}{t u:TS}{e:Expr}{te:TE}{pos:Pos}
def Cm:TS:=fun D σ H=>D.nx σ H
def Ag (t u:TS):TS:=fun D σ H=>t { D with nx:=u D } σ H
theorem bf:PSs X [] Cm:=fun _ _ σ H _ I h=>wpAny_execs_nil ⟨σ,H,I,h⟩
theorem aB (h1:PS X st t)(h2:PSs X rest u):PSs X (st::rest) (Ag t u):=by
 intro pins s σ H D I h;refine wpAny_execs_cons (thn (h1 pins s σ H { D with nx:=u D } I h) fun f s1 q=>?_)
 cases f with
 | next =>
  obtain ⟨ai,H',I',q⟩:=q;exact h2 pins s1 ai H' D I' q
 | ret v=>exact q
 | brk=>exact q
 | cont=>exact q
theorem aG (h1:PS X st t):PSs X [st] t:=by
 intro pins s σ H D I h;refine wpAny_execs_cons (thn (h1 pins s σ H D I h) fun f s1 q=>?_)
 cases f with
 | next=>exact wpAny_execs_nil q
 | ret v=>exact q
 | brk=>exact q
 | cont=>exact q
theorem Inv.quiet {pins:List (Addr×Obj)}{σ:St}{H:Hp}{s:Shared}(I:Inv X pins σ H s):interactive X.env=false:=by simp [interactive,I.ok.kind]
def Fb (te:TE):TS:=fun D σ H=>te σ H fun _ H1=>D.nx σ H1
theorem cT (he:PE X e te)(hs:swapsWith e none pos.line X.env=pure false:=by rfl):PS X (.Expr e pos) (Fb te):=by
 intro pins s σ H D I h;exact wpAny_Expr_any (thn (he pins s σ H _ I h) fun v s1 ⟨x,H1,I1,r1,q1⟩=>⟨σ,H1,I1,q1⟩) I.quiet hs
def Dl (te:TE):TS:=fun D σ H=>te σ H D.rt
theorem aR (he:PE X e te):PS X (.Return (some e) pos) (Dl te):=by
 intro pins s σ H D I h;exact wpAny_Return_some (thn (he pins s σ H _ I h) fun v s1 ⟨x,H1,I1,r1,q1⟩=>⟨x,σ,H1,I1,r1,q1⟩)
def GZ (c:TT)(t u:TS):TS:=fun D σ H=>c σ H fun b H1=>if b=true then t D σ H1 else u D σ H1
theorem bW {c:Expr}{a b:List Stmt}{tc:TT}(hc:PT X c tc)(ha:PSs X a t)(hb:PSs X b u):PS X (.If c a b pos) (GZ tc t u):=by
 intro pins s σ H D I h;refine wpAny_If (thn (hc pins s σ H _ I h) fun d s1 ⟨H1,I1,q1⟩=>?_)
 cases d with
 | true=>exact ha pins s1 σ H1 D I1 q1
 | false=>exact hb pins s1 σ H1 D I1 q1
def xJ:TS:=fun _ _ _=>False
theorem dH:PS X st xJ:=fun _ _ _ _ _ _ h=>h.elim
theorem nW {B7:List Stmt}:PSs X B7 xJ:=fun _ _ _ _ _ _ h=>h.elim
end
abbrev TG:=V->St->Hp->(St->Hp->Prop)->Prop
abbrev TGs:=List V->St->Hp->(St->Hp->Prop)->Prop
def PG (X:Cx)(target:Expr)(t:TG):Prop :=
 ∀ (pins:List (Addr×Obj)) (s:Shared) (σ:St) (H:Hp) (v:V) (u:Value) (Q:St->Hp->Prop),Inv X pins σ H s->RelV v u->t v σ H Q ->
  wpAny (model X.prog X.w) X.A (assign target X.env u) (fun _ s'=>∃ ai H',Inv X pins ai H' s'/\Q ai H') X.xe s
def PGs (X:Cx)(ts:List Expr)(t:TGs):Prop :=
 ∀ (pins:List (Addr×Obj)) (s:Shared) (σ:St) (H:Hp) (vs:List V) (us:List Value) (Q:St->Hp->Prop),Inv X pins σ H s->Vals vs us->t vs σ H Q ->
  wpAny (model X.prog X.w) X.A (assignInOrder ((assignEach ts X.env).map (·.2)) us) (fun _ s'=>∃ ai H',Inv X pins ai H' s'/\Q ai H') X.xe s
abbrev xK:=V->V->V->Hp->(Hp->Prop)->Prop
def Dm (X:Cx)(t:xK):Prop :=
 ∀ (pins:List (Addr×Obj)) (s:Shared) (σ:St) (H:Hp) (o i v:V) (ov iv u:Value) (Q:Hp->Prop),Inv X pins σ H s->RelV o ov->RelV i iv->RelV v u->t o i v H Q ->
  wpAny (model X.prog X.w) X.A (setItem ov iv u) (fun _ s'=>∃ H',Inv X pins σ H' s'/\Q H') X.xe s
abbrev TIp:=V->V->Hp->VK->Prop
def PIp (X:Cx)(op:Operator)(t:TIp):Prop :=
 ∀ (pins:List (Addr×Obj)) (s:Shared) (σ:St) (H:Hp) (x y:V) (v u:Value) (Q:VK),Inv X pins σ H s->RelV x v->RelV y u->t x y H Q ->
  wpAny (model X.prog X.w) X.A (inplaceOp op v u) (EP X pins σ Q) X.xe s
section
variable {X:Cx}{pos:Pos}
def bG (i:Nat):TG:=fun v σ H Q=>Q (σ.set i (some v)) H
theorem aZ {i:Nat}{x:Str}(hN:X.N.Nodup)(hi:X.N[i]?=some x)(hx:Loc X.env.scope x)(hf:X.fn x=true\/X.env.scope.names.lookup x=some .local:=by first | exact .inl rfl | exact .inr rfl | assumption):PG X (.Name x pos) (bG i):=by
 intro pins s σ H v u Q I r h;exact wpAny_assign_Name (gf I hN hi hx r (fun s' I'=>⟨_,H,I',h⟩) hf)
def jh:TGs:=fun vs σ H Q=>vs=[]/\Q σ H
def bR (t:TG)(u:TGs):TGs:=fun vs σ H Q=>∃ v r,vs=v::r/\t v σ H fun ai H'=>u r ai H' Q
theorem aY:PGs X [] jh:=by
 intro pins s σ H vs us Q I r h;obtain ⟨e,h⟩:=h;subst e;cases r;exact assignInOrder_nil ⟨σ,H,I,h⟩
theorem au {e:Expr}{es:List Expr}{t:TG}{u:TGs}(h1:PG X e t)(h2:PGs X es u)
  (hs:(assignEach (e::es) X.env).map (·.2)=assign e X.env::(assignEach es X.env).map (·.2):=by rfl):PGs X (e::es) (bR t u):=by
 intro pins s σ H vs us Q I r h;obtain ⟨v,vr,e1,h⟩:=h;subst e1
 cases r with
 | cons r rr =>
  rw [hs];refine assignInOrder_cons (thn (h1 pins s σ H _ _ _ I r h) fun _ s1 ⟨B8,H1,I1,q1⟩=>?_);exact h2 pins s1 B8 H1 _ _ Q I1 rr q1
inductive GTupI (K:PySem.W.Frag)(n:Nat)(t:TGs)(v:V)(σ:St)(H:Hp)(Q:St->Hp->Prop):Prop
 | mk:∀ a xs,(v=.ref a)->(SqT K H a xs)->(xs.length=n)->(t xs σ H Q)->GTupI K n t v σ H Q
def iC (K:PySem.W.Frag)(n:Nat)(t:TGs):TG:=fun v σ H Q=>GTupI K n t v σ H Q
theorem bU {es:List Expr}{k:Nat}{t:TGs}{n:Nat}(hc:X.calm=true)(h:PGs X es t)
  (hn:(assignEach es X.env).length=n:=by rfl) (gp:(assignEach es X.env).findIdx? (·.1)=none:=by rfl):PG X (.Tuple es k pos) (iC X.K n t):=by
 intro pins s σ H v u Q I r hw;obtain ⟨a,xs,e1,hq,hl,hw⟩:=hw;subst e1;cases r;obtain ⟨its,rv,ht,hz⟩:=I.tuple hq;refine assign_Tuple_tuple (I.ok.hd hc) ht (by simp [hn,<- hl,rv.length]) gp fun h' hx=>?_;have I1:Inv X pins σ H { s with heap:=h' }:=I.kept (t':=s.toks) fun b o e=>hx b o (Nat.ne_of_lt (Heap.lt_size e)) e;exact h pins _ σ H xs _ Q I1 (by simpa using rv) hw
def Hf (to ti:TE)(t:xK):TG:=fun v σ H Q=>to σ H fun o H1=>ti σ H1 fun i H2=>t o i v H2 fun H3=>Q σ H3
theorem ie {o i:Expr}{to ti:TE}{t:xK}(ho:PE X o to)(hi:PE X i ti)(hs:Dm X t)
  (ha:∀ v,assign (.Subscript o i pos) X.env v=(do
   let ov <- holding [v] (eval o X.env)
   let iv <- holding [v,ov] (eval i X.env)
   standAt pos
   holding [v,ov,iv] (setItem ov iv v)
   release [v,ov,iv] []):=by intro _;rfl):PG X (.Subscript o i pos) (Hf to ti t):=by
 intro pins s σ H v u Q I r h;rw [ha];refine zAw (wpAny_holding (thn (ho pins s σ H _ I h) fun ov s1 ⟨x,H1,I1,r1,q1⟩=>?_));refine zAw (wpAny_holding (thn (hi pins s1 σ H1 _ I1 q1) fun iv s2 ⟨y,H2,I2,r2,q2⟩=>?_));refine zAw (wpAny_standAt (zAw (wpAny_holding (thn (hs pins s2 σ H2 x y v ov iv u _ I2 r1 r2 r q2) fun _ s3 ⟨H3,I3,q3⟩=>?_))));exact wpAny_release ⟨σ,H3,I3,q3⟩
def vN (te:TE)(g:TG):TS:=fun D σ H=>te σ H fun x H1=>g x σ H1 D.nx
theorem cj {tg e:Expr}{te:TE}{g:TG}(he:PE X e te)(hg:PG X tg g)(hs:swapsWithSole [tg] e pos.line X.env=pure false:=by rfl)(hw:swappedStores [tg] e X.env=pure none:=by rfl)
  (h1:(assignEach [tg] X.env).map (·.2)=[assign tg X.env]:=by rfl):PS X (.Assign [tg] e pos) (vN te g):=by
 intro pins s σ H D I h;refine wpAny_Assign_stores (thn (he pins s σ H _ I h) fun v s1 ⟨x,H1,I1,r1,q1⟩=>?_) hs hw;rw [h1];exact thn (hg pins s1 σ H1 x v _ I1 r1 q1) fun _ s2 q=>q
theorem pM {i:Nat}{x:Str}{e:Expr}{te:TE}{pos':Pos}(hN:X.N.Nodup)(hi:X.N[i]?=some x)(hx:Loc X.env.scope x)(he:PE X e te)(hs:swapsWith e (some (.Name x pos')) pos.line X.env=pure false:=by rfl)(hf:X.fn x=true\/X.env.scope.names.lookup x=some .local:=by first | exact .inl rfl | exact .inr rfl | assumption) :
  PS X (.Assign [.Name x pos'] e pos) (vN te (bG i)):=by
 intro pins s σ H D I h;refine wpAny_Assign_Name (thn (he pins s σ H _ I h) fun v s1 ⟨y,H1,I1,r1,q1⟩=>?_) hs;exact gf I1 hN hi hx r1 (fun s2 I2=>⟨_,H1,I2,q1⟩) hf
def Hg (i j:Nat)(ta:TA):TS:=fun D σ H=>ta σ H fun vs H1=>∃ v w,vs=[v,w]/\D.nx ((σ.set i (some v)).set j (some w)) H1
theorem sY {i j:Nat}{x y:Str}{a b:Expr}{ta:TA}{px py pt:Pos}{kt k2 pt2}(hc:X.calm=true)(hN:X.N.Nodup)(hi:X.N[i]?=some x)(hj:X.N[j]?=some y)(ck:i≠j)
  (hx:X.env.scope.names.lookup x=some .local) (hy:X.env.scope.names.lookup y=some .local) (ha:PA X [a,b] ta)
  (hw:swappedStores [.Tuple [.Name x px,.Name y py] kt pt] (.Tuple [a,b] k2 pt2) X.env=pure (some [x,y]))
  (hs:swapsWithSole [.Tuple [.Name x px,.Name y py] kt pt] (.Tuple [a,b] k2 pt2) pos.line X.env=pure false:=by rfl) :
  PS X (.Assign [.Tuple [.Name x px,.Name y py] kt pt] (.Tuple [a,b] k2 pt2) pos) (Hg i j ta):=by
 intro pins s σ H D I h;rw [exec_Assign_arm];refine zAw (wpAny_standAt ?_);rw [hs];refine zAw (zB0 ?_);rw [zAu (by decide)];refine zAw (Tuple_ (thn (ha _ pins s σ H _ I h) fun us s1 ⟨vs,H1,I1,r1,q1⟩=>?_));obtain ⟨v,w,e1,q1⟩:=q1;subst e1
 obtain ⟨u1,u2,rfl,rv,fw⟩:∃ u1 u2,us=[u1,u2]/\RelV v u1/\RelV w u2:=by
  cases r1 with
  | cons p q =>
   cases q with
   | cons p' q' =>
    cases q';exact ⟨_,_,rfl,p,p'⟩
 refine wpAny_newObj_type ?_ (by show 2<=sizeLine;decide);have I2:Inv X pins σ H1 { s1 with heap:=s1.heap.push { cls:=.type "tuple",data:=.seq [u1,u2].toArray } }:=I1.kept (t':=s1.toks) fun b o e=>zAz _ e;rw [hw];refine zAw (zB0 ?_);show wpAny (model X.prog X.w) X.A (do rule "assign.swapped-stores";let items <- unpackItems (.ref s1.heap.objs.size) 2 none;assignInOrder [fun v=>bindName X.env y v,fun v=>bindName X.env x v] items.reverse;pure Flow.next) _ _ _;refine zAw (wpAny_rule (zAw (unpackItems_tuple (items:=#[u1,u2]) (I.ok.hd hc) (IsTup.new s1.heap _) fun h' fx=>?_)));have I3:=I2.kept (h':=h') (t':=s1.toks) fun b o e=>fx b o (zB4 (zAy e)) e;show wpAny _ _ (assignInOrder [fun v=>bindName X.env y v,fun v=>bindName X.env x v] [u2,u1] >>= fun _=>pure Flow.next) _ _ _;refine zAw (assignInOrder_cons (wpAny_bindName (gf I3 hN hj (.inl hy) fw (fun s2 I4=>?_) (.inr hy))));refine assignInOrder_cons (wpAny_bindName (gf I4 hN hi (.inl hx) rv (fun s3 I5=>assignInOrder_nil (zB0 ?_)) (.inr hx)));rw [List.set_comm _ _ (Ne.symm ck)] at I5;exact ⟨_,H1,I5,q1⟩
inductive TAugI (i:Nat)(te:TE)(ti:TIp)(D:Ends)(σ:St)(H:Hp):Prop
 | mk:∀ x,(σ[i]?=some (some x))->(te σ H fun y H1=>ti x y H1 fun z H2=>D.nx (σ.set i (some z)) H2)->TAugI i te ti D σ H
def Hh (i:Nat)(te:TE)(ti:TIp):TS:=fun D σ H=>TAugI i te ti D σ H
theorem kJ {i:Nat}{x:Str}{e:Expr}{te:TE}{op:Operator}{ti:TIp}{pos':Pos}(hN:X.N.Nodup)(hi:X.N[i]?=some x)(hx:Loc X.env.scope x)(he:PE X e te)(ho:PIp X op ti)(hf:X.fn x=true\/X.env.scope.names.lookup x=some .local:=by first | exact .inl rfl | exact .inr rfl | assumption) :
  PS X (.AugAssign (.Name x pos') op e pos) (Hh i te ti):=by
 intro pins s σ H D I h;obtain ⟨v,e1,h⟩:=h;obtain ⟨m,hn,hl⟩:=I.loc;have KN:Vis X.env.scope x:=by rcases hx with k | k;exact .inl k;exact .inr (.inl k)
 obtain ⟨u,r,l⟩:=hl i x v hi e1 KN;refine wpAny_AugAssign_Name ?_
 have go:wpAny (model X.prog X.w) X.A (eval e X.env) (fun w s₂=>wpAny (model X.prog X.w) X.A (inplaceOp op u w) (fun r s₃=>wpAny (model X.prog X.w) X.A (storeName X.env x r) (fun _=>SP X pins D .next) X.xe s₃) X.xe s₂) X.xe s:=by
  refine thn (he pins s σ H _ I h) fun w s1 ⟨y,H1,I1,r1,q1⟩=>?_;refine thn (ho pins s1 σ H1 v y u w _ I1 r r1 q1) fun z s2 ⟨zv,H2,I2,r2,q2⟩=>?_;exact gf I2 hN hi hx r2 (fun s3 I3=>⟨_,H2,I3,q2⟩) hf
 rcases l with ⟨hk,hm⟩ | ⟨hk,c,hc,hcell⟩
 ·exact wpAny_loadName_local I.ok.kind hk hn hm go
 ·rcases hk with hk | hk
  ·exact wpAny_loadName_cell I.ok.kind hk hc hcell go
  ·rcases hx with k | k
   ·have:X.env.scope.names.lookup x=some .free:=hk;rw [k] at this;cases this
   ·have:X.env.scope.names.lookup x=some .free:=hk;rw [k] at this;cases this
def Fd (to ti te:TE)(kR:V->V->Hp->VK->Prop)(AY:TIp)(kS:xK):TS:=fun D σ H=>to σ H fun o H1=>ti σ H1 fun i H2=>kR o i H2 fun x H3=>te σ H3 fun y H4=>AY x y H4 fun z H5=>kS o i z H5 fun H6=>D.nx σ H6
def Fe (X:Cx)(t:V->V->Hp->VK->Prop):Prop :=
 ∀ (pins:List (Addr×Obj)) (s:Shared) (σ:St) (H:Hp) (o i:V) (ov iv:Value) (Q:VK),Inv X pins σ H s->RelV o ov->RelV i iv->t o i H Q ->
  wpAny (model X.prog X.w) X.A (getItem ov iv) (EP X pins σ Q) X.xe s
theorem pN {o i e:Expr}{to ti te:TE}{kR:V->V->Hp->VK->Prop}{AY:TIp}{kS:xK}{op:Operator}{oD:Pos}(ho:PE X o to)(hi:PE X i ti)(hg:Fe X kR)(he:PE X e te)(hp:PIp X op AY)(hs:Dm X kS)
  (ha:∀ ov iv new,augStore i ov iv new=(do holding [new,ov,iv] (setItem ov iv new);release [new,ov,iv] [];pure .next):=by intros;rfl):PS X (.AugAssign (.Subscript o i oD) op e pos) (Fd to ti te kR AY kS):=by
 intro pins s σ H D I h;refine wpAny_AugAssign_SubscriptAny (thn (ho pins s σ H _ I h) fun ov s1 ⟨x1,H1,I1,r1,q1⟩=>?_) ha;refine thn (hi pins s1 σ H1 _ I1 q1) fun iv s2 ⟨x2,H2,I2,r2,q2⟩=>?_;refine thn (hg pins s2 σ H2 x1 x2 ov iv _ I2 r1 r2 q2) fun old s3 ⟨x3,H3,I3,r3,q3⟩=>?_;refine thn (he pins s3 σ H3 _ I3 q3) fun v s4 ⟨x4,H4,I4,r4,q4⟩=>?_;refine thn (hp pins s4 σ H4 x3 x4 old v _ I4 r3 r4 q4) fun new s5 ⟨x5,H5,I5,r5,q5⟩=>?_
 exact thn (hs pins s5 σ H5 x1 x2 x5 ov iv new _ I5 r1 r2 r5 q5) fun _ s6 ⟨H6,I6,q6⟩=>⟨σ,H6,I6,q6⟩
def ipI (f:Int->Int->Int):TIp:=fun x y H Q=>∃ i j,x=.int i/\y=.int j/\Q (.int (f i j)) H
theorem xM:PIp X .Add (ipI fun i j=>i+j):=by
 intro pins s σ H x y v u Q I r1 r2 h;obtain ⟨i,j,e1,e2,q⟩:=h;subst e1;subst e2;obtain ⟨t,rfl⟩:=r1;obtain ⟨t',rfl⟩:=r2;exact iadd_int ⟨.int _,H,I.tok _,⟨_,rfl⟩,q⟩
theorem xN:PIp X .Sub (ipI fun i j=>i - j):=by
 intro pins s σ H x y v u Q I r1 r2 h;obtain ⟨i,j,e1,e2,q⟩:=h;subst e1;subst e2;obtain ⟨t,rfl⟩:=r1;obtain ⟨t',rfl⟩:=r2;exact isub_int ⟨.int _,H,I.tok _,⟨_,rfl⟩,q⟩
end
section
variable {X:Cx}{pos:Pos}
end
structure It where
 go:Nat->Hp->Prop
 yld:Nat->Hp->V->Hp->Prop
 stop:Nat->Hp->Prop
def jJ (X:Cx)(pins:List (Addr×Obj))(H:Hp)(b:Addr):Prop :=
 H b=none/\b≠X.env.locals/\b ∉ X.fs/\(b∈X.ex\/X.s₀.heap.objs.size<=b)/\(∀ x c,X.env.cells.lookup x=some c->c≠b)/\∀ p∈X.pn++pins,p.1≠b
theorem Inv.fpOk {X:Cx}{pins:List (Addr×Obj)}{σ:St}{H H':Hp}{s:Shared}{b:Addr}(I:Inv X pins σ H s)(hb:s.heap.objs.size<=b)(hn:H' b=none):jJ X pins H' b:=by
 refine ⟨hn,Nat.ne_of_gt (zB2 I.lt hb),I.nofs hb,.inr (Nat.le_trans I.sz hb),fun x c e z=>?_,fun p hp z=>?_⟩
 ·obtain ⟨v,q⟩:=I.cell x c e;exact absurd (zB2 q.lt (by rw [z];exact hb)) (Nat.lt_irrefl _)
 ·exact absurd (zB2 (zAy (I.pin p hp).1) (by rw [z];exact hb)) (Nat.lt_irrefl _)
structure Turn (P:Program)(w:World)(K:PySem.W.Frag)(tg:Expr)(J:It)(fp:List Addr)(it:Addr)(tn:Nat->Heap->Prop):Prop where
 mem:it∈fp
 obj:∀ i h,tn i h->∀ b∈fp,∃ o,h.get? b=some o/\∀ v,o.data≠.cell v
 keep:∀ i h h',tn i h->(∀ b∈fp,∀ o,h.get? b=some o->h'.get? b=some o)->tn i h'
 item:∀ (X:Cx),X.prog=P->X.w=w->X.K=K->X.calm=true->∀ (i:Nat) (pins:List (Addr×Obj)) (s:Shared) (σ:St) (H:Hp) (E:Value->Shared->Prop),Inv X pins σ H s->(∀ b∈fp,jJ X pins H b)->tn i s.heap->J.go i H ->
  wpAny (model P w) X.A (pyNext (.ref it)) (fun r s1=>∃ u,r=some u /\
   wpAny (model P w) X.A (letOwnedTupleGo tg (.ref it) u) (fun _ s2=>∃ x H',Inv X pins σ H' s2/\RelV x u/\J.yld i H x H'/\tn (i+1) s2.heap/\∀ b∈fp,H' b=none) E s1) E s
 done:∀ (X:Cx),X.prog=P->X.w=w->X.K=K->X.calm=true->∀ (i:Nat) (pins:List (Addr×Obj)) (s:Shared) (σ:St) (H:Hp) (E:Value->Shared->Prop),Inv X pins σ H s->(∀ b∈fp,jJ X pins H b)->tn i s.heap->J.stop i H ->
  wpAny (model P w) X.A (pyNext (.ref it)) (fun r s1=>r=none/\Inv X pins σ H s1) E s
 self:∀ (A:Around) (i:Nat) (s:Shared) (Q:Value->Shared->Prop) (E:Value->Shared->Prop),tn i s.heap->Q (.ref it) s->wpAny (model P w) A (pyIter (.ref it)) Q E s
abbrev TI:=St->Hp->(It->Hp->Prop)->Prop
def PIE (X:Cx)(pins:List (Addr×Obj))(σ:St)(tg:Expr)(R:It->Hp->Prop)(vb:Value)(s2:Shared):Prop :=
 ∃ (it:Addr) (fp:List Addr) (tn:Nat->Heap->Prop) (J:It) (H':Hp),vb=.ref it/\Inv X pins σ H' s2/\Turn X.prog X.w X.K tg J fp it tn/\tn 0 s2.heap/\(∀ b∈fp,jJ X pins H' b)/\R J H'
def PI (X:Cx)(tg iter:Expr)(wi:TI):Prop :=
 ∀ (pins:List (Addr×Obj)) (s:Shared) (σ:St) (H:Hp) (R:It->Hp->Prop),Inv X pins σ H s->wi σ H R ->
  wpAny (model X.prog X.w) X.A (eval iter X.env) (fun v s1=>wpAny (model X.prog X.w) X.A (pyIter v) (PIE X pins σ tg R) X.xe s1) X.xe s
theorem qQ {M:Model}{A:Around}{E:Value->Shared->Prop}{s:Shared}{tg:Expr}{it:Addr}{u:Value}{o:Obj}{n:String}{vs:Array Value}{Q:Unit->Shared->Prop}(ho:s.heap.get? it=some o)(hc:o.cls=.type n)(hd:o.data=.fields vs)
  (hn:["enumerate","zip","dict_itemiterator","dict_reverseitemiterator","odict_iterator","itertools.zip_longest","itertools.pairwise"].contains n=false) (hQ:Q () s):wpAny M A (letOwnedTupleGo tg (.ref it) u) Q E s:=by
 unfold letOwnedTupleGo
 cases tg <;> first
  | exact zB0 hQ
  | (cases u <;> first
    | exact zB0 hQ
    | (refine zAw (wpAny_load ho ?_)
       rw [hc,hd];show wpAny M A (if (["enumerate","zip","dict_itemiterator","dict_reverseitemiterator","odict_iterator","itertools.zip_longest","itertools.pairwise"].contains n && vs[0]? == some (rawInt _))=true then _ else _) Q E s;rw [zAu (by intro h;rw [hn,Bool.false_and] at h;cases h)]
       exact zB0 hQ))
def Itl (K:PySem.W.Frag)(a:Addr):It :=
 ⟨fun i H=>∃ xs x,SqL K H a xs/\xs[i]?=some x,fun i H x H'=>H'=H/\∀ xs,SqL K H a xs->xs[i]?=some x,fun i H=>∃ xs,SqL K H a xs/\xs.length<=i⟩
def Itt (K:PySem.W.Frag)(a:Addr):It :=
 ⟨fun i H=>∃ xs x,SqT K H a xs/\xs[i]?=some x,fun i H x H'=>H'=H/\∀ xs,SqT K H a xs->xs[i]?=some x,fun i H=>∃ xs,SqT K H a xs/\xs.length<=i⟩
def Itr (lo:Int)(n:Nat):It:=⟨fun i _=>i < n,fun i H x H'=>H'=H/\x=.int (lo+i),fun i _=>n<=i⟩
theorem vO {P:Program}{w:World}{K:PySem.W.Frag}{tg:Expr}(a it:Addr):Turn P w K tg (Itl K a) [it] it (fun i h=>h.IsListIter it a i) where
 mem:=by simp
 obj:=fun i h st b hb=>by
  have e:b=it:=by simpa using hb
  subst e;obtain ⟨o,e,c,d⟩:=st;exact ⟨o,e,fun v z=>by rw [d] at z;cases z⟩
 keep:=fun i h h' st k=>st.at fun o e=>k it (by simp) o e
 item:=by
  intro X hP hw hK hc i pins s σ H E I hf st hg;subst hP hw hK;obtain ⟨xs,x,hq,hx⟩:=hg;obtain ⟨its,rv,p,hz⟩:=I.list hq;obtain ⟨u,hu,ru⟩:=rv.get hx;obtain ⟨f0,f1,f2,f3,f4,f5⟩:=hf it (by simp);refine wpAny_pyNext_list_item st p.isList (x:=u) (by simpa using hu) fun h' st' sb=>?_;have I1:Inv X pins σ H { s with heap:=h' }:=I.turned (t':=s.toks) (fun b o hb e=>(sb.2 b hb).trans e) f0 f1 f3 f4 f5;obtain ⟨o,e,c,d⟩:=id st';exact ⟨u,rfl,qQ (s:={ s with heap:=h' }) e c d (by decide) ⟨x,H,I1,ru,⟨rfl,fun ys hy=>by rw [I.list_inj hy hq];exact hx⟩,st',fun b hb=>(hf b hb).1⟩⟩
 done:=by
  intro X hP hw hK hc i pins s σ H E I hf st hg;subst hP hw hK;obtain ⟨xs,hq,hx⟩:=hg;obtain ⟨its,rv,p,hz⟩:=I.list hq;obtain ⟨f0,f1,f2,f3,f4,f5⟩:=hf it (by simp);have hl:=rv.length
  exact wpAny_pyNext_list_end (I.ok.hd hc) st p.isList (by simp;lia) fun h' eb=>⟨rfl,I.turned (t':=s.toks) (fun b o hb e=>eb b o hb e) f0 f1 f3 f4 f5⟩
 self:=fun _ _ _ _ _ st h=>wpAny_pyIter_listiter st h
theorem sZ {P:Program}{w:World}{K:PySem.W.Frag}{tg:Expr}(a it:Addr):Turn P w K tg (Itt K a) [it] it (fun i h=>h.IsTupleIter it a i) where
 mem:=by simp
 obj:=fun i h st b hb=>by
  have e:b=it:=by simpa using hb
  subst e;obtain ⟨o,e,c,d⟩:=st;exact ⟨o,e,fun v z=>by rw [d] at z;cases z⟩
 keep:=fun i h h' st k=>st.at fun o e=>k it (by simp) o e
 item:=by
  intro X hP hw hK hc i pins s σ H E I hf st hg;subst hP hw hK;obtain ⟨xs,x,hq,hx⟩:=hg;obtain ⟨its,rv,p,hz⟩:=I.tuple hq;obtain ⟨u,hu,ru⟩:=rv.get hx;obtain ⟨f0,f1,f2,f3,f4,f5⟩:=hf it (by simp);refine wpAny_pyNext_tuple_item st (show s.heap.IsTuple a its.toArray from p) (x:=u) (by simpa using hu) fun h' st' sb=>?_;have I1:Inv X pins σ H { s with heap:=h' }:=I.turned (t':=s.toks) (fun b o hb e=>(sb.2 b hb).trans e) f0 f1 f3 f4 f5;obtain ⟨o,e,c,d⟩:=id st';exact ⟨u,rfl,qQ (s:={ s with heap:=h' }) e c d (by decide) ⟨x,H,I1,ru,⟨rfl,fun ys hy=>by rw [I.tuple_inj hy hq];exact hx⟩,st',fun b hb=>(hf b hb).1⟩⟩
 done:=by
  intro X hP hw hK hc i pins s σ H E I hf st hg;subst hP hw hK;obtain ⟨xs,hq,hx⟩:=hg;obtain ⟨its,rv,p,hz⟩:=I.tuple hq;obtain ⟨f0,f1,f2,f3,f4,f5⟩:=hf it (by simp);have hl:=rv.length
  exact wpAny_pyNext_tuple_end (I.ok.hd hc) st (show s.heap.IsTuple a its.toArray from p) (by simp;lia) fun h' eb=>⟨rfl,I.turned (t':=s.toks) (fun b o hb e=>eb b o hb e) f0 f1 f3 f4 f5⟩
 self:=fun _ _ _ _ _ st h=>wpAny_pyIter_tupleiter st h
theorem tD {P:Program}{w:World}{K:PySem.W.Frag}{tg:Expr}(it:Addr)(lo:Int)(n:Nat):Turn P w K tg (Itr lo n) [it] it (fun i h=>IsRangeIter h it (lo+(i:Nat) * 1) ((n:Int) - (i:Nat)) 1) where
 mem:=by simp
 obj:=fun i h st b hb=>by
  have e:b=it:=by simpa using hb
  subst e
  exact ⟨_,st,fun v z=>by
   have z':Data.fields _=Data.cell v:=z
   cases z'⟩
 keep:=fun i h h' st k=>k it (by simp) _ st
 item:=by
  intro X hP hw hK hc i pins s σ H E I hf st hg;subst hP hw hK;obtain ⟨f0,f1,f2,f3,f4,f5⟩:=hf it (by simp);have W:=Walks.range (prog:=X.prog) (w:=X.w) (I.ok.hd hc) it lo 1 n;refine W.item i s _ _ hg st fun v h' tk hv st' kk=>?_;obtain ⟨t,rfl⟩:=hv;have I1:Inv X pins σ H { s with heap:=h',toks:=tk }:=I.turned (fun b o hb e=>kk b o (by simpa using hb) e) f0 f1 f3 f4 f5;refine ⟨_,rfl,qQ (s:={ s with heap:=h',toks:=tk }) (n:="range_iterator") st' rfl rfl (by decide) ⟨.int (lo+i),H,I1,⟨t,?_⟩,⟨rfl,rfl⟩,st',fun b hb=>(hf b hb).1⟩⟩;rw [Int.mul_one]
 done:=by
  intro X hP hw hK hc i pins s σ H E I hf st hg;subst hP hw hK;obtain ⟨f0,f1,f2,f3,f4,f5⟩:=hf it (by simp)
  exact wpAny_pyNext_range_end (I.ok.hd hc) st (by have:n<=i:=hg;lia) fun h' eb=>⟨rfl,I.turned (t':=s.toks) (fun b o hb e=>eb b o hb e) f0 f1 f3 f4 f5⟩
 self:=fun _ _ _ _ _ st h=>wpAny_pyIter_rangeiter st h
section
variable {X:Cx}{tg:Expr}
def Cp (K:PySem.W.Frag)(tl:TE):TI:=fun σ H R=>tl σ H fun x H1=>∃ a,x=.ref a/\(∃ xs,SqL K H1 a xs)/\R (Itl K a) H1
def Ff (K:PySem.W.Frag)(tl:TE):TI:=fun σ H R=>tl σ H fun x H1=>∃ a,x=.ref a/\(∃ xs,SqT K H1 a xs)/\R (Itt K a) H1
theorem dG {l:Expr}{tl:TE}(hl:PE X l tl):PI X tg l (Cp X.K tl):=by
 intro pins s σ H R I h;refine thn (hl pins s σ H _ I h) fun v s1 ⟨x,H1,I1,r1,q1⟩=>?_;obtain ⟨a,e,⟨xs,hq⟩,q⟩:=q1;subst e;cases r1;obtain ⟨its,rv,p,hz⟩:=I1.list hq;refine wpAny_pyIter_list p.isList ?_;refine ⟨s1.heap.objs.size,[s1.heap.objs.size],_,_,H1,rfl,I1.kept (t':=s1.toks) fun b o e=>Heap.get?_push_of_some _ e,vO a _,⟨_,Heap.get?_push_size _ rfl,rfl,rfl⟩,fun b hb=>?_,q⟩;have e:b=s1.heap.objs.size:=by simpa using hb
 subst e;exact I1.fpOk (zA3 _) (I1.hok.fresh (zA3 _))
theorem dM {l:Expr}{tl:TE}(hl:PE X l tl):PI X tg l (Ff X.K tl):=by
 intro pins s σ H R I h;refine thn (hl pins s σ H _ I h) fun v s1 ⟨x,H1,I1,r1,q1⟩=>?_;obtain ⟨a,e,⟨xs,hq⟩,q⟩:=q1;subst e;cases r1;obtain ⟨its,rv,p,hz⟩:=I1.tuple hq;refine wpAny_pyIter_tuple (show s1.heap.IsTuple a its.toArray from p) ?_;refine ⟨s1.heap.objs.size,[s1.heap.objs.size],_,_,H1,rfl,I1.kept (t':=s1.toks) fun b o e=>Heap.get?_push_of_some _ e,sZ a _,⟨_,Heap.get?_push_size _ rfl,rfl,rfl⟩,fun b hb=>?_,q⟩;have e:b=s1.heap.objs.size:=by simpa using hb
 subst e;exact I1.fpOk (zA3 _) (I1.hok.fresh (zA3 _))
theorem qR {pins:List (Addr×Obj)}{σ:St}{H:Hp}{s:Shared}{R:It->Hp->Prop}{E:Value->Shared->Prop}{lo hi:Int}{t u v:Tok}{tk:Nat}(I:Inv X pins σ H s)(h1:-(2 ^ 62)<=lo)(h2:lo < 2 ^ 62)(h3:-(2 ^ 62)<=hi)(h4:hi < 2 ^ 62)
  (q:R (Itr lo (hi - lo).toNat) H):wpAny (model X.prog X.w) X.A (pyIter (.ref s.heap.objs.size)) (PIE X pins σ tg R) E { s with heap:=s.heap.push { cls:=.type "range",data:=.fields #[.int lo t,.int hi u,.int 1 v] },toks:=tk }:=by
 refine wpAny_pyIter_range (IsRange.new ..) (small_one h1 h2 h3 h4) ?_;have I1:Inv X pins σ H { s with heap:=s.heap.push { cls:=.type "range",data:=.fields #[.int lo t,.int hi u,.int 1 v] },toks:=tk }:=I.kept fun b o e=>zAz _ e
 refine ⟨(s.heap.push { cls:=.type "range",data:=.fields #[.int lo t,.int hi u,.int 1 v] }).objs.size,[(s.heap.push { cls:=.type "range",data:=.fields #[.int lo t,.int hi u,.int 1 v] }).objs.size],_,_,H,rfl,
  I1.kept (t':=tk) fun b o e=>zAz _ e,tD _ lo (hi - lo).toNat,?_,fun b hb=>?_,q⟩
 ·have e1:lo+((0:Nat):Int) * 1=lo:=by simp
  have e2:(((hi - lo).toNat:Nat):Int) - ((0:Nat):Int)=Builtin.Range.rangeSize lo hi 1:=by rw [rangeSize_one];split <;> lia
  show IsRangeIter _ _ (lo+((0:Nat):Int) * 1) ((((hi - lo).toNat:Nat):Int) - ((0:Nat):Int)) 1;rw [e1,e2];exact zB3 _ rfl
 ·have e:b=(s.heap.push { cls:=.type "range",data:=.fields #[.int lo t,.int hi u,.int 1 v] }).objs.size:=by simpa using hb
  subst e;exact I1.fpOk (zA3 _) (I1.hok.fresh (zA3 _))
def Fg (ta:TA):TI:=fun σ H R=>ta σ H fun vs H1=>∃ j:Int,vs=[.int j]/\-(2 ^ 62)<=j/\j < 2 ^ 62/\R (Itr 0 j.toNat) H1
def Fi (ta:TA):TI:=fun σ H R=>ta σ H fun vs H1=>∃ i j:Int,vs=[.int i,.int j]/\(-(2 ^ 62)<=i/\i < 2 ^ 62/\-(2 ^ 62)<=j/\j < 2 ^ 62)/\R (Itr i (j - i).toNat) H1
theorem bN {a:Expr}{ta:TA}{p pos:Pos}(hg:Gl X "range")(hm:X.mg "range" = none)(ha:PA X [a] ta)(hs:starEach [a] X.env=[(false,eval a X.env)]:=by rfl):PI X tg (.Call (.Name "range" p) [a] [] pos) (Fg ta):=by
 intro pins s σ H R I h;refine Call_ (fP I hg hm boot_range (PyProof.Rows.callWith_type1 (thn (ha pos pins s σ H _ I h) fun us s1 ⟨vs,H1,I1,r1,q1⟩=>?_) hs rfl));obtain ⟨j,e,q1,q2,q⟩:=q1;subst e
 cases r1 with
 | cons r rr =>
  cases rr;obtain ⟨t,rfl⟩:=r;exact call_range_1 (qR I1 (by lia) (by lia) q1 q2 (by simpa using q))
theorem nY {a b:Expr}{ta:TA}{p pos:Pos}(hg:Gl X "range")(hm:X.mg "range" = none)(ha:PA X [a,b] ta)(hs:starEach [a,b] X.env=[(false,eval a X.env),(false,eval b X.env)]:=by rfl)(sL:starEach [b] X.env=[(false,eval b X.env)]:=by rfl) :
  PI X tg (.Call (.Name "range" p) [a,b] [] pos) (Fi ta):=by
 intro pins s σ H R I h;refine Call_ (fP I hg hm boot_range (PyProof.Rows.callWith_type1 (thn (ha pos pins s σ H _ I h) fun us s1 ⟨vs,H1,I1,r1,q1⟩=>?_) (by rw [hs,sL]) (by rw [sL];rfl)));obtain ⟨i,j,e,⟨q1,q2,q3,q4⟩,q⟩:=q1;subst e
 cases r1 with
 | cons r rr =>
  cases rr with
  | cons r' rr =>
   cases rr;obtain ⟨t,rfl⟩:=r;obtain ⟨t',rfl⟩:=r';exact call_range_2 (qR I1 q1 q2 q3 q4 q)
def Hk (wi:TI)(g:TG)(tb:TS):TS:=fun D σ H=>wi σ H fun J H1=>∃ W:Nat->Nat->St->Hp->Prop,(∃ m,W 0 m σ H1)/\∀ i m σ H,W i m σ H ->
 (J.stop i H/\D.nx σ H)\/(J.go i H/\∃ N:St->Hp->Prop,(∀ ai H',N ai H'->∃ m',m' < m/\W (i+1) m' ai H')/\∀ x H',J.yld i H x H'->g x σ H' fun ba H2=>tb { D with nx:=N,ct:=N,bk:=D.nx } ba H2)
def ji (fp:List Addr)(h:Heap):List (Addr×Obj):=fp.filterMap fun b=>(h.get? b).map fun o=>(b,o)
theorem dC {fp:List Addr}{h:Heap}{b:Addr}{o:Obj}(hb:b∈fp)(e:h.get? b=some o):(b,o)∈ji fp h:=List.mem_filterMap.mpr ⟨b,hb,by rw [e];rfl⟩
theorem vP {fp:List Addr}{h:Heap}{p:Addr×Obj}(hp:p∈ji fp h):p.1∈fp/\h.get? p.1=some p.2:=by
 obtain ⟨b,hb,e⟩:=List.mem_filterMap.mp hp
 cases q:h.get? b with
 | none=>rw [q] at e;cases e
 | some o =>
  rw [q] at e;have e':(b,o)=p:=zAl e;subst e';exact ⟨hb,q⟩
theorem Inv.pinned {pins:List (Addr×Obj)}{σ:St}{H:Hp}{s:Shared}{fp:List Addr}(I:Inv X pins σ H s)(hf:∀ b∈fp,jJ X pins H b)(ho:∀ b∈fp,∃ o,s.heap.get? b=some o/\∀ v,o.data≠.cell v):Inv X (pins++ji fp s.heap) σ H s :=
 I.pins_of fun p hp=>(zA6.mp hp).elim (fun z=>I.pin p (zBb _ z)) fun z=>by
  obtain ⟨hb,e⟩:=vP z;obtain ⟨f0,f1,f2,_⟩:=hf p.1 hb;obtain ⟨o,e',d⟩:=ho p.1 hb;rw [e] at e';cases e';exact ⟨e,f0,f1,f2,d⟩
theorem Inv.unpinned {pins pl:List (Addr×Obj)}{σ:St}{H:Hp}{s:Shared}(I:Inv X (pins++pl) σ H s):Inv X pins σ H s:=I.pins_of fun p hp=>I.pin p (zBb _ (List.mem_append_left _ hp))
theorem cV {iter:Expr}{body:List Stmt}{wi:TI}{g:TG}{tb:TS}{pos:Pos}(hp:PassesOwn (model X.prog X.w) X.A X.env X.xe)(hc:X.calm=true)(hi:PI X tg iter wi)(hg:PG X tg g)(hb:PSs X body tb)
  (hs:∀ x,foldedSetIterable iter X.env x=pure x:=by intro _;rfl):PS X (.For tg iter body [] pos) (Hk wi g tb):=by
 intro pins s σ H D I h;refine wpAny_For (thn (hi pins s σ H _ I h) fun v s1 h1=>thn h1 fun vb s2 h2=>?_) hs;obtain ⟨it,fp,tn,J,H2,e,I2,T,st2,f2,W,⟨m0,w0⟩,turn⟩:=h2;subst e
 have oI:∀ {H':Hp},(∀ b∈fp,H' b=none)->∀ b∈fp,jJ X pins H' b:=fun hn b hb=>⟨hn b hb,(f2 b hb).2⟩
 refine codeAny_forLoop_any (fun n s'=>∃ i ai H',Inv X pins ai H' s'/\tn i s'.heap/\(∀ b∈fp,H' b=none)/\W i n ai H') ?_ m0 ⟨0,σ,H2,I2,st2,fun b hb=>(f2 b hb).1,w0⟩;rintro n s3 ⟨i,fy,H3,I3,fz,mI,w3⟩;rcases turn i n fy H3 w3 with ⟨stop,qn⟩ | ⟨go,N,hN,step⟩
 ·refine wpAny_passesOwn hp (thn (T.done X rfl rfl rfl hc i pins s3 fy H3 X.xe I3 (oI mI) fz stop) fun r s4 ⟨hr,I4⟩=>?_);subst hr;exact wpAny_execs_nil ⟨fy,H3,I4,qn⟩
 ·refine wpAny_passesOwn hp (thn (T.item X rfl rfl rfl hc i pins s3 fy H3 X.xe I3 (oI mI) fz go) fun r s4 ⟨u,hr,h4⟩=>?_);subst hr;refine wpAny_passesOwn hp (thn h4 fun _ s5 ⟨x,H5,I5,r5,y5,iP,vc⟩=>?_);have ve:=I5.pinned (oI vc) (T.obj _ _ iP);refine wpAny_passesOwn hp (thn (hg _ s5 fy H5 x u _ ve r5 (step x H5 y5)) fun _ s6 ⟨fA,H6,I6,q6⟩=>?_);refine wpAny_passesOwn hp (thn (hb _ s6 fA H6 _ I6 q6) fun f s7 q7=>?_)
  have again:∀ {iS:St} {H7:Hp},Inv X (pins++ji fp s5.heap) iS H7 s7->N iS H7->∃ m,m < n/\∃ i ai H',Inv X pins ai H' s7/\tn i s7.heap/\(∀ b∈fp,H' b=none)/\W i m ai H':=fun {iS H7} I7 n7=>by
   obtain ⟨m',hm,w7⟩:=hN iS H7 n7;refine ⟨m',hm,i+1,iS,H7,I7.unpinned,T.keep _ _ _ iP fun b hb o e=>(I7.pin (b,o) (zBb _ (zBb _ (dC hb e)))).1,fun b hb=>?_,w7⟩;obtain ⟨o,e,d⟩:=T.obj _ _ iP b hb;exact (I7.pin (b,o) (zBb _ (zBb _ (dC hb e)))).2.1
  cases f with
  | next=>obtain ⟨iS,H7,I7,n7⟩:=q7;exact again I7 n7
  | cont=>obtain ⟨iS,H7,I7,n7⟩:=q7;exact again I7 n7
  | brk=>obtain ⟨iS,H7,I7,q7⟩:=q7;exact ⟨iS,H7,I7.unpinned,q7⟩
  | ret v=>obtain ⟨x7,iS,H7,I7,r7,q7⟩:=q7;exact ⟨x7,iS,H7,I7.unpinned,r7,q7⟩
end
theorem kW {K:PySem.W.Frag}{a:Addr}{xs:List V}{g:TG}{tb:TS}{D:Ends}{σ:St}{H:Hp}(Pv:Nat->St->Hp->Prop)(h0:Pv 0 σ H)(hl:∀ i σ H,i<=xs.length->Pv i σ H->SqL K H a xs)
  (hs:∀ i x σ H,xs[i]?=some x->Pv i σ H->g x σ H fun ba H2=>tb { D with nx:=Pv (i+1),ct:=Pv (i+1),bk:=D.nx } ba H2) (hd:∀ σ H,Pv xs.length σ H->D.nx σ H) :
  ∃ W:Nat->Nat->St->Hp->Prop,(∃ m,W 0 m σ H)/\∀ i m σ H,W i m σ H ->
   ((Itl K a).stop i H/\D.nx σ H)\/((Itl K a).go i H/\∃ N:St->Hp->Prop,(∀ ai H',N ai H'->∃ m',m' < m/\W (i+1) m' ai H')/\∀ x H',(Itl K a).yld i H x H'->g x σ H' fun ba H2=>tb { D with nx:=N,ct:=N,bk:=D.nx } ba H2):=by
 refine ⟨fun i m σ H=>m=xs.length - i/\i<=xs.length/\Pv i σ H,⟨xs.length,by simp,Nat.zero_le _,h0⟩,?_⟩;rintro i m σ H ⟨rfl,hi,p⟩;have q:=hl i σ H hi p;by_cases aT:i < xs.length
 ·refine .inr ⟨⟨xs,xs[i],q,by simp [aT]⟩,Pv (i+1),fun ai H' p'=>⟨xs.length - (i+1),by lia,rfl,aT,p'⟩,fun x H' y=>?_⟩;obtain ⟨e,y⟩:=y;subst e;exact hs i x σ _ (y xs q) p
 ·have e:i=xs.length:=by lia
  subst e;exact .inl ⟨⟨xs,q,zA3 _⟩,hd σ H p⟩
theorem Ah {K:PySem.W.Frag}{a:Addr}{xs:List V}{g:TG}{tb:TS}{D:Ends}{σ:St}{H:Hp}(Pv:Nat->St->Hp->Prop)(h0:Pv 0 σ H)(hl:∀ i σ H,i<=xs.length->Pv i σ H->SqT K H a xs)
  (hs:∀ i x σ H,xs[i]?=some x->Pv i σ H->g x σ H fun ba H2=>tb { D with nx:=Pv (i+1),ct:=Pv (i+1),bk:=D.nx } ba H2) (hd:∀ σ H,Pv xs.length σ H->D.nx σ H) :
  ∃ W:Nat->Nat->St->Hp->Prop,(∃ m,W 0 m σ H)/\∀ i m σ H,W i m σ H ->
   ((Itt K a).stop i H/\D.nx σ H)\/((Itt K a).go i H/\∃ N:St->Hp->Prop,(∀ ai H',N ai H'->∃ m',m' < m/\W (i+1) m' ai H')/\∀ x H',(Itt K a).yld i H x H'->g x σ H' fun ba H2=>tb { D with nx:=N,ct:=N,bk:=D.nx } ba H2):=by
 refine ⟨fun i m σ H=>m=xs.length - i/\i<=xs.length/\Pv i σ H,⟨xs.length,by simp,Nat.zero_le _,h0⟩,?_⟩;rintro i m σ H ⟨rfl,hi,p⟩;have q:=hl i σ H hi p;by_cases aT:i < xs.length
 ·refine .inr ⟨⟨xs,xs[i],q,by simp [aT]⟩,Pv (i+1),fun ai H' p'=>⟨xs.length - (i+1),by lia,rfl,aT,p'⟩,fun x H' y=>?_⟩;obtain ⟨e,y⟩:=y;subst e;exact hs i x σ _ (y xs q) p
 ·have e:i=xs.length:=by lia
  subst e;exact .inl ⟨⟨xs,q,zA3 _⟩,hd σ H p⟩
theorem dW {lo:Int}{n:Nat}{g:TG}{tb:TS}{D:Ends}{σ:St}{H:Hp}(Pv:Nat->St->Hp->Prop)(h0:Pv 0 σ H)
  (hs:∀ i σ H,i < n->Pv i σ H->g (.int (lo+i)) σ H fun ba H2=>tb { D with nx:=Pv (i+1),ct:=Pv (i+1),bk:=D.nx } ba H2) (hd:∀ σ H,Pv n σ H->D.nx σ H) :
  ∃ W:Nat->Nat->St->Hp->Prop,(∃ m,W 0 m σ H)/\∀ i m σ H,W i m σ H ->
   ((Itr lo n).stop i H/\D.nx σ H)\/((Itr lo n).go i H/\∃ N:St->Hp->Prop,(∀ ai H',N ai H'->∃ m',m' < m/\W (i+1) m' ai H')/\∀ x H',(Itr lo n).yld i H x H'->g x σ H' fun ba H2=>tb { D with nx:=N,ct:=N,bk:=D.nx } ba H2):=by
 refine ⟨fun i m σ H=>m=n - i/\i<=n/\Pv i σ H,⟨n,by simp,Nat.zero_le _,h0⟩,?_⟩;rintro i m σ H ⟨rfl,hi,p⟩;by_cases aT:i < n
 ·refine .inr ⟨aT,Pv (i+1),fun ai H' p'=>⟨n - (i+1),by lia,rfl,aT,p'⟩,fun x H' y=>?_⟩;obtain ⟨e,y⟩:=y;subst e y;exact hs i σ _ aT p
 ·have e:i=n:=by lia
  subst e;exact .inl ⟨zA3 _,hd σ H p⟩
abbrev R2:=V->V->Hp->VK->Prop
def OpR (X:Cx)(f:Value->Value->Sem Value)(r:R2):Prop :=
 ∀ (pins:List (Addr×Obj)) (s:Shared) (σ:St) (H:Hp) (x y:V) (v u:Value) (Q:VK),Inv X pins σ H s->RelV x v->RelV y u->r x y H Q ->
  wpAny (model X.prog X.w) X.A (f v u) (EP X pins σ Q) X.xe s
def UnR (X:Cx)(f:Value->Sem Value)(r:V->Hp->VK->Prop):Prop :=
 ∀ (pins:List (Addr×Obj)) (s:Shared) (σ:St) (H:Hp) (x:V) (v:Value) (Q:VK),Inv X pins σ H s->RelV x v->r x H Q ->
  wpAny (model X.prog X.w) X.A (f v) (EP X pins σ Q) X.xe s
def du (X:Cx)(f:Value)(r:List V->Hp->VK->Prop):Prop :=
 ∀ (pins:List (Addr×Obj)) (s:Shared) (σ:St) (H:Hp) (xs:List V) (us:List Value) (Q:VK),Inv X pins σ H s->Vals xs us->r xs H Q ->
  wpAny (model X.prog X.w) X.A (call f us) (EP X pins σ Q) X.xe s
def tOp (r:R2)(ta tb:TE):TE:=fun σ H Q=>ta σ H fun x H1=>tb σ H1 fun y H2=>r x y H2 Q
def tUn (r:V->Hp->VK->Prop)(ta:TE):TE:=fun σ H Q=>ta σ H fun x H1=>r x H1 Q
inductive RII (C:Int->Int->Prop)(g:Int->Int->V)(x:V)(y:V)(H:Hp)(Q:VK):Prop
 | mk:∀ i j,(x=.int i)->(y=.int j)->(C i j)->(Q (g i j) H)->RII C g x y H Q
def rI (C:Int->Int->Prop)(g:Int->Int->V):R2:=fun x y H Q=>RII C g x y H Q
inductive RI0I (g:Int->Int->V)(x:V)(y:V)(H:Hp)(Q:VK):Prop
 | mk:∀ i j,(x=.int i)->(y=.int j)->(Q (g i j) H)->RI0I g x y H Q
def rI0 (g:Int->Int->V):R2:=fun x y H Q=>RI0I g x y H Q
inductive RUI (g:Int->V)(x:V)(H:Hp)(Q:VK):Prop
 | mk:∀ i,(x=.int i)->(Q (g i) H)->RUI g x H Q
def rU (g:Int->V):V->Hp->VK->Prop:=fun x H Q=>RUI g x H Q
section
variable {X:Cx}{a b c:Expr}{ta tb tc:TE}{pos:Pos}
theorem Dn (ha:PE X a ta)(hb:PE X b tb){pins:List (Addr×Obj)}{s:Shared}{σ:St}{H:Hp}{R:V->V->Hp->Prop}(I:Inv X pins σ H s)
  (h:ta σ H fun x H1=>tb σ H1 fun y H2=>R x y H2) {Q:Value->Shared->Prop} {f:Value->Value->Sem Value}
  (hf:∀ v u s2 x y H2,Inv X pins σ H2 s2->RelV x v->RelV y u->R x y H2->wpAny (model X.prog X.w) X.A (f v u) Q X.xe s2) :
  wpAny (model X.prog X.w) X.A (eval a X.env) (fun v s₁=>wpAny (model X.prog X.w) X.A (eval b X.env) (fun u s₂=>wpAny (model X.prog X.w) X.A (f v u) Q X.xe s₂) X.xe s₁) X.xe s:=by
 refine thn (ha pins s σ H _ I h) fun v s1 ⟨x,H1,I1,r1,q1⟩=>?_;refine thn (hb pins s1 σ H1 _ I1 q1) fun u s2 ⟨y,H2,I2,r2,q2⟩=>?_;exact hf v u s2 x y H2 I2 r1 r2 q2
theorem aV {op:Operator}{r:R2}(ho:OpR X (binaryOp op) r)(ha:PE X a ta)(hb:PE X b tb):PE X (.BinOp a op b pos) (tOp r ta tb):=by
 intro pins s σ H Q I h;exact wpAny_BinOp (Dn ha hb I h fun v u s2 x y H2 I2 rx ry q=>ho pins s2 σ H2 x y v u Q I2 rx ry q)
theorem xO {op:UnaryOp}{r:V->Hp->VK->Prop}(ho:UnR X (unaryOp op) r)(ha:PE X a ta):PE X (.UnaryOp op a pos) (tUn r ta):=by
 intro pins s σ H Q I h;exact UnaryOp_ (thn (ha pins s σ H _ I h) fun v s1 ⟨x,H1,I1,r1,q1⟩=>ho pins s1 σ H1 x v Q I1 r1 q1)
theorem opI {f:Value->Value->Sem Value}{C:Int->Int->Prop}{g:Int->Int->Int}
  (rule:∀ (i j:Int) (t u:Tok) (s:Shared) (Q:Value->Shared->Prop) (E:Value->Shared->Prop),C i j->Q (.int (g i j) s.toks) { s with toks:=s.toks+1 }->wpAny (model X.prog X.w) X.A (f (.int i t) (.int j u)) Q E s) :
  OpR X f (rI C fun i j=>.int (g i j)):=by
 intro pins s σ H x y v u Q I rx ry h;obtain ⟨i,j,rfl,rfl,hc,q⟩:=h;obtain ⟨t,rfl⟩:=rx;obtain ⟨t',rfl⟩:=ry;exact rule i j t t' s _ _ hc ⟨.int (g i j),H,I.tok _,⟨_,rfl⟩,q⟩
theorem Fj {f:Value->Value->Sem Value}{g:Int->Int->Int}
  (rule:∀ (i j:Int) (t u:Tok) (s:Shared) (Q:Value->Shared->Prop) (E:Value->Shared->Prop),Q (.int (g i j) s.toks) { s with toks:=s.toks+1 }->wpAny (model X.prog X.w) X.A (f (.int i t) (.int j u)) Q E s) :
  OpR X f (rI0 fun i j=>.int (g i j)):=by
 intro pins s σ H x y v u Q I rx ry h;obtain ⟨i,j,rfl,rfl,q⟩:=h;obtain ⟨t,rfl⟩:=rx;obtain ⟨t',rfl⟩:=ry;exact rule i j t t' s _ _ ⟨.int (g i j),H,I.tok _,⟨_,rfl⟩,q⟩
theorem Ai {f:Value->Value->Sem Value}{g:Int->Int->Bool}
  (rule:∀ (i j:Int) (t u:Tok) (s:Shared) (Q:Value->Shared->Prop) (E:Value->Shared->Prop),Q (.bool (g i j)) s->wpAny (model X.prog X.w) X.A (f (.int i t) (.int j u)) Q E s) :
  OpR X f (rI0 fun i j=>.bl (g i j)):=by
 intro pins s σ H x y v u Q I rx ry h;obtain ⟨i,j,rfl,rfl,q⟩:=h;obtain ⟨t,rfl⟩:=rx;obtain ⟨t',rfl⟩:=ry;exact rule i j t t' s _ _ ⟨.bl (g i j),H,I,rfl,q⟩
def Hl (i j:Int):Prop:=0 < j/\j < 1073741824
def Hm (i j:Int):Prop:=0<=j/\j<=1000000/\i.natAbs < 2 ^ 64
def CMul (i j:Int):Prop:=(-(2 ^ 64) < i/\i < 2 ^ 64)\/(-(2 ^ 64) < j/\j < 2 ^ 64)
theorem CMul.ok {i j:Int}(h:CMul i j):IntMulOk i j:=by
 rcases h with ⟨h1,h2⟩ | ⟨h1,h2⟩
 ·exact .of_left (intBits_le_64 h1 h2)
 ·exact .of_right (intBits_le_64 h1 h2)
theorem bC:OpR X (binaryOp .Add) (rI0 fun i j=>.int (i+j)):=Fj fun _ _ _ _ _ _ _ q=>add_int q
theorem cJ:OpR X (binaryOp .Sub) (rI0 fun i j=>.int (i - j)):=Fj fun _ _ _ _ _ _ _ q=>sub_int q
theorem fQ:OpR X (binaryOp .Mult) (rI CMul fun i j=>.int (i * j)):=opI fun _ _ _ _ _ _ _ hc q=>mul_int q hc.ok
theorem jQ:OpR X (binaryOp .FloorDiv) (rI Hl fun i j=>.int (i / j)):=opI fun i j _ _ _ _ _ hc q=>by
 have h1:(0:Int) < j:=hc.1;have h2:j < 1073741824:=hc.2;exact floordiv_int (by lia) (by rw [Int.fdiv_eq_ediv_of_nonneg i (by lia)];exact q) (.inl (PyProof.noPylong_small (by lia)))
theorem ig:OpR X (binaryOp .Mod) (rI (fun _ j=>0 < j) fun i j=>.int (i % j)):=opI fun i j _ _ _ _ _ hc q=>by
 have h1:(0:Int) < j:=hc;exact mod_int' (by lia) (by rw [Int.fmod_eq_emod_of_nonneg i (by lia)];exact q)
theorem Do:OpR X (binaryOp .Pow) (rI Hm fun i j=>.int (i ^ j.toNat)):=opI fun _ _ _ _ _ _ _ hc q=>pow_int_small hc.1 hc.2.1 hc.2.2 q
theorem unI {f:Value->Sem Value}{g:Int->Int}
  (rule:∀ (i:Int) (t:Tok) (s:Shared) (Q:Value->Shared->Prop) (E:Value->Shared->Prop),Q (.int (g i) s.toks) { s with toks:=s.toks+1 }->wpAny (model X.prog X.w) X.A (f (.int i t)) Q E s) :
  UnR X f (rU fun i=>.int (g i)):=by
 intro pins s σ H x v Q I rx h;obtain ⟨i,rfl,q⟩:=h;obtain ⟨t,rfl⟩:=rx;exact rule i t s _ _ ⟨.int (g i),H,I.tok _,⟨_,rfl⟩,q⟩
theorem tE:UnR X (unaryOp .USub) (rU fun i=>.int (-i)):=unI fun _ _ _ _ _ q=>neg_int q
end
def Fl:V->V->Bool
 | .non,.non=>true | .non,.int _=>true | .int _,.non=>true | .non,.bl _=>true | .bl _,.non=>true | .non,.str _=>true | .str _,.non=>true
 | .int _,.int _=>true | .bl _,.bl _=>true | .str _,.str _=>true | .byt _,.byt _=>true
 | .int _,.str _=>true | .str _,.int _=>true | .bl _,.str _=>true | .str _,.bl _=>true
 | _,_=>false
def rEq:R2:=fun x y H Q=>Fl x y=true/\Q (.bl (decide (x=y))) H
def rNe:R2:=fun x y H Q=>Fl x y=true/\Q (.bl (!decide (x=y))) H
theorem ur {i j:Int}:decide (V.int i=V.int j)=(i == j):=by
 rw [Bool.eq_iff_iff];simp
theorem xP {i j:Bool}:decide (V.bl i=V.bl j)=(i == j):=by
 rw [Bool.eq_iff_iff];simp
theorem ut {i j:Str}:decide (V.str i=V.str j)=(i == j):=by
 rw [Bool.eq_iff_iff];simp
theorem uv {i j:Array UInt8}:decide (V.byt i=V.byt j)=(i.toList == j.toList):=by
 rw [Bool.eq_iff_iff];cases i;cases j;simp
section
variable {X:Cx}{a b c:Expr}{ta tb tc:TE}{pos:Pos}
theorem bD {pins:List (Addr×Obj)}{σ:St}{H:Hp}{s:Shared}{Q:VK}{k k':Bool}(I:Inv X pins σ H s)(q:Q (.bl k) H)(e:k=k'):EP X pins σ Q (.bool k') s:=by
 subst e;exact ⟨.bl k,H,I,rfl,q⟩
theorem kY:OpR X (compareOp .Eq) rEq:=by
 intro pins s σ H x y v u Q I rx ry h;obtain ⟨hs,q⟩:=h
 cases x with
 | non =>
  cases rx
  cases y with
  | non=>cases ry;exact PySem.EqNone.eq_none_none (bD I q (by simp))
  | bl j=>cases ry;exact PySem.EqNone.eq_none_bool (bD I q (by simp))
  | int j=>obtain ⟨t',rfl⟩:=ry;exact PySem.EqNone.eq_none_int (bD I q (by simp))
  | str j=>obtain ⟨t',rfl⟩:=ry;exact PySem.EqNone.eq_none_str (bD I q (by simp))
  | _=>exact absurd (show false=true from hs) zAg
 | bl i =>
  cases rx
  cases y with
  | non=>cases ry;exact PySem.EqNone.eq_bool_none (bD I q (by simp))
  | bl j=>cases ry;exact eq_bool (bD I q xP)
  | str j=>obtain ⟨t',rfl⟩:=ry;exact PySem.EqMixed.eq_bool_str (bD I q (by simp))
  | _=>exact absurd (show false=true from hs) zAg
 | int i =>
  obtain ⟨t,rfl⟩:=rx
  cases y with
  | non=>cases ry;exact PySem.EqNone.eq_int_none (bD I q (by simp))
  | int j=>obtain ⟨t',rfl⟩:=ry;exact eq_int (bD I q ur)
  | str j=>obtain ⟨t',rfl⟩:=ry;exact PySem.EqMixed.eq_int_str (bD I q (by simp))
  | _=>exact absurd (show false=true from hs) zAg
 | str i =>
  obtain ⟨t,rfl⟩:=rx
  cases y with
  | non=>cases ry;exact PySem.EqNone.eq_str_none (bD I q (by simp))
  | bl j=>cases ry;exact PySem.EqMixed.eq_str_bool (bD I q (by simp))
  | int j=>obtain ⟨t',rfl⟩:=ry;exact PySem.EqMixed.eq_str_int (bD I q (by simp))
  | str j=>obtain ⟨t',rfl⟩:=ry;exact eq_str (bD I q ut)
  | _=>exact absurd (show false=true from hs) zAg
 | byt i =>
  obtain ⟨t,rfl⟩:=rx
  cases y with
  | byt j=>obtain ⟨t',rfl⟩:=ry;exact PySem.W.eq_bytes (bD I q uv)
  | _=>exact absurd (show false=true from hs) zAg
 | _=>cases y <;> exact absurd (show false=true from hs) zAg
theorem Fo:OpR X (compareOp .NotEq) rNe:=by
 intro pins s σ H x y v u Q I rx ry h;obtain ⟨hs,q⟩:=h
 cases x with
 | non =>
  cases rx
  cases y with
  | non=>cases ry;exact PySem.EqNone.ne_none_none (bD I q (by simp))
  | bl j=>cases ry;exact PySem.EqNone.ne_none_bool (bD I q (by simp))
  | int j=>obtain ⟨t',rfl⟩:=ry;exact PySem.EqNone.ne_none_int (bD I q (by simp))
  | str j=>obtain ⟨t',rfl⟩:=ry;exact PySem.EqNone.ne_none_str (bD I q (by simp))
  | _=>exact absurd (show false=true from hs) zAg
 | bl i =>
  cases rx
  cases y with
  | non=>cases ry;exact PySem.EqNone.ne_bool_none (bD I q (by simp))
  | bl j=>cases ry;exact ne_bool (bD I q (congrArg not xP))
  | str j=>obtain ⟨t',rfl⟩:=ry;exact PySem.EqMixed.ne_bool_str (bD I q (by simp))
  | _=>exact absurd (show false=true from hs) zAg
 | int i =>
  obtain ⟨t,rfl⟩:=rx
  cases y with
  | non=>cases ry;exact PySem.EqNone.ne_int_none (bD I q (by simp))
  | int j=>obtain ⟨t',rfl⟩:=ry;exact ne_int (bD I q (congrArg not ur))
  | str j=>obtain ⟨t',rfl⟩:=ry;exact PySem.EqMixed.ne_int_str (bD I q (by simp))
  | _=>exact absurd (show false=true from hs) zAg
 | str i =>
  obtain ⟨t,rfl⟩:=rx
  cases y with
  | non=>cases ry;exact PySem.EqNone.ne_str_none (bD I q (by simp))
  | bl j=>cases ry;exact PySem.EqMixed.ne_str_bool (bD I q (by simp))
  | int j=>obtain ⟨t',rfl⟩:=ry;exact PySem.EqMixed.ne_str_int (bD I q (by simp))
  | str j=>obtain ⟨t',rfl⟩:=ry;exact ne_str (bD I q (congrArg not ut))
  | _=>exact absurd (show false=true from hs) zAg
 | byt i =>
  obtain ⟨t,rfl⟩:=rx
  cases y with
  | byt j=>obtain ⟨t',rfl⟩:=ry;exact PySem.W.ne_bytes (bD I q (congrArg not uv))
  | _=>exact absurd (show false=true from hs) zAg
 | _=>cases y <;> exact absurd (show false=true from hs) zAg
theorem gh:OpR X (compareOp .Lt) (rI0 fun i j=>.bl (decide (i < j))):=Ai fun _ _ _ _ _ _ _ q=>lt_int q
theorem bY:OpR X (compareOp .LtE) (rI0 fun i j=>.bl (decide (i<=j))):=Ai fun _ _ _ _ _ _ _ q=>le_int q
theorem gW:OpR X (compareOp .Gt) (rI0 fun i j=>.bl (decide (j < i))):=Ai fun _ _ _ _ _ _ _ q=>gt_int q
theorem Cq:OpR X (compareOp .GtE) (rI0 fun i j=>.bl (decide (j<=i))):=Ai fun _ _ _ _ _ _ _ q=>ge_int q
theorem xQ:OpR X (compareOp .Is) (fun x y H Q=>y=.non/\Q (.bl (decide (x=.non))) H):=by
 intro pins s σ H x y v u Q I rx ry h;obtain ⟨rfl,q⟩:=h;cases ry;refine is_none_gen (bD I q ?_)
 cases x <;> first
  | (cases rx;rfl)
  | (obtain ⟨t,rfl⟩:=rx;rfl)
theorem bF (b:Expr){op:CmpOp}(h:op≠.In:=by decide)(h2:op≠.NotIn:=by decide):behindInMarks op b=false:=by
 have e1:(op == CmpOp.In)=false:=by cases op <;> first | rfl | exact absurd rfl h
 have e2:(op == CmpOp.NotIn)=false:=by cases op <;> first | rfl | exact absurd rfl h2
 cases b <;> simp [behindInMarks,e1,e2]
theorem jR {op:CmpOp}{r:R2}(ho:OpR X (compareOp op) r)(ha:PE X a ta)(hb:PE X b tb)(hm:behindInMarks op b=false):PE X (.Compare a [op] [b] pos) (tOp r ta tb):=by
 intro pins s σ H Q I h;exact wpAny_Compare1 (Dn ha hb I h fun v u s2 x y H2 I2 rx ry q=>ho pins s2 σ H2 x y v u Q I2 rx ry q) hm
def Cr (t:TE):TT:=fun σ H Q=>t σ H fun x H'=>∃ k,x=.bl k/\Q k H'
theorem bw {op:CmpOp}{r:R2}(ho:OpR X (compareOp op) r)(ha:PE X a ta)(hb:PE X b tb)(hm:behindInMarks op b=false):PT X (.Compare a [op] [b] pos) (Cr (tOp r ta tb)):=by
 intro pins s σ H Q I h
 refine wpAny_isTrue_Compare1 (thn (ha pins s σ H _ I h) fun v s1 ⟨x,H1,I1,r1,q1⟩=>thn (hb pins s1 σ H1 _ I1 q1) fun u s2 ⟨y,H2,I2,r2,q2⟩ =>
  thn (ho pins s2 σ H2 x y v u _ I2 r1 r2 q2) fun c s3 ⟨z,H3,I3,r3,k,e,q3⟩=>?_) hm
 subst e;cases r3;exact wpAny_truthy_bool ⟨H3,I3,q3⟩
def tG (r r':R2)(ta tb tc:TE):TE:=fun σ H Q=>ta σ H fun x H1=>tb σ H1 fun y H2=>r x y H2 fun z H3=>∃ k,z=.bl k /\
 (if k=true then tc σ H3 fun w' H4=>r' y w' H4 Q else Q (.bl false) H3)
theorem cC {op oP:CmpOp}{r r':R2}(ho:OpR X (compareOp op) r)(iN:OpR X (compareOp oP) r')(ha:PE X a ta)(hb:PE X b tb)(hc:PE X c tc)
  (hm:lastMarks [op,oP] [b,c]=false:=by with_unfolding_all rfl):PE X (.Compare a [op,oP] [b,c] pos) (tG r r' ta tb tc):=by
 intro pins s σ H Q I h
 refine Compare_chain (thn (ha pins s σ H _ I h) fun v s1 ⟨x,H1,I1,r1,q1⟩=>chain_link (thn (hb pins s1 σ H1 _ I1 q1) fun u s2 ⟨y,H2,I2,r2,q2⟩ =>
  thn (ho pins s2 σ H2 x y v u _ I2 r1 r2 q2) fun d s3 ⟨z,H3,I3,r3,k,e,q3⟩=>?_)) hm
 subst e;cases r3;refine wpAny_truthy_bool ?_
 cases k with
 | false=>exact ite_ff ⟨.bl false,H3,I3,rfl,q3⟩
 | true=>exact ite_tt (chain_last (thn (hc pins s3 σ H3 _ I3 q3) fun w' s4 ⟨z',H4,I4,r4,q4⟩=>iN pins s4 σ H4 y z' u w' Q I4 r2 r4 q4))
theorem kZ {op oP:CmpOp}{r r':R2}(ho:OpR X (compareOp op) r)(iN:OpR X (compareOp oP) r')(ha:PE X a ta)(hb:PE X b tb)(hc:PE X c tc)
  (hm:lastMarks [op,oP] [b,c]=false:=by with_unfolding_all rfl):PT X (.Compare a [op,oP] [b,c] pos) (Cr (tG r r' ta tb tc)):=by
 intro pins s σ H Q I h
 refine isTrue_chain (thn (ha pins s σ H _ I h) fun v s1 ⟨x,H1,I1,r1,q1⟩=>test_link (thn (hb pins s1 σ H1 _ I1 q1) fun u s2 ⟨y,H2,I2,r2,q2⟩ =>
  thn (ho pins s2 σ H2 x y v u _ I2 r1 r2 q2) fun d s3 ⟨z,H3,I3,r3,k,e,q3⟩=>?_)) hm
 subst e;cases r3;refine wpAny_truthy_bool ?_
 cases k with
 | false =>
  obtain ⟨k',e',q'⟩:=q3;cases e';exact ite_ff ⟨H3,I3,q'⟩
 | true =>
  refine ite_tt (test_last (thn (hc pins s3 σ H3 _ I3 q3) fun w' s4 ⟨z',H4,I4,r4,q4⟩=>thn (iN pins s4 σ H4 y z' u w' _ I4 r2 r4 q4) fun d' s5 ⟨z2,H5,I5,r5,k2,e2,q5⟩=>?_));subst e2;cases r5;exact wpAny_truthy_bool ⟨H5,I5,q5⟩
theorem lq:(sizeLine:Nat) < 2 ^ 63:=by rw [sizeLine_eq];decide
theorem vals1 {x:V}{us:List Value}(r:Vals [x] us):∃ u,us=[u]/\RelV x u:=by
 cases r with
 | cons r1 r2=>cases r2;exact ⟨_,rfl,r1⟩
theorem vals2 {x y:V}{us:List Value}(r:Vals [x,y] us):∃ u w',us=[u,w']/\RelV x u/\RelV y w':=by
 cases r with
 | cons r1 r2 =>
  cases r2 with
  | cons r3 r4=>cases r4;exact ⟨_,_,rfl,r1,r3⟩
theorem gJ (hc:X.calm=true):du X (.builtin "max") (fun xs H Q=>∃ i j,xs=[.int i,.int j]/\Q (.int (if j > i then j else i)) H):=by
 intro pins s σ H xs us Q I r h;obtain ⟨i,j,rfl,q⟩:=h;obtain ⟨u,w',rfl,⟨t,rfl⟩,⟨t',rfl⟩⟩:=vals2 r
 refine max_two_ints (I.ok.hd hc) fun h' tk k=>⟨_,H,I.kept k,?_,q⟩
 by_cases hj:j > i
 ·rw [zAx hj,zAx hj];exact ⟨_,rfl⟩
 ·rw [zAu hj,zAu hj];exact ⟨_,rfl⟩
theorem dX (hc:X.calm=true):du X (.builtin "min") (fun xs H Q=>∃ i j,xs=[.int i,.int j]/\Q (.int (if j < i then j else i)) H):=by
 intro pins s σ H xs us Q I r h;obtain ⟨i,j,rfl,q⟩:=h;obtain ⟨u,w',rfl,⟨t,rfl⟩,⟨t',rfl⟩⟩:=vals2 r
 refine min_two_ints (I.ok.hd hc) fun h' tk k=>⟨_,H,I.kept k,?_,q⟩
 by_cases hj:j < i
 ·rw [zAx hj,zAx hj];exact ⟨_,rfl⟩
 ·rw [zAu hj,zAu hj];exact ⟨_,rfl⟩
theorem vQ:du X (.type "int") (fun xs H Q=>(∃ i,xs=[.int i]/\Q (.int i) H)\/∃ k,xs=[.bl k]/\Q (.int (if k then 1 else 0)) H):=by
 intro pins s σ H xs us Q I r h;rcases h with ⟨i,rfl,q⟩ | ⟨k,rfl,q⟩
 ·obtain ⟨u,rfl,t,rfl⟩:=vals1 r;exact call_int_int ⟨.int i,H,I,⟨_,rfl⟩,q⟩
 ·obtain ⟨u,rfl,r1⟩:=vals1 r;cases r1;exact call_int_bool ⟨.int (if k then 1 else 0),H,I.tok _,⟨_,rfl⟩,q⟩
end
structure ObjM (h:Heap)(x dx C:Addr)(mA:Str->Option Value):Prop where
 obj:h.get? x=some (PySem.W.instObj C dx)
 ns:h.Ns1 dx mA
 ne:dx≠x
theorem vR {h:Heap}{dx:Addr}{mA:Str->Option Value}(n:h.Ns1 dx mA):∃ od,h.get? dx=some od/\∀ name,PySem.W.lookIn name od=some (mA name):=by
 obtain ⟨o,es,ep,ho,hd,hk,_,hm⟩:=n;refine ⟨o,ho,fun name=>?_⟩;have e:=hm name;unfold nsFind findBy at e;rw [<- Array.find?_toList] at e;unfold PySem.W.lookIn;rw [hd];dsimp only;split
 ·rename_i y q
  rw [q] at e;exact congrArg some e
 ·rename_i q
  rw [q] at e
  have a:es.toList.any (·.refKey)=false:=by
   rw [List.any_eq_false];intro y hy;obtain ⟨z,t,B9⟩:=hk y (Array.mem_toList_iff.mp hy);simp [DictEntry.refKey,B9]
  have a':¬ es.toList.any (·.refKey)=true:=by rw [a];exact zAg
  rw [zAu a'];exact congrArg some e
theorem ObjM.look {h:Heap}{x dx C:Addr}{mA:Str->Option Value}(I:ObjM h x dx C mA):∃ od,PySem.W.InstAt h x (PySem.W.instObj C dx) C (some od)/\∀ name,PySem.W.lookIn name od=some (mA name) :=
 let ⟨od,ho,hl⟩:=vR I.ns
 ⟨od,⟨I.obj,rfl,rfl,ho⟩,hl⟩
section
variable {prog:Program}{w:World}{A:Around}{E:Value->Shared->Prop}{s:Shared}{K:PySem.W.Frag}{x dx C f:Addr}{mA:Str->Option Value}{name:Str}{v:Value}
end
theorem RelO.some_of {v:V}{o:Option Value}(r:RelO (some v) o):∃ u,o=some u/\RelV v u:=by
 cases o with
 | none=>exact (show False from r).elim
 | some u=>exact ⟨u,rfl,r⟩
section
variable {P:Program}{w:World}{H H':Hp}{h h':Heap}{a C dx:Addr}{fs KH:List (Str×V)}
theorem Aj (hok:HOk P w H h)(e:H a=some (.ins C dx fs)):∃ mA,ObjM h a dx C mA/\(∀ f,RelO (fs.lookup f) (mA f))/\PySem.Within mA (fs.map (·.1))/\fs.length<=1000/\H dx=some (.own a):=by
 obtain ⟨d,z,ne,ob,mA,n,r,q⟩:=(show ObjOk P w H h a (.ins C dx fs) from hok a _ e)
 exact ⟨mA,⟨ob,n,ne⟩,r,q,z,d⟩
end
structure Cls (K:PySem.W.Frag)(C:Addr):Prop where
 pg:PySem.W.plainGet K C Str.empty=true
 hd:PySem.W.hasDictIn K C=true
 po:PySem.W.plainOver K C=true
 sa:PySem.W.findIn K (.ref C) "__setattr__" = some (some (.builtin "object.__setattr__"))
theorem Cls.get {K:PySem.W.Frag}{C:Addr}(c:Cls K C)(f:Str):PySem.W.plainGet K C f=true:=c.pg
section
variable {X:Cx}{pins:List (Addr×Obj)}{σ:St}{H:Hp}{s:Shared}{a C dx:Addr}{fs:List (Str×V)}{f:Str}{v:V}{A:Around}{E:Value->Shared->Prop}
end
section
variable {X:Cx}{o e value:Expr}{f:Str}{pos pos' oD:Pos}{ta tv:TE}
end
section
variable {X:Cx}{pins:List (Addr×Obj)}{σ:St}{H:Hp}{s:Shared}{A:Around}{E:Value->Shared->Prop}{Q:Value->Shared->Prop}{c:Value}{b:Bool}
inductive TyOf (K:PySem.W.Frag)(H:Hp):V->Value->Prop where
 | non:TyOf K H .non (.type "NoneType")
 | bl (x:Bool):TyOf K H (.bl x) (.type "bool")
 | int (i:Int):TyOf K H (.int i) (.type "int")
 | str (x:Str):TyOf K H (.str x) (.type "str")
 | flt (x:UInt64):TyOf K H (.flt x) (.type "float")
 | lst {a:Addr} {xs:List V} (e:H a=some (.lst xs)):TyOf K H (.ref a) (.type "list")
 | frz {a:Addr} {o:Obj} {xs:List V} (e:H a=some (.frz o (.lst xs))):TyOf K H (.ref a) (.type "list")
 | tup {a:Addr} {xs:List V} (e:H a=some (.tup xs)):TyOf K H (.ref a) (.type "tuple")
 | dK {a:Addr} {kvs:List (Key×V)} (e:H a=some (.dK kvs)):TyOf K H (.ref a) (.type "dict")
 | dT {a:Addr} {kvs:List (List Key×V)} (e:H a=some (.dT kvs)):TyOf K H (.ref a) (.type "dict")
 | ins {a C dx:Addr} {fs:List (Str×V)} (e:H a=some (.ins C dx fs)) (cl:Cls K C) (ha:PySem.W.findIn K (.ref C) "__class__" = some (some (.builtin "object.__class__")))
   (hn:PySem.W.specialIn K (.builtin "object.__class__") "__get__" = some (some (.builtin "getset_descriptor.__get__"))) (mM:PySem.W.takesIn K (.builtin "object.__class__")=some true)
   (hm:PySem.W.mroIn K C (.type "object")=some true):TyOf K H (.ref a) (.ref C)
theorem vU {x:V}{u t:Value}(I:Inv X pins σ H s)(rx:RelV x u)(ty:TyOf X.K H x t)(e:PySem.W.kitOne X.K t c=some b)(h:∀ tk,Q (.bool b) { s with toks:=tk }) :
  wpAny (model X.prog X.w) A (call (.builtin "isinstance") [u,c]) Q E s:=by
 cases ty with
 | non=>cases (show u=Value.none from rx);exact PySem.W.kia_one PySem.W.kitx_none I.kIn True.intro e (fun z=>nomatch z) h
 | bl y=>cases (show u=Value.bool y from rx);exact PySem.W.kia_one PySem.W.kitx_bool I.kIn True.intro e (fun z=>nomatch z) h
 | int i=>obtain ⟨t,q⟩:=(show ∃ t,u=Value.int i t from rx);cases q;exact PySem.W.kia_one PySem.W.kitx_int I.kIn True.intro e (fun z=>nomatch z) h
 | str y=>obtain ⟨t,q⟩:=(show ∃ t,u=Value.str y t from rx);cases q;exact PySem.W.kia_one PySem.W.kitx_str I.kIn True.intro e (fun z=>nomatch z) h
 | flt y=>obtain ⟨t,q⟩:=(show ∃ t,u=Value.float y t from rx);cases q;exact PySem.W.kia_one PySem.W.kitx_float I.kIn True.intro e (fun z=>nomatch z) h
 | @lst a xs ea =>
  cases (show u=Value.ref a from rx)
  obtain ⟨_,_,n,_,h1⟩:=(show ObjOk X.prog X.w H s.heap a (.lst xs) from I.hok a _ ea)
  exact PySem.W.kia_one PySem.W.kitx_list I.kIn ⟨_,h1,rfl⟩ e (fun z=>nomatch z) h
 | @frz a ob xs ea =>
  cases (show u=Value.ref a from rx)
  obtain ⟨_,_,_,n,_,h1⟩:=(show ObjOk X.prog X.w H s.heap a (.frz ob (.lst xs)) from I.hok a _ ea)
  exact PySem.W.kia_one PySem.W.kitx_list I.kIn ⟨_,h1,rfl⟩ e (fun z=>nomatch z) h
 | @tup a xs ea =>
  cases (show u=Value.ref a from rx)
  obtain ⟨_,_,_,p⟩:=(show ObjOk X.prog X.w H s.heap a (.tup xs) from I.hok a _ ea)
  obtain ⟨o,h1,h2,_⟩:=p;exact PySem.W.kia_one PySem.W.kitx_tuple I.kIn ⟨o,h1,h2⟩ e (fun z=>nomatch z) h
 | @dK a kvs ea =>
  cases (show u=Value.ref a from rx)
  obtain ⟨_,_,vs,_,p⟩:=(show ObjOk X.prog X.w H s.heap a (.dK kvs) from I.hok a _ ea)
  obtain ⟨o,es,ep,h1,h2,_⟩:=p;exact PySem.W.kia_one PySem.W.kitx_dict I.kIn ⟨o,h1,h2.1⟩ e (fun z=>nomatch z) h
 | @dT a kvs ea =>
  cases (show u=Value.ref a from rx)
  obtain ⟨_,_,xs,_,o,es,ep,h1,h2,_⟩:=(show ObjOk X.prog X.w H s.heap a (.dT kvs) from I.hok a _ ea)
  exact PySem.W.kia_one PySem.W.kitx_dict I.kIn ⟨o,h1,h2.1⟩ e (fun z=>nomatch z) h
 | @ins a C dx fs ea cl ha hn mM hm =>
  cases (show u=Value.ref a from rx);obtain ⟨mA,O,_⟩:=Aj I.hok ea;obtain ⟨od,J,_⟩:=O.look;exact PySem.W.kia_one (PySem.W.kitx_own (cl.get _) cl.hd ha hn mM hm) I.kIn J e (fun z=>nomatch z) h
end
structure Room (k:Nat)(A:Around):Prop where
 hd:A.handled=none
 dp:A.depth+3 * k+5 < recursionLimit
 un:A.units+16 * k+200 < cLine
 gd:A.guards=some []
theorem Room.mono {j k:Nat}{A:Around}(r:Room k A)(h:j<=k):Room j A:=⟨r.hd,by have:=r.dp;lia,by have:=r.un;lia,r.gd⟩
theorem Room.deeper {k:Nat}{A:Around}(r:Room (k+1) A)(env:Env):Room k (A.deeper env) :=
 ⟨r.hd,by have:=r.dp;show A.depth+1+3 * k+5 < _;lia,by have:=r.un;show A.units+3+16 * k+200 < _;lia,r.gd⟩
theorem Room.depth {k:Nat}{A:Around}(r:Room k A):A.depth < recursionLimit:=by have:=r.dp;lia
theorem Room.units {k:Nat}{A:Around}(r:Room k A):A.units+64 < cLine:=by have:=r.un;lia
def Dp:TA:=fun _ H Q=>Q [] H
def qT (ta:TE)(tr:TA):TA:=fun σ H Q=>ta σ H fun x H1=>tr σ H1 fun xs H2=>Q (x::xs) H2
section
variable {X:Cx}{e:Expr}{es:List Expr}{te:TE}{t:TA}{pos:Pos}
theorem aa:PA X [] Dp:=fun _ _ _ _ H Q I h=>Calls.spliced_nil ⟨[],H,I,.nil,h⟩
theorem aU (ha:PE X e te)(hr:PA X es t)(hs:starEach (e::es) X.env=(false,eval e X.env)::starEach es X.env:=by rfl):PA X (e::es) (qT te t):=by
 intro pos pins s σ H Q I h;rw [hs];show wpAny _ _ (spliced ((false,eval e X.env)::backTo pos (starEach es X.env))) _ _ s;refine Calls.spliced_cons (thn (ha pins s σ H _ I h) fun u s1 ⟨x,H1,I1,r1,q1⟩=>?_)
 exact thn (hr pos pins s1 σ H1 _ I1 q1) fun us s2 ⟨xs,H2,I2,r2,q2⟩=>⟨x::xs,H2,I2,.cons r1 r2,q2⟩
def Dq (t:TA):TE:=fun σ H Q=>t σ H fun xs H1=>xs.length<=sizeLine/\∀ p,H1 p=none->Q (.ref p) (upd H1 p (.tup xs))
def Ak (t:TA):TE:=fun σ H Q=>t σ H fun xs H1=>xs.length<=sizeLine/\∀ p,H1 p=none->Q (.ref p) (upd H1 p (.lst xs))
theorem bJ {x1}(h:PA X es t):PE X (.Tuple es x1 pos) (Dq t):=by
 intro pins s σ H Q I hq;refine wpAny_Tuple_spliced (thn (h pos pins s σ H _ I hq) fun us s1 ⟨xs,H1,I1,r,z,q⟩=>⟨by rw [<- r.length];exact z,?_⟩);have hf:H1 s1.heap.objs.size=none:=I1.hok.fresh (zA3 _);refine ⟨.ref s1.heap.objs.size,upd H1 s1.heap.objs.size (.tup xs),I1.laid (t':=s1.toks) (fun b u e=>zAz _ e) (zA3 _) ?_,rfl,q _ hf⟩;exact ⟨z,us,r,⟨_,zB3 _ rfl,rfl,_,rfl⟩⟩
theorem dN (h:PA X es t):PE X (.List es pos) (Ak t):=by
 intro pins s σ H Q I hq;refine wpAny_List_spliced (thn (h pos pins s σ H _ I hq) fun us s1 ⟨xs,H1,I1,r,z,q⟩=>⟨by rw [<- r.length];exact z,?_⟩);have hf:H1 s1.heap.objs.size=none:=I1.hok.fresh (zA3 _);refine ⟨.ref s1.heap.objs.size,upd H1 s1.heap.objs.size (.lst xs),I1.laid (t':=s1.toks) (fun b u e=>zAz _ e) (zA3 _) ?_,rfl,q _ hf⟩;exact ⟨z,us,0,r,zB3 _ rfl⟩
end
abbrev Sp:=List V->Hp->VK->XK->Prop
abbrev CXT:=List Env->Hp->Shared->XK->Value->Shared->Prop
structure Env0 (P:Program)(w:World)(K:PySem.W.Frag)(mg:Str->Option Value)(base:Heap)(A:Around)(outer:List Env)(s:Shared)(H:Hp):Prop where
 frames:A.frames=some outer
 mod:Mod K mg base
 bs:∀ b o,base.get? b=some o->s.heap.get? b=some o/\H b=none
 bsz:base.objs.size<=s.heap.objs.size
 funs:s.heap.FunFrames base outer
 frf:∀ b∈frs outer,H b=none
 hok:HOk P w H s.heap
 bare:AllBare s.gens
def CE (outer:List Env)(P:Program)(w:World)(H:Hp)(s:Shared)(Q:VK)(u:Value)(s':Shared):Prop :=
 ∃ v H',s'.os=s.os/\AllBare s'.gens/\Un (frs outer) [] H H' s.heap s'.heap/\HOk P w H' s'.heap/\RelV v u/\Q v H'
def CR (CX:CXT)(outer:List Env)(P:Program)(w:World)(H:Hp)(s:Shared)(Q:VK)(E:XK)(r:Result)(s':Shared):Prop :=
 match r with
 | .ok (.ret u)=>CE outer P w H s Q u s'
 | .ok _=>False
 | .error e=>CX outer H s E e s'
structure FnOk (P:Program)(w:World)(K:PySem.W.Frag)(mg:Str->Option Value)(base:Heap)(CX:CXT)(k:Nat)(f:Addr)(fd:FuncData)(ps:List Str)(sp:Sp):Prop where
 len:∀ vs H Q E,sp vs H Q E->vs.length=ps.length
 run:∀ (A:Around) (outer:List Env) (s:Shared) (H:Hp) (args:Args) (us:List Value) (vs:List V) (Q:VK) (E:XK),Room k A->Env0 P w K mg base A outer s H->BindsTo s fd args (ps.zip us)->Vals vs us->sp vs H Q E ->
  codeAny (model P w) A (.call (.ref f) args) (CR CX outer P w H s Q E) s
section
variable {X:Cx}{pins:List (Addr×Obj)}{σ:St}{H:Hp}{s s':Shared}
theorem Inv.env0 (I:Inv X pins σ H s):Env0 X.prog X.w X.K X.mg X.base X.A X.stack s H :=
 ⟨I.ok.frames,I.ok.mod,I.bs,Nat.le_trans I.ok.bsz I.sz,I.stack,I.stkFree,I.hok,I.bare⟩
theorem Inv.after {Q:VK}{u:Value}(I:Inv X pins σ H s)(h:CE X.stack X.prog X.w H s Q u s'):EP X pins σ Q u s':=by
 obtain ⟨v,H',os,bare,un,hok,r,q⟩:=h;obtain ⟨hh,g,d,t,KO⟩:=s';obtain rfl:KO=s.os:=os;exact ⟨v,H',I.call (h':=hh) (g':=g) (d':=d) (t':=t) (ch:=[]) un hok bare (fun b z=>absurd z (by simp)),r,q⟩
end
def Cu (sp:Sp)(mN:List V)(E:XK)(t:TA):TE:=fun σ H Q=>t σ H fun vs H1=>sp (vs++mN) H1 Q E
def Binds (K:PySem.W.Frag)(fd:FuncData)(ps:List Str)(ds:List Value):Prop :=
 ∀ (s:Shared) (us:List Value),K.In s.heap->(us++ds).length=ps.length->BindsTo s fd ⟨us,[]⟩ (ps.zip (us++ds))
theorem Binds.all {K:PySem.W.Frag}{fd:FuncData}{ps:List Str}(h:∀ us:List Value,us.length=ps.length->bindArgs fd ⟨us,[]⟩=pure (ps.zip us)):Binds K fd ps []:=fun s us _ hl=>by
 rw [zAn] at hl ⊢;exact .of_eq (h us hl)
def tH (CX:CXT)(X:Cx)(E:XK):Prop:=∀ (pins:List (Addr×Obj)) (σ:St) (H:Hp) (s:Shared) (e:Value) (s':Shared),Inv X pins σ H s->CX X.stack H s E e s'->X.xe e s'
section
variable {X:Cx}{CX:CXT}{k:Nat}{f C:Addr}{fd:FuncData}{ps:List Str}{sp:Sp}{mN:List V}{ds:List Value}{E:XK}{x m:Str}{p pos apos:Pos}{e o:Expr}{es:List Expr}{ta:TE}{t:TA}
theorem Ds {pins:List (Addr×Obj)}{σ:St}{H:Hp}{s:Shared}{Q:VK}{us:List Value}{vs:List V}(F:FnOk X.prog X.w X.K X.mg X.base CX k f fd ps sp)(hr:Room k X.A)(hb:Binds X.K fd ps ds)(hd:Vals mN ds)(hx:tH CX X E)
  (I:Inv X pins σ H s) (r:Vals vs us) (h:sp (vs++mN) H Q E):wpAny (model X.prog X.w) X.A (call (.ref f) us) (EP X pins σ Q) X.xe s:=by
 have r2:Vals (vs++mN) (us++ds):=r.append hd;have hl:(us++ds).length=ps.length:=by rw [<- r2.length];exact F.len _ _ _ _ h
 refine wpAny_call (codeAny_mono (F.run X.A X.stack s H ⟨us,[]⟩ (us++ds) (vs++mN) Q E hr I.env0 (hb s us I.kIn hl) r2 h) fun r s' hq=>?_)
 cases r with
 | error e=>exact hx pins σ H s e s' I hq
 | ok fl =>
  cases fl with
  | ret u=>exact I.after hq
  | next=>exact False.elim hq
  | brk=>exact False.elim hq
  | cont=>exact False.elim hq
theorem Al (F:FnOk X.prog X.w X.K X.mg X.base CX k f fd ps sp)(hr:Room k X.A)(hg:Gl X x)(hm:X.mg x=some (.ref f))(hk:PySem.W.keepIn X.K (.ref f)=true)(hb:Binds X.K fd ps ds)(hd:Vals mN ds)(hx:tH CX X E)
  (ha:PA X (e::es) t) (oQ:(x == ("__debug__" : Str))=false:=by decide) (he:starEach (e::es) X.env=(false,eval e X.env)::starEach es X.env:=by rfl) (mP:(backTo pos (starEach es X.env)).any (·.1)=false:=by rfl) :
  PE X (.Call (.Name x p) (e::es) [] pos) (Cu sp mN E t):=by
 intro pins s σ H Q I h;refine wpAny_Call_Name_kw (uq I hg hm ?_ oQ);refine PySem.W.callWith_K (h₀:=X.base) I.ok.mod.kin hk (thn (ha pos pins s σ H _ I h) fun us s1 ⟨vs,H1,I1,r,q⟩=>⟨I1.kIn,?_⟩) he mP;exact Ds F hr hb hd hx I1 r q
end
section
variable {X:Cx}{CX:CXT}{k:Nat}{f C:Addr}{fd:FuncData}{ps ks:List Str}{sp:Sp}{E:XK}{x m:Str}{p pos apos KP:Pos}{e o:Expr}{es:List Expr}{QF:List Keyword}{te ta:TE}{t tk:TA}{nm:Option Str}
variable {g:List Value->List Value->List Value}{gV:List V->List V->List V}
end
structure FnScope (N P:List Str)(sc:Scope):Prop where
 kind:sc.kind=.function
 co:sc.isCoroutine=false
 gen:sc.isGenerator=false
 nd:N.Nodup
 pre:N.take P.length=P
 par:∀ x∈P,sc.names.lookup x=some .local\/sc.names.lookup x=some .cell
 nofree:∀ y∈sc.names,y.2≠.free
theorem nZ {kindOf:Str->Option NameKind}{x:Str}:∀ {binds:List (Str×Value)} {m:Str->Option Value},(∀ v,(x,v) ∉ binds)->bindL kindOf binds m x=m x
 | [],_,_=>rfl
 | (n,v)::r,m,h=>by
  unfold bindL;rw [nZ fun w hw=>h w (List.mem_cons_of_mem _ hw)];split
  ·have:x≠n:=by rintro rfl;exact h v List.mem_cons_self
   simp [this]
  ·rfl
theorem o8 {kindOf:Str->Option NameKind}{x:Str}:∀ {binds:List (Str×Value)} {m:Str->Option Value},(∀ v,(x,v) ∉ binds)->bindC kindOf binds m x=m x
 | [],_,_=>rfl
 | (n,v)::r,m,h=>by
  unfold bindC;rw [o8 fun w hw=>h w (List.mem_cons_of_mem _ hw)];split
  ·rfl
  ·have:x≠n:=by rintro rfl;exact h v List.mem_cons_self
   simp [this]
theorem o9 {kindOf:Str->Option NameKind}{x:Str}{v:Value}:∀ {P:List Str} {vs:List Value} {i:Nat} {m:Str->Option Value},P.Nodup->P[i]?=some x->vs[i]?=some v->kindOf x=some .local ->
  bindL kindOf (P.zip vs) m x=some v
 | [],_,_,_,_,h,_,_=>by simp at h
 | _::_,[],_,_,_,_,h,_=>by simp at h
 | p::P,w::vs,0,m,nd,h1,h2,hk=>by
  simp at h1 h2;subst h1;subst h2;show bindL kindOf ((p,w)::P.zip vs) m p=_;unfold bindL;rw [nZ fun v hv=>(List.nodup_cons.mp nd).1 (List.of_mem_zip hv).1,if_pos hk];simp
 | p::P,w::vs,i+1,m,nd,h1,h2,hk=>by
  show bindL kindOf ((p,w)::P.zip vs) m x=_;unfold bindL;exact o9 (i:=i) (List.nodup_cons.mp nd).2 (by simpa using h1) (by simpa using h2) hk
theorem oh {kindOf:Str->Option NameKind}{x:Str}{v:Value}:∀ {P:List Str} {vs:List Value} {i:Nat} {m:Str->Option Value},P.Nodup->P[i]?=some x->vs[i]?=some v->kindOf x≠some .local ->
  bindC kindOf (P.zip vs) m x=some v
 | [],_,_,_,_,h,_,_=>by simp at h
 | _::_,[],_,_,_,_,h,_=>by simp at h
 | p::P,w::vs,0,m,nd,h1,h2,hk=>by
  simp at h1 h2;subst h1;subst h2;show bindC kindOf ((p,w)::P.zip vs) m p=_;unfold bindC;rw [o8 fun v hv=>(List.nodup_cons.mp nd).1 (List.of_mem_zip hv).1,if_neg hk];simp
 | p::P,w::vs,i+1,m,nd,h1,h2,hk=>by
  show bindC kindOf ((p,w)::P.zip vs) m x=_;unfold bindC;exact oh (i:=i) (List.nodup_cons.mp nd).2 (by simpa using h1) (by simpa using h2) hk
def start (N:List Str)(vs:List V):St:=vs.map some++List.replicate (N.length - vs.length) none
def vV (CX:CXT)(P:Program)(w:World)(K:PySem.W.Frag)(mg:Str->Option Value)(base:Heap)(N:List Str)(qual:Str)(scope:Scope)(f:Addr)(cd:Value)(A:Around)(outer:List Env)(s:Shared)(H:Hp)(E:XK):Cx where
 prog:=P
 w:=w
 K:=K
 mg:=mg
 base:=base
 A:=A.deeper (envOfC qual scope s.heap.objs.size f cd)
 N:=N
 s₀:=s
 H₀:=H
 env:=envOfC qual scope s.heap.objs.size f cd
 outer:=outer
 stack:=envOfC qual scope s.heap.objs.size f cd::outer
 ex:=[]
 calm:=true
 fn:=fun _=>true
 pn:=[]
 xe:=fun e s'=>wpAny (model P w) (A.deeper (envOfC qual scope s.heap.objs.size f cd)) (leaving (envOfC qual scope s.heap.objs.size f cd) e) (fun _ sM=>CX outer H s E e sM) (fun e' sM=>CX outer H s E e' sM) s'
theorem qU {sc:Scope}{n:Nat}{x:Str}(h:sc.names.lookup x=some .cell):∃ c,(cellsFrom n sc.names []).lookup x=some c:=by
 have q:=PySem.W.cellsFrom_some sc.names n [] (.inl h);exact Option.isSome_iff_exists.mp q
theorem vW {CX:CXT}{P:Program}{w:World}{K:PySem.W.Frag}{mg:Str->Option Value}{base:Heap}{N ps:List Str}{qual:Str}{scope:Scope}{f:Addr}{cd:Value}{A:Around}{outer:List Env}{s s1:Shared}{H:Hp}{E:XK}{us:List Value}{vs:List V}
  (S:FnScope N ps scope) (hd:A.handled=none) (e0:Env0 P w K mg base A outer s H) (hl:vs.length=ps.length) (r:Vals vs us)
  (x:InCallC s s.heap.objs.size (bindL (envOfC qual scope s.heap.objs.size f cd).kindOf (ps.zip us) fun _=>none) (cellsFrom (s.heap.objs.size+1) scope.names []) (bindC (envOfC qual scope s.heap.objs.size f cd).kindOf (ps.zip us) fun _=>none) s1) :
  Inv (vV CX P w K mg base N qual scope f cd A outer s H E) [] (start N vs) H s1:=by
 have mP:ps.length<=N.length:=by have:=congrArg List.length S.pre;rw [zAd] at this;lia
 obtain ⟨h1,tk,rfl,hk⟩:=x.done;have vi:∀ b:Addr,b ∉ (vV CX P w K mg base N qual scope f cd A outer s H E).ex:=fun b z=>absurd (show b∈([]:List Addr) from z) (by simp)
 refine ⟨⟨e0.mod,S.kind,rfl,rfl,zA3 _,fun y z c h1 h2=>?_,fun y hy=>?_,fun y c _ h=>?_,fun _=>hd,Around.frames_deeper e0.frames,.inr ⟨rfl,rfl⟩,fun b z=>absurd z (vi b),e0.bs,e0.bsz,fun b _ _=>vi b,fun b z=>absurd z (vi b),e0.funs,e0.frf⟩,
  rfl,e0.bare,Un.kept hk,⟨_,x.toInCall.ns,fun i y v h1 h2 h3=>?_⟩,fun y c h=>⟨_,x.cell y c h⟩,e0.hok.fresh (Nat.le_refl _),fun y c h=>?_,fun p hp=>absurd (show p∈([]:List (Addr×Obj)) from hp) (by simp),e0.hok.kept hk,?_⟩
 ·exact name_of_addr x.apart (PySem.mem_of_lookup h1) (PySem.mem_of_lookup h2)
 ·have hy:scope.names.lookup y=some .cell\/scope.names.lookup y=some .free:=hy;rcases hy with hy | hy
  ·exact qU hy
  ·exact absurd rfl (S.nofree _ (PySem.mem_of_lookup hy))
 ·exact Nat.le_of_lt (x.above y c (PySem.mem_of_lookup h))
 ·have hi:i < vs.length:=by
   unfold start at h2;by_cases hi:i < vs.length
   ·exact hi
   ·rw [List.getElem?_append_right (by simpa using hi)] at h2;rw [List.getElem?_replicate] at h2;split at h2 <;> cases h2
  have ha:vs[i]?=some v:=by
   unfold start at h2;rw [List.getElem?_append_left (by simpa using hi),List.getElem?_map] at h2
   cases e:vs[i]? with
   | none=>rw [e] at h2;cases h2
   | some a=>rw [e] at h2;cases h2;rfl
  obtain ⟨u,hu,rv⟩:=r.get ha
  have hp:ps[i]?=some y:=by
   rw [<- S.pre,List.getElem?_take_of_lt (by lia)];exact h1
  have IA:ps.Nodup:=by rw [<- S.pre];exact S.nd.sublist (List.take_sublist _ _)
  refine ⟨u,rv,?_⟩;rcases S.par y (zBa hp) with k | k
  ·exact .inl ⟨k,o9 IA hp hu k⟩
  ·obtain ⟨c,e⟩:=qU (n:=s.heap.objs.size+1) k;refine .inr ⟨.inl k,c,e,?_⟩;have q:=x.cell y c e;rw [oh IA hp hu (by show scope.names.lookup y≠_;rw [k];decide)] at q;exact q
 ·exact e0.hok.fresh (Nat.le_of_lt (x.above y c (PySem.mem_of_lookup h)))
 ·unfold start;show _=N.length;rw [zA2,zA1,List.length_replicate];lia
theorem Fp {CX:CXT}{P:Program}{w:World}{K:PySem.W.Frag}{mg:Str->Option Value}{base:Heap}{k:Nat}{f:Addr}{name qual:Str}{params:Arguments}{body:List Stmt}{scope:Scope}{dV kV doc pm av ct oc:Value}{an od:Option Addr}
  {mS:Array (Option Value)} {N ps:List Str} {sp:Sp} (lk:K.lookup f=some ⟨oc,od,.func (PySem.W.fnOf name qual params body scope dV kV doc pm an av ct),mS⟩) (iO:PySem.W.codeIn K av qual=true) (S:FnScope N ps scope)
  (len:∀ vs H Q E,sp vs H Q E->vs.length=ps.length)
  (iX:∀ (A:Around) (outer:List Env) (s:Shared) (H:Hp) (vs:List V) (Q:VK) (E:XK),Room k (A.deeper (envOfC qual scope s.heap.objs.size f av))->sp vs H Q E ->
   ∃ t,PSs (vV CX P w K mg base N qual scope f av A outer s H E) body t/\t { nx:=fun _ H'=>Q .non H',rt:=Q } (start N vs) H) :
  FnOk P w K mg base CX (k+1) f (PySem.W.fnOf name qual params body scope dV kV doc pm an av ct) ps sp:=by
 refine ⟨len,fun A outer s H args us vs Q E hr e0 hb r mT=>?_⟩;have hl:=len _ _ _ _ mT;have KX:K.In s.heap:=e0.mod.kin.keeps fun b o e=>(e0.bs b o e).1;have lim:s.heap.NoLimit:=e0.mod.nolimit.keeps fun b o e=>(e0.bs b o e).1
 have vj:∀ y∈ps.zip us,scope.names.lookup y.1=some .local\/(scope.names.lookup y.1=some .cell/\((cellsFrom (s.heap.objs.size+1) scope.names []).lookup y.1).isSome=true):=fun ⟨n,v⟩ hy=>by
  rcases S.par n (List.of_mem_zip hy).1 with q | q
  ·exact .inl q
  ·exact .inr ⟨q,PySem.W.cellsFrom_some _ _ _ (.inl q)⟩
 refine codeAny_call_function hr.depth (KX _ _ lk) rfl S.co S.gen rfl (PySem.W.codeRec_of KX iO) (hb _ _ _ _ ?_);refine wpAny_newFunctionEnv_cells S.kind vj fun env he s1 x=>?_;subst he;refine ⟨lim.keeps x.toInCall.keep,codeAny_func ?_⟩;obtain ⟨t,ht,hq⟩:=iX A outer s H vs Q E (hr.deeper _) mT;have I:Inv (vV CX P w K mg base N qual scope f av A outer s H E) [] (start N vs) H s1:=vW S hr.hd e0 hl r x;refine wpAny_mono (ht [] s1 (start N vs) H _ I hq) (fun fl s' hs=>?_) fun e s' hs=>hs
 have fin:∀ {ai:St} {H':Hp} {v:V} {u:Value},Inv (vV CX P w K mg base N qual scope f av A outer s H E) [] ai H' s'->RelV v u->Q v H'->CE outer P w H s Q u s' :=
  fun {ai H' v u} J rv q=>⟨v,H',J.os,J.bare,J.base,J.hok,rv,q⟩
 cases fl with
 | ret u =>
  obtain ⟨v,ai,H',J,rv,q⟩:=hs;exact fin J rv q
 | next =>
  obtain ⟨ai,H',J,q⟩:=hs;exact fin (v:=V.non) (u:=Value.none) J rfl q
 | brk =>
  obtain ⟨_,_,_,q⟩:=hs;exact False.elim q
 | cont =>
  obtain ⟨_,_,_,q⟩:=hs;exact False.elim q
section
variable {X:Cx}{x:Str}{p pos:Pos}{e:Expr}{es:List Expr}{t:TA}{id T:String}{r:List V->Hp->VK->Prop}
def tCB (r:List V->Hp->VK->Prop)(t:TA):TE:=fun σ H Q=>t σ H fun vs H1=>r vs H1 Q
theorem aQ (hc:du X (.builtin id) r)(hg:Gl X x)(hm:X.mg x=none)(hv:bootBuiltins x=some (.builtin id))(ha:PA X (e::es) t)(hn:x≠"__name__" := by decide)(oQ:(x == ("__debug__" : Str))=false:=by decide)
  (he:starEach (e::es) X.env=(false,eval e X.env)::starEach es X.env:=by rfl) (mP:(backTo pos (starEach es X.env)).any (·.1)=false:=by rfl):PE X (.Call (.Name x p) (e::es) [] pos) (tCB r t):=by
 intro pins s σ H Q I h;refine wpAny_Call_Name_kw (fP I hg hm hv ?_ hn oQ);exact PyProof.Rows.callWith_builtin1 (thn (ha pos pins s σ H _ I h) fun us s1 ⟨vs,H1,I1,r1,q1⟩=>hc pins s1 σ H1 vs us Q I1 r1 q1) he mP
theorem bO (hc:du X (.type T) r)(hg:Gl X x)(hm:X.mg x=none)(hv:bootBuiltins x=some (.type T))(ha:PA X (e::es) t)(hn:x≠"__name__" := by decide)(oQ:(x == ("__debug__" : Str))=false:=by decide)
  (he:starEach (e::es) X.env=(false,eval e X.env)::starEach es X.env:=by rfl) (mP:(backTo pos (starEach es X.env)).any (·.1)=false:=by rfl):PE X (.Call (.Name x p) (e::es) [] pos) (tCB r t):=by
 intro pins s σ H Q I h;refine wpAny_Call_Name_kw (fP I hg hm hv ?_ hn oQ);exact PyProof.Rows.callWith_type1 (thn (ha pos pins s σ H _ I h) fun us s1 ⟨vs,H1,I1,r1,q1⟩=>hc pins s1 σ H1 vs us Q I1 r1 q1) he mP
end
end L2
namespace HT
open PySem PyProof.Rows
def lexLt:List Int->List Int->Bool
 | [],[]=>false
 | [],_::_=>true
 | _::_,[]=>false
 | x::xs,y::ys=>if x=y then lexLt xs ys else decide (x < y)
theorem lexLt_cons (x y:Int)(xs ys:List Int):lexLt (x::xs) (y::ys)=if x=y then lexLt xs ys else decide (x < y):=rfl
section
open PySem.SeqAt
open PySem.AutoSeq1 (wpAny_loadPart')
open PySem.MeetsSeq PySem.MeetsSeq2 PySem.MeetsSeq3
end
section
variable {prog:Program}{w:World}{A:Around}{E:Value->Shared->Prop}{s:Shared}
theorem cat_tup {t b:Addr}{vs ws:List Value}{Q:Value->Shared->Prop}(ht:IsTup s.heap t vs.toArray)(hb:IsTup s.heap b ws.toArray)(hv:vs≠[])
  (h1:ws=[]->Q (.ref t) s) (h2:ws≠[]->Q (.ref s.heap.objs.size) { s with heap:=s.heap.push { cls:=.type "tuple",data:=.seq (vs++ws).toArray } })
  (hsz:vs.length+ws.length<=sizeLine):wpAny (model prog w) A (binaryOp .Add (.ref t) (.ref b)) Q E s:=by
 obtain ⟨⟨cls,dd,data,sl⟩,ho,hc,n,hd⟩:=id ht;obtain ⟨⟨Cb,sN,data2,oS⟩,oT,vn,n2,hd2⟩:=id hb;simp only at hc hd vn hd2;subst hc hd vn hd2;have e:vs.toArray++ws.toArray=(vs++ws).toArray:=by simp
 by_cases hw:ws=[]
 ·exact concat_meets ⟨_,ho,rfl⟩ ⟨_,oT,rfl⟩ noFill_tuple_add seq_tuple_add PySem.F.slot_tuple_add PySem.F.entry_tuple_add (PySem.F.args_tuple_add_2 _ _)
   (tuple_addW1 t b vs.toArray ws.toArray n n2 dd sN sl oS (by simpa using hv) (by simp [hw])) ⟨ho,oT,h1 hw⟩
 ·refine concat_meets ⟨_,ho,rfl⟩ ⟨_,oT,rfl⟩ noFill_tuple_add seq_tuple_add PySem.F.slot_tuple_add PySem.F.entry_tuple_add (PySem.F.args_tuple_add_2 _ _)
   (tuple_addW2 t b vs.toArray ws.toArray n n2 dd sN sl oS (by simpa using hv) (by simpa using hw) (by rw [List.size_toArray,List.size_toArray];exact hsz)) ⟨ho,oT,?_⟩
  rw [e];exact h2 hw
def sIx (n d:Nat):Option Int->Nat
 | none=>d
 | some v=>if v < 0 then (v+(n:Int)).toNat else min v.toNat n
theorem sIx_none (n d:Nat):sIx n d none=d:=rfl
theorem sIx_nat (n d k:Nat):sIx n d (some (k:Int))=min k n:=by
 show (if (k:Int) < 0 then ((k:Int)+(n:Int)).toNat else min (k:Int).toNat n)=min k n;rw [zAu (by lia),zAi]
theorem Dt (n d:Nat)(hd:d<=n)(o:Option Int):sIx n d o<=n:=by
 cases o with
 | none=>exact hd
 | some v =>
  show (if v < 0 then (v+(n:Int)).toNat else min v.toNat n)<=n;by_cases hv:v < 0
  ·rw [zAx hv];lia
  ·rw [zAu hv];exact Nat.min_le_right _ _
theorem uw (v:Int)(n d:Nat):(if v < 0 then max (v+(n:Int)) 0 else min v (n:Int))=((sIx n d (some v):Nat):Int):=by
 show (if v < 0 then max (v+(n:Int)) 0 else min v (n:Int))=(((if v < 0 then (v+(n:Int)).toNat else min v.toNat n):Nat):Int);by_cases hv:v < 0
 ·simp only [if_pos hv];lia
 ·simp only [if_neg hv];lia
theorem tK (lo hi:Option Int)(n:Nat):Builtin.Slice.sliceAdjust lo hi 1 (n:Int)=(((sIx n 0 lo:Nat):Int),((sIx n n hi:Nat):Int)):=by
 have h1:¬ ((1:Int) < 0):=by lia
 unfold Builtin.Slice.sliceAdjust;simp only [h1,if_false];refine Prod.ext ?_ ?_
 ·cases lo with
  | none=>rfl
  | some v=>exact uw v n 0
 ·cases hi with
  | none=>rfl
  | some v=>exact uw v n n
theorem tL (i j:Nat):Builtin.Slice.slicePlaces (i:Int) (j:Int) 1=j - i:=by
 unfold Builtin.Slice.slicePlaces;have h1:(1:Int) > 0:=by lia
 simp only [h1,if_true,Int.ediv_one];split <;> lia
theorem lu {v:Value}{o:Option Int}{Q:Option Int->Shared->Prop}(p:IsPart v o)(h:Q o s):wpAny (model prog w) A (Builtin.Slice.slicePartIndex v) Q E s:=by
 cases p with
 | none=>exact slicePart_none h
 | int i t=>exact slicePart_int h
theorem fD {sl:Addr}{vl vu:Value}{lo hi:Option Int}{n:Nat}{Q:Int×Int×Nat->Shared->Prop}(hs:s.heap.IsSliceOf sl vl vu .none)(pl:IsPart vl lo)(pu:IsPart vu hi)
  (h:Q (((sIx n 0 lo:Nat):Int),1,sIx n n hi - sIx n 0 lo) s):wpAny (model prog w) A (Builtin.Slice.sliceApplied (.ref sl) (pure (n:Int))) Q E s:=by
 obtain ⟨os,pb,AZ,vt⟩:=id hs;unfold Builtin.Slice.sliceApplied Builtin.Slice.sliceFields;refine zAw (zAw (wpAny_field pb vt (x:=vl) rfl (zAw (wpAny_field pb vt (x:=vu) rfl (zAw (wpAny_field pb vt (x:=.none) rfl (zB0 ?_)))))));refine zAw (slicePart_none ?_);show wpAny _ _ (if ((1:Int) == 0)=true then _ else _) _ _ s;rw [zAu (by decide)];refine zAw (lu pl (zAw (lu pu (zAw (zB0 ?_)))));show wpAny _ _ (match Builtin.Slice.sliceAdjust lo hi 1 (n:Int) with | (lo,hi)=>pure (lo,(1:Int),Builtin.Slice.slicePlaces lo hi 1)) _ _ s;rw [tK lo hi n];show wpAny _ _ (pure (((sIx n 0 lo:Nat):Int),(1:Int),Builtin.Slice.slicePlaces ((sIx n 0 lo:Nat):Int) ((sIx n n hi:Nat):Int) 1)) _ _ s;rw [tL];exact zB0 h
theorem xR (xs:Array Value)(i k:Nat):((List.range k).filterMap fun (m:Nat)=>xs[((i:Int)+(m:Int) * 1).toNat]?).toArray=((xs.toList.drop i).take k).toArray:=by
 have e:(fun (m:Nat)=>xs[((i:Int)+(m:Int) * 1).toNat]?)=fun m=>xs[i+m]?:=by
  funext m;have:((i:Int)+(m:Int) * 1).toNat=i+m:=by lia
  rw [this]
 rw [e];have:=pick_run xs i k;rw [List.filterMap_map] at this;have e2:((fun x=>xs[x]?) ∘ fun x=>i+x)=fun m=>xs[i+m]?:=rfl;rw [e2] at this;rw [this]
theorem getItem_tuple_cut {t sl:Addr}{items:Array Value}{vl vu:Value}{lo hi:Option Int}{Q:Value->Shared->Prop}(ht:IsTup s.heap t items)(hs:s.heap.IsSliceOf sl vl vu .none)(pl:IsPart vl lo)(pu:IsPart vu hi)
  (hw:¬ (sIx items.size 0 lo=0/\sIx items.size items.size hi=items.size))
  (h:Q (.ref s.heap.objs.size) { s with heap:=s.heap.push { cls:=.type "tuple",data:=.seq ((items.toList.drop (sIx items.size 0 lo)).take (sIx items.size items.size hi - sIx items.size 0 lo)).toArray } })
  (hsz:items.size<=sizeLine):wpAny (model prog w) A (getItem (.ref t) (.ref sl)) Q E s:=by
 have gT:sizeOk (.seq ((items.toList.drop (sIx items.size 0 lo)).take (sIx items.size items.size hi - sIx items.size 0 lo)).toArray):=by
  show ((items.toList.drop (sIx items.size 0 lo)).take (sIx items.size items.size hi - sIx items.size 0 lo)).toArray.size<=sizeLine;rw [zA8,zAd,List.length_drop,zA9];lia
 have hj:sIx items.size items.size hi<=items.size:=Dt _ _ (zA3 _) hi;obtain ⟨os,pb,AZ,vt⟩:=id hs
 have Cc:s.TypeIs (.ref sl) "slice" := ⟨os,pb,AZ⟩
 unfold getItem
 try with_reducible refine wpAny_holding ?_
 first | refine zAw (zB0 ?_) | skip
 refine zAw (wpAny_sequenceKey ht.typeIs (by decide) ?_)
 refine zAw (wpAny_callSpecial?_slot (name:=Str.ofString "__getitem__") ht.typeIs PyProof.Rows.slot_tuple_getitem
  (wpAny_call_entry PyProof.Rows.slot_tuple_getitem ht.typeIs entry_tuple_getitem ?_ (args_tuple_getitem _ _)))
 show wpAny _ _ (Builtin.Tuple.tupleItemsOf (.ref t) >>= _) _ _ s;refine zAw (tupleItemsOf_ ht ?_);refine zAw (wpAny_typeOf Cc ?_);rw [zAx (by decide)];refine zAw (fD hs pl pu ?_)
 have KQ:¬ ((((sIx items.size 0 lo:Nat):Int) == 0 && (1:Int) == 1 && (sIx items.size items.size hi - sIx items.size 0 lo) == items.size)=true):=by
  intro q;rw [zAc,zAc] at q;have q1:((sIx items.size 0 lo:Nat):Int)=0:=eq_of_beq q.1.1;have q2:sIx items.size items.size hi - sIx items.size 0 lo=items.size:=eq_of_beq q.2;exact hw ⟨by lia,by lia⟩
 show wpAny _ _ (if (((sIx items.size 0 lo:Nat):Int) == 0 && (1:Int) == 1 && (sIx items.size items.size hi - sIx items.size 0 lo) == items.size)=true then _ else _) _ _ s;rw [zAu KQ,xR]
 first
  | exact zAw (m:=Builtin.Tuple.tupleExact _) (wpAny_newObj_type (zB0 ⟨_,rfl,zB0 h⟩) gT)
  | exact zAw (m:=Builtin.Tuple.tupleExact _) (wpAny_newObj_type (zAw (zB0 (zB0 ⟨_,rfl,zB0 h⟩))) gT)
  | exact zAw (zAw (m:=Builtin.Tuple.tupleExact _) (wpAny_newObj_type (zB0 (zB0 ⟨_,rfl,zB0 h⟩)) gT))
  | exact zAw (zAw (m:=Builtin.Tuple.tupleExact _) (wpAny_newObj_type (zB0 ⟨_,rfl,zB0 h⟩) gT))
end
end HT
namespace L2
open PySem PySem.Spec PyProof.Rows
abbrev TO:=St->Hp->(Option Int->Hp->Prop)->Prop
def PO (X:Cx)(e:Option Expr)(t:TO):Prop :=
 ∀ (pins:List (Addr×Obj)) (s:Shared) (σ:St) (H:Hp) (Q:Option Int->Hp->Prop),Inv X pins σ H s->t σ H Q ->
  wpAny (model X.prog X.w) X.A (evalPart e X.env) (fun u s'=>∃ o H',Inv X pins σ H' s'/\IsPart u o/\Q o H') X.xe s
def Am:TO:=fun _ H Q=>Q none H
def Fq (t:TE):TO:=fun σ H Q=>t σ H fun x H1=>∃ i,x=.int i/\Q (some i) H1
theorem intsAre_of {ns:List Int}:∀ {us:List Value},Vals (ns.map V.int) us->IntsAre us ns:=by
 induction ns with
 | nil=>intro us r;rw [List.map_nil] at r;cases r;exact .nil
 | cons n ns ih =>
  intro us r;rw [zAk] at r
  cases r with
  | cons r1 r2 =>
   obtain ⟨t,e⟩:=r1;subst e;exact .cons n t (ih r2)
section
variable {X:Cx}{e:Expr}{te:TE}{lo hi:Option Expr}{tl th:TO}{pos p2:Pos}
theorem iD:PO X none Am:=by
 intro pins s σ H Q I h;rw [evalPart_none];exact zB0 ⟨none,H,I,.none,h⟩
theorem iG (h:PE X e te):PO X (some e) (Fq te):=by
 intro pins s σ H Q I hw;rw [evalPart_some];refine thn (h pins s σ H _ I hw) fun u s1 ⟨x,H1,I1,r1,q1⟩=>?_;obtain ⟨i,rfl,q⟩:=q1;obtain ⟨t,rfl⟩:=r1;exact ⟨some i,H1,I1,.int i t,q⟩
def SlR (X:Cx)(r:V->Option Int->Option Int->Hp->VK->Prop):Prop :=
 ∀ (pins:List (Addr×Obj)) (s:Shared) (σ:St) (H:Hp) (x:V) (v vl vu:Value) (lo hi:Option Int) (sl:Addr) (Q:VK),Inv X pins σ H s->RelV x v->s.heap.IsSliceOf sl vl vu .none->IsPart vl lo->IsPart vu hi->r x lo hi H Q ->
  ∃ T id,typeLookup (.type T) "__getitem__" = pure (some (.builtin id))/\s.TypeIs v T/\wpAny (model X.prog X.w) X.A (getItem v (.ref sl)) (EP X pins σ Q) X.xe s
def tSl (r:V->Option Int->Option Int->Hp->VK->Prop)(te:TE)(tl th:TO):TE:=fun σ H Q=>te σ H fun x H1=>tl σ H1 fun l H2=>th σ H2 fun u H3=>r x l u H3 Q
theorem gj {r:V->Option Int->Option Int->Hp->VK->Prop}(hr:SlR X r)(he:PE X e te)(hl:PO X lo tl)(hu:PO X hi th):PE X (.Subscript e (.Slice lo hi none p2) pos) (tSl r te tl th):=by
 intro pins s σ H Q I h;refine Subscript_ (thn (he pins s σ H _ I h) fun v s1 ⟨x,H1,I1,r1,q1⟩=>?_);refine wpAny_Slice (thn (hl pins s1 σ H1 _ I1 q1) fun vl s2 ⟨l,H2,I2,pl,q2⟩=>thn (hu pins s2 σ H2 _ I2 q2) fun vu s3 ⟨u,H3,I3,pu,q3⟩=>?_);rw [evalPart_none];refine zB0 ?_;have I4:Inv X pins σ H3 { s3 with heap:=s3.heap.push { cls:=.type "slice",data:=.fields #[vl,vu,.none] } }:=I3.kept (t':=s3.toks) fun b ob q=>zAz _ q;obtain ⟨T,id,hT,ht,hg⟩:=hr pins { s3 with heap:=s3.heap.push { cls:=.type "slice",data:=.fields #[vl,vu,.none] } } σ H3 x v vl vu l u s3.heap.objs.size Q I4 r1 (Heap.IsSliceOf.new ..) pl pu q3;show wpAny (model X.prog X.w) X.A (subscriptTail e (.Slice lo hi none p2) v (.ref s3.heap.objs.size)) (EP X pins σ Q) X.xe { s3 with heap:=s3.heap.push { cls:=.type "slice",data:=.fields #[vl,vu,.none] } };exact tail_any (ops:=[.ref s3.heap.objs.size,v]) ht hT hg (by with_unfolding_all rfl)
def iH (xs:List V)(lo hi:Option Int):List V:=(xs.drop (HT.sIx xs.length 0 lo)).take (HT.sIx xs.length xs.length hi - HT.sIx xs.length 0 lo)
theorem jA (xs:List V)(lo hi:Option Int):(iH xs lo hi).length<=xs.length:=by
 unfold iH;rw [zAd,List.length_drop];lia
inductive RSlTI (K:PySem.W.Frag)(x:V)(lo:Option Int)(hi:Option Int)(H:Hp)(Q:VK):Prop
 | mk:∀ a xs,(x=.ref a)->(SqT K H a xs)->(¬ (HT.sIx xs.length 0 lo=0/\HT.sIx xs.length xs.length hi=xs.length))->(∀ p,H p=none->Q (.ref p) (upd H p (.tup (iH xs lo hi))))->RSlTI K x lo hi H Q
def Hn (K:PySem.W.Frag):V->Option Int->Option Int->Hp->VK->Prop:=fun x lo hi H Q=>RSlTI K x lo hi H Q
theorem Du:SlR X (Hn X.K):=by
 intro pins s σ H x v vl vu lo hi sl Q I rx hs pl pu h;obtain ⟨a,xs,rfl,hx,hw,q⟩:=h;cases rx;obtain ⟨its,r,ht,hz⟩:=I.tuple hx;have hlen:its.toArray.size=xs.length:=by rw [zA8];exact r.length.symm
 refine ⟨"tuple",_,PyProof.Rows.slot_tuple_getitem.lookup,ht.typeIs,?_⟩;refine HT.getItem_tuple_cut ht hs pl pu (by rw [hlen];exact hw) ?_ (by rw [hlen];exact hz);rw [hlen];refine ⟨.ref s.heap.objs.size,_,I.laid (t':=s.toks) (o:=.tup (iH xs lo hi)) (fun b ob q=>zAz _ q) (zA3 _) ?_,rfl,q _ (I.hok.fresh (zA3 _))⟩;exact ⟨Nat.le_trans (jA xs lo hi) hz,_,(r.drop (HT.sIx xs.length 0 lo)).take (HT.sIx xs.length xs.length hi - HT.sIx xs.length 0 lo),IsTup.new _ _⟩
inductive RCatTI (K:PySem.W.Frag)(x:V)(y:V)(H:Hp)(Q:VK):Prop
 | mk:∀ a b xs ys,(x=.ref a)->(y=.ref b)->(SqT K H a xs)->(SqT K H b ys)->(xs≠[])->(xs.length+ys.length<=sizeLine)->((ys=[]->Q (.ref a) H))->((ys≠[]->∀ p,H p=none->Q (.ref p) (upd H p (.tup (xs++ys)))))->RCatTI K x y H Q
def Ft (K:PySem.W.Frag):R2:=fun x y H Q=>RCatTI K x y H Q
theorem Vals.nil_iff {xs:List V}{us:List Value}(r:Vals xs us):us=[]↔xs=[]:=by
 cases r with
 | nil=>simp
 | cons _ _=>simp
theorem An:OpR X (binaryOp .Add) (Ft X.K):=by
 intro pins s σ H x y v u Q I rx ry h;obtain ⟨a,b,xs,ys,rfl,rfl,ha,hb,hx,hz,q1,q2⟩:=h;cases rx;cases ry;obtain ⟨its,r1,p1,_⟩:=I.tuple ha;obtain ⟨bq,r2,p2,_⟩:=I.tuple hb;refine HT.cat_tup p1 p2 (fun z=>hx (r1.nil_iff.mp z)) (fun z=>⟨.ref a,H,I,rfl,q1 (r2.nil_iff.mp z)⟩) (fun z=>?_) (by rw [<- r1.length,<- r2.length];exact hz);refine ⟨.ref s.heap.objs.size,_,I.laid (t':=s.toks) (o:=.tup (xs++ys)) (fun b ob q=>zAz _ q) (zA3 _) ?_,rfl,q2 (fun w=>z (r2.nil_iff.mpr w)) _ (I.hok.fresh (zA3 _))⟩;exact ⟨by rw [zA2];exact hz,_,r1.append r2,IsTup.new _ _⟩
end
def ixN (n:Nat)(i:Int):Option Nat:=if 0<=i then (if i < n then some i.toNat else none) else if -(n:Int)<=i then some (i+n).toNat else none
def atI {α:Type}(xs:List α)(i:Int):Option α:=(ixN xs.length i).bind fun j=>xs[j]?
theorem uz {n:Nat}{i:Int}{j:Nat}(h:ixN n i=some j):seqIndex? i n=some j/\j < n/\-(n:Int)<=i/\i < n:=by
 unfold ixN at h;by_cases h0:0<=i
 ·rw [zAx h0] at h;by_cases h1:i < n
  ·rw [zAx h1] at h;have e:i.toNat=j:=zAl h;exact ⟨by rw [seqIndex_of h0 h1,e],by lia,by lia,h1⟩
  ·rw [zAu h1] at h;cases h
 ·rw [zAu h0] at h;by_cases h1:-(n:Int)<=i
  ·rw [zAx h1] at h;have e:(i+n).toNat=j:=zAl h;exact ⟨by rw [seqIndex_neg (by lia) h1,e],by lia,h1,by lia⟩
  ·rw [zAu h1] at h;cases h
theorem uA {α:Type}{xs:List α}{i:Int}{v:α}(h:atI xs i=some v):∃ j,seqIndex? i xs.length=some j/\xs[j]?=some v/\j < xs.length/\-(xs.length:Int)<=i/\i < xs.length:=by
 unfold atI at h
 cases e:ixN xs.length i with
 | none=>rw [e] at h;cases h
 | some j =>
  rw [e] at h;obtain ⟨h1,h2,h3,h4⟩:=uz e;exact ⟨j,h1,h,h2,h3,h4⟩
theorem bQ {α:Type}{xs:List α}{j:Nat}{v:α}(h:xs[j]?=some v):atI xs (j:Int)=some v:=by
 have hj:j < xs.length:=(zAa.mp h).1
 have e:ixN xs.length (j:Int)=some j:=by
  unfold ixN;rw [if_pos (by lia),if_pos (by lia)];simp
 unfold atI;rw [e];exact h
def pO (b:Expr):Prop:=∀ o i,subscripted b false o i=operate [o,i] (getItem o i)
def IxR (X:Cx)(r:R2):Prop :=
 ∀ (value slice:Expr) (pins:List (Addr×Obj)) (s:Shared) (σ:St) (H:Hp) (x y:V) (v u:Value) (Q:VK),Inv X pins σ H s->RelV x v->RelV y u->r x y H Q ->
  subscripted slice false v u=operate [v,u] (getItem v u)->wpAny (model X.prog X.w) X.A (subscriptTail value slice v u) (EP X pins σ Q) X.xe s
def MtR (X:Cx)(id:String)(r:V->List V->Hp->VK->Prop):Prop :=
 ∀ (pins:List (Addr×Obj)) (s:Shared) (σ:St) (H:Hp) (x:V) (xs:List V) (v:Value) (us:List Value) (Q:VK),Inv X pins σ H s->RelV x v->Vals xs us->r x xs H Q ->
  wpAny (model X.prog X.w) X.A (call (.builtin id) (v::us)) (EP X pins σ Q) X.xe s
section
variable {X:Cx}{a b:Expr}{ta tb:TE}{pos:Pos}
theorem Cv {r:R2}(hr:IxR X r)(ha:PE X a ta)(hb:PE X b tb)(hs:pO b):PE X (.Subscript a b pos) (tOp r ta tb):=by
 intro pins s σ H Q I h;exact Subscript_ (Dn ha hb I h fun v u s2 x y H2 I2 rx ry q=>hr a b pins s2 σ H2 x y v u Q I2 rx ry q (hs _ _))
inductive RIxLI (K:PySem.W.Frag)(x:V)(y:V)(H:Hp)(Q:VK):Prop
 | mk:∀ p xs i v,(x=.ref p)->(y=.int i)->(SqL K H p xs)->(atI xs i=some v)->(Q v H)->RIxLI K x y H Q
def Fv (K:PySem.W.Frag):R2:=fun x y H Q=>RIxLI K x y H Q
inductive RIxTI (K:PySem.W.Frag)(x:V)(y:V)(H:Hp)(Q:VK):Prop
 | mk:∀ p xs i v,(x=.ref p)->(y=.int i)->(SqT K H p xs)->(atI xs i=some v)->(Q v H)->RIxTI K x y H Q
def Fw (K:PySem.W.Frag):R2:=fun x y H Q=>RIxTI K x y H Q
theorem bL:IxR X (Fv X.K):=by
 intro value slice pins s σ H x y v u Q I rx ry h hs;obtain ⟨p,xs,i,z,rfl,rfl,hq,he,q⟩:=h;cases rx;obtain ⟨t,rfl⟩:=ry;obtain ⟨its,r,pl,hz⟩:=I.list hq;obtain ⟨j,h1,h2,h3,h4,h5⟩:=uA he;obtain ⟨w,ew,fw⟩:=r.get h2;have hl:=r.length;have hn:=lq
 have fin:EP X pins σ Q w s:=⟨z,H,I,fw,q⟩
 by_cases h0:0<=i
 ·have hj:i.toNat=j:=by
   rw [seqIndex_of h0 h5] at h1;exact zAl h1
  exact item_listR pl.isList h0 (by lia) (by rw [hj];simpa using ew) fin hs
 ·have hj:(i+(its.toArray.size:Int)).toNat=j:=by
   rw [seqIndex_neg (by lia) h4] at h1;rw [zA8,<- hl];exact zAl h1
  exact subscriptTail_builtinR (x:=w) pl.isList.typeIs slot_list_getitem.lookup
   (wpAny_getItem_list_neg (Q:=fun r s'=>r=w/\EP X pins σ Q r s') pl.isList (by lia) (by rw [List.size_toArray] <;> lia) (by lia) (by rw [hj];simpa using ew) ⟨rfl,fin⟩) hs
theorem cM:IxR X (Fw X.K):=by
 intro value slice pins s σ H x y v u Q I rx ry h hs;obtain ⟨p,xs,i,z,rfl,rfl,hq,he,q⟩:=h;cases rx;obtain ⟨t,rfl⟩:=ry;obtain ⟨its,r,pl,hz⟩:=I.tuple hq;obtain ⟨j,h1,h2,h3,h4,h5⟩:=uA he;obtain ⟨w,ew,fw⟩:=r.get h2;have hl:=r.length;have hn:=lq
 have fin:EP X pins σ Q w s:=⟨z,H,I,fw,q⟩
 exact subscriptTail_builtinR (x:=w) pl.typeIs slot_tuple_getitem.lookup
  (getItem_tuple (j:=j) (Q:=fun r s'=>r=w/\EP X pins σ Q r s') pl (by lia) (by lia) (by rw [List.size_toArray,<- hl];exact h1) (by simpa using ew) ⟨rfl,fin⟩) hs
theorem tM (its:List Value)(n j:Nat)(u:Value):Obj.mapSeq (·.setIfInBounds j u) { cls:=.type "list",data:=.seq its.toArray n }={ cls:=.type "list",data:=.seq (its.set j u).toArray n }:=by
 simp [Obj.mapSeq]
theorem Inv.lst {pins:List (Addr×Obj)}{σ:St}{H:Hp}{s:Shared}{p:Addr}{xs:List V}(I:Inv X pins σ H s)(h:H p=some (.lst xs)) :
  ∃ (its:List Value) (n:Nat),Vals xs its/\s.heap.get? p=some { cls:=.type "list",data:=.seq its.toArray n }/\xs.length<=sizeLine:=by
 obtain ⟨z,its,n,r,e⟩:=I.hok p _ h;exact ⟨its,n,r,e,z⟩
theorem Inv.lstUpd {pins:List (Addr×Obj)}{σ:St}{H:Hp}{s:Shared}{p:Addr}{xs ys:List V}{its its':List Value}{n n':Nat}{f:Obj->Obj}(I:Inv X pins σ H s)(h:H p=some (.lst xs))
  (ho:s.heap.get? p=some { cls:=.type "list",data:=.seq its.toArray n }) (hf:f { cls:=.type "list",data:=.seq its.toArray n }={ cls:=.type "list",data:=.seq its'.toArray n' }) (r:Vals ys its') (hz:ys.length<=sizeLine) (t:Nat) :
  Inv X pins σ (upd H p (.lst ys)) { s with heap:=s.heap.update p f,toks:=t }:=by
 have e:(s.heap.update p f).get? p=some { cls:=.type "list",data:=.seq its'.toArray n' }:=by
  rw [Heap.get?_update_self f ho (by rw [hf] <;> rfl),hf]
 refine I.write (x:=p) (e:=p) (by rw [h];trivial) (.inl rfl) (fun b u hb q=>(Heap.get?_update_other _ _ (Ne.symm hb)).trans q) ⟨_,e⟩ ?_;exact ⟨hz,its',n',r,e⟩
inductive RSetLI (o:V)(i:V)(v:V)(H:Hp)(Q:Hp->Prop):Prop
 | mk:∀ p xs k j,(o=.ref p)->(i=.int k)->(H p=some (.lst xs))->(ixN xs.length k=some j)->(Q (upd H p (.lst (xs.set j v))))->RSetLI  o i v H Q
def Fx:V->V->V->Hp->(Hp->Prop)->Prop:=fun o i v H Q=>RSetLI  o i v H Q
theorem set_list:Dm X Fx:=by
 intro pins s σ H o i v ov iv u Q I ro ri rv h;obtain ⟨p,xs,k,j,rfl,rfl,hp,hj,q⟩:=h;cases ro;obtain ⟨t,rfl⟩:=ri;obtain ⟨its,n,r,ho,hz⟩:=I.lst hp;obtain ⟨h1,h2,h3,h4⟩:=uz hj;have hl:=r.length;have hn:=lq
 have I':Inv X pins σ (upd H p (.lst (xs.set j v))) { s with heap:=s.heap.update p (Obj.mapSeq (·.setIfInBounds j u)) } :=
  I.lstUpd hp ho (tM its n j u) (r.set rv j) (by rw [List.length_set];exact hz) s.toks
 by_cases h0:0<=k
 ·have hk:k.toNat=j:=by
   rw [seqIndex_of h0 h4] at h1;exact zAl h1
  exact PySem.W.ki_setAt ho h0 (by lia) (by rw [zA8,<- hl];exact h4) (by rw [hk];exact ⟨_,I',q⟩)
 ·have hk:(k+(its.toArray.size:Int)).toNat=j:=by
   rw [seqIndex_neg (by lia) h3] at h1;rw [zA8,<- hl];exact zAl h1
  exact PySem.W.ki_setBack ho (by lia) (by rw [zA8,<- hl];exact h3) (by lia) (by rw [hk];exact ⟨_,I',q⟩)
theorem pP (lo hi:Option Int)(n:Nat):(sliceBounds lo hi none n).1=((HT.sIx n 0 lo:Nat):Int)/\(sliceBounds lo hi none n).2.1=((HT.sIx n n hi:Nat):Int)/\(sliceBounds lo hi none n).2.2=1:=by
 refine ⟨?_,?_,rfl⟩
 ·cases lo with
  | none=>simp [sliceBounds,HT.sIx]
  | some i =>
   simp only [sliceBounds,HT.sIx,Option.getD_none,show (1:Int) > 0 by decide,if_true];by_cases h:i < 0
   ·simp only [h,if_true] <;> lia
   ·simp only [h,if_false] <;> lia
 ·cases hi with
  | none=>simp [sliceBounds,HT.sIx]
  | some i =>
   simp only [sliceBounds,HT.sIx,Option.getD_none,show (1:Int) > 0 by decide,if_true];by_cases h:i < 0
   ·simp only [h,if_true] <;> lia
   ·simp only [h,if_false] <;> lia
theorem mY (its:List Value)(lo hi:Option Int):slicePick its.toArray lo hi none=((its.drop (HT.sIx its.length 0 lo)).take (HT.sIx its.length its.length hi - HT.sIx its.length 0 lo)).toArray:=by
 obtain ⟨h1,h2,h3⟩:=pP lo hi its.toArray.size;unfold slicePick;rw [h1,h2,h3];simp only [sliceRange_one,pick_run,List.size_toArray] <;> rfl
inductive RSlLI (K:PySem.W.Frag)(x:V)(lo:Option Int)(hi:Option Int)(H:Hp)(Q:VK):Prop
 | mk:∀ a xs,(x=.ref a)->(SqL K H a xs)->(∀ p,H p=none->Q (.ref p) (upd H p (.lst (iH xs lo hi))))->RSlLI K x lo hi H Q
def Ho (K:PySem.W.Frag):V->Option Int->Option Int->Hp->VK->Prop:=fun x lo hi H Q=>RSlLI K x lo hi H Q
theorem Ao:SlR X (Ho X.K):=by
 intro pins s σ H x v vl vu lo hi sl Q I rx hs pl pu h;obtain ⟨a,xs,rfl,hx,q⟩:=h;cases rx;obtain ⟨its,r,ht,hz⟩:=I.list hx;have hlen:=r.length;refine ⟨"list",_,slot_list_getitem.lookup,ht.isList.typeIs,?_⟩;refine wpAny_getItem_list_slice ht.isList hs pl pu .none (by simp) ?_ (by rw [List.size_toArray] <;> lia);rw [mY,<- hlen];refine ⟨.ref s.heap.objs.size,_,I.laid (t':=s.toks) (o:=.lst (iH xs lo hi)) (fun b ob q=>Heap.get?_push_of_some _ q) (zA3 _) ?_,rfl,q _ (I.hok.fresh (zA3 _))⟩;exact ⟨Nat.le_trans (jA xs lo hi) hz,_,0,(r.drop (HT.sIx xs.length 0 lo)).take (HT.sIx xs.length xs.length hi - HT.sIx xs.length 0 lo),Heap.get?_push_size _ rfl⟩
theorem bT:du X (.builtin "len") (fun xs H Q=>∃ p ys,xs=[.ref p]/\(SqL X.K H p ys\/SqT X.K H p ys)/\Q (.int ys.length) H):=by
 intro pins s σ H xs us Q I r h;obtain ⟨p,ys,rfl,hq,q⟩:=h;obtain ⟨u,rfl,rx⟩:=vals1 r;cases rx;have hn:=lq;rcases hq with hq | hq
 ·obtain ⟨its,r',pl,hz⟩:=I.list hq;have hlen:=r'.length;exact Calls.call_len_list pl.isList (by simp only [List.size_toArray] <;> lia) ⟨.int ys.length,H,I.tok _,⟨s.toks+1,by rw [List.size_toArray,hlen]⟩,q⟩
 ·obtain ⟨its,r',pl,hz⟩:=I.tuple hq;have hlen:=r'.length;exact len_tuple pl (by simp only [List.size_toArray] <;> lia) ⟨.int ys.length,H,I.tok _,⟨s.toks+1,by rw [List.size_toArray,hlen]⟩,q⟩
theorem iI:du X (.type "list") (fun xs H Q=>∃ p ys,xs=[.ref p]/\(SqL X.K H p ys\/SqT X.K H p ys)/\∀ l,H l=none->Q (.ref l) (upd H l (.lst ys))):=by
 intro pins s σ H xs us Q I r h;obtain ⟨p,ys,rfl,hq,q⟩:=h;obtain ⟨u,rfl,rx⟩:=vals1 r;cases rx
 have fin:∀ (its:List Value),Vals ys its->ys.length<=sizeLine->∀ (h':Heap) (c':Nat),(∀ b o',s.heap.get? b=some o'->h'.get? b=some o') ->
   h'.get? s.heap.objs.size=some { cls:=.type "list",dict:=none,data:=.seq its.toArray c',slots:=#[] }->EP X pins σ Q (.ref s.heap.objs.size) { s with heap:=h' }:=fun its r' hz h' c' kp e =>
  ⟨.ref s.heap.objs.size,_,I.laid (t':=s.toks) kp (zA3 _) (show ObjOk X.prog X.w _ h' _ (.lst ys) from ⟨hz,its,c',r',e⟩),rfl,q _ (I.hok.fresh (zA3 _))⟩
 rcases hq with hq | hq
 ·obtain ⟨its,r',pl,hz⟩:=I.list hq;have hlen:=r'.length;obtain ⟨o,ho,hc,n,hd⟩:=pl.isList;exact call_list_seq p (.inl rfl) ho hc hd (fun h' c' kp e=>fin its r' hz h' c' kp e) (by simp only [List.size_toArray] <;> lia)
 ·obtain ⟨its,r',pl,hz⟩:=I.tuple hq;have hlen:=r'.length;obtain ⟨o,ho,hc,n,hd⟩:=pl;exact call_list_seq p (.inr rfl) ho hc hd (fun h' c' kp e=>fin its r' hz h' c' kp e) (by simp only [List.size_toArray] <;> lia)
theorem bH:du X (.type "tuple") (fun xs H Q=>∃ p ys,xs=[.ref p]/\((SqL X.K H p ys/\∀ l,H l=none->Q (.ref l) (upd H l (.tup ys)))\/(SqT X.K H p ys/\Q (.ref p) H))):=by
 intro pins s σ H xs us Q I r h;obtain ⟨p,ys,rfl,h⟩:=h;obtain ⟨u,rfl,rx⟩:=vals1 r;cases rx;rcases h with ⟨hq,q⟩ | ⟨hq,q⟩
 ·obtain ⟨its,r',pl,hz⟩:=I.list hq;have hlen:=r'.length;refine call_tuple_list pl.isList (fun h' kp=>?_) (by simp only [List.size_toArray] <;> lia);have I1:Inv X pins σ H { s with heap:=h' }:=I.kept (t':=s.toks) kp
  have I2:Inv X pins σ (upd H h'.objs.size (.tup ys)) { s with heap:=h'.push { cls:=.type "tuple",data:=.seq its.toArray } } :=
   I1.laid (t':=s.toks) (fun b o e=>zAz _ e) (zA3 _) (show ObjOk X.prog X.w _ _ _ (.tup ys) from ⟨hz,its,r',IsTup.new _ _⟩)
  exact ⟨.ref h'.objs.size,_,I2,rfl,q _ (I1.hok.fresh (zA3 _))⟩
 ·obtain ⟨its,r',pl,hz⟩:=I.tuple hq;exact call_tuple_same pl ⟨.ref p,H,I,rfl,q⟩
def tyV (K:PySem.W.Frag)(T:String)(x:V)(H:Hp):Prop:=match x with
 | .str _=>T="str"
 | .int _=>T="int"
 | .ref p=>(T="list" /\ ∃ xs,SqL K H p xs)\/(T="tuple" /\ ∃ o,K.lookup p=some o/\o.cls=.type "tuple" /\ o.dict=none) \/
   (T="dict" /\ ((∃ kvs,H p=some (.dK kvs))\/∃ kvs,H p=some (.dT kvs)))\/(T="set" /\ ∃ S n,H p=some (.set S n))
 | _=>False
theorem Dv {pins:List (Addr×Obj)}{σ:St}{H:Hp}{s:Shared}{T:String}{x:V}{v:Value}(I:Inv X pins σ H s)(r:RelV x v)(ty:tyV X.K T x H) :
  s.TypeIs v T/\∀ a,v=.ref a->∃ ob,s.heap.get? a=some ob/\ob.dict=none:=by
 cases x with
 | str z =>
  obtain ⟨t,rfl⟩:=r;cases (show T="str" from ty);exact ⟨typeIs_str s z t,fun _ e=>nomatch e⟩
 | int i =>
  obtain ⟨t,rfl⟩:=r;cases (show T="int" from ty);exact ⟨typeIs_int s i t,fun _ e=>nomatch e⟩
 | ref p =>
  cases r;rcases ty with ⟨rfl,xs,hq⟩ | ⟨rfl,o,hk,hc,hd⟩ | ⟨rfl,hk⟩ | ⟨rfl,S,n,hk⟩
  ·obtain ⟨its,_,pl,_⟩:=I.list hq;refine ⟨pl.isList.typeIs,fun a e=>?_⟩;cases e;obtain ⟨o,n,e,c,hd,_⟩:=pl;exact ⟨o,e,hd⟩
  ·refine ⟨⟨o,I.kIn p o hk,hc⟩,fun a e=>?_⟩;cases e;exact ⟨o,I.kIn _ o hk,hd⟩
  ·have z:∃ o,s.heap.get? p=some o/\o.ExactDict:=by
    rcases hk with ⟨kvs,hk⟩ | ⟨kvs,hk⟩
    ·obtain ⟨_,_,_,_,o,_,_,e,ex,_⟩:=I.hok p _ hk;exact ⟨o,e,ex⟩
    ·obtain ⟨_,_,_,_,o,_,_,e,ex,_⟩:=I.hok p _ hk;exact ⟨o,e,ex⟩
   obtain ⟨o,e,ex⟩:=z;refine ⟨⟨o,e,ex.1⟩,fun a e2=>?_⟩;cases e2;exact ⟨o,e,ex.2.1⟩
  ·obtain ⟨o,_,_,_,e,ex,_⟩:=I.hok p _ hk;refine ⟨⟨o,e,ex.1⟩,fun a e2=>?_⟩;cases e2;exact ⟨o,e,ex.2.1⟩
 | _=>exact False.elim ty
def tBM (K:PySem.W.Frag)(T:String)(r:V->List V->Hp->VK->Prop)(to:TE)(t:TA):TE:=fun σ H Q=>to σ H fun x H1=>tyV K T x H1/\t σ H1 fun xs H2=>r x xs H2 Q
variable {o e:Expr}{es:List Expr}{to:TE}{t:TA}{name:Str}{apos fE:Pos}{T id:String}{r:V->List V->Hp->VK->Prop}
theorem uB (pa:PlainAttrs T)(slot:Slot T name id)(KR:typeOf (.builtin id)=pure (.type "method_descriptor"))(hm:MtR X id r)(ho:PE X o to)(ha:PA X (e::es) t)
  (vw:attributeBase o name X.env (eval o X.env)=eval o X.env:=by rfl)
  (Cf:((backTo fE (starEach (e::es) X.env)).all (fun x=>!x.1) && (backToKw fE (keywordEach [] X.env)).all (fun x=>x.1.isSome)
   && decide ((e::es).length+([]:List Keyword).length+(if ([]:List Keyword).isEmpty then 0 else 1) < 30))=true:=by rfl)
  (vx:(apos.endLine == fE.line)=true:=by rfl) (hs:starEach (e::es) X.env=(false,eval e X.env)::starEach es X.env:=by rfl) (pd:(backTo fE (starEach es X.env)).any (·.1)=false:=by rfl) :
  PE X (.Call (.Attribute o name apos) (e::es) [] fE) (tBM X.K T r to t):=by
 intro pins s σ H Q I h;refine wpAny_Call_method_late vw Cf vx rfl (thn (ho pins s σ H _ I h) fun v s1 ⟨x,H1,I1,r1,ty,q1⟩=>?_);obtain ⟨h1,h2⟩:=Dv I1 r1 ty;refine ⟨T,id,pa,slot,KR,h1,h2,?_⟩;have hA:=ha fE pins s1 σ H1 _ I1 q1;rw [hs] at hA ⊢;refine Calls.callWith_builtin (by show (false || (backTo fE (starEach es X.env)).any (·.1))=false;rw [pd] <;> rfl) (Calls.evalArgs_plain ?_);exact thn hA fun us s2 ⟨vs,H2,I2,r2,q2⟩=>hm pins s2 σ H2 x vs v us Q I2 r1 r2 q2
end
def MtM (X:Cx)(id:String)(r:V->List V->Hp->VK->Prop):Prop :=
 ∀ (pins:List (Addr×Obj)) (s:Shared) (σ:St) (H:Hp) (x:V) (xs:List V) (v:Value) (us:List Value) (Q:VK),Inv X pins σ H s->RelV x v->Vals xs us->r x xs H Q ->
  wpAny (model X.prog X.w) X.A (call (.builtin id) (v::us)) (EP X pins σ Q) X.xe s
theorem Vals.one:∀ {x:V} {us:List Value},Vals [x] us->∃ u,us=[u]/\RelV x u
 | _,_,.cons r .nil=>⟨_,rfl,r⟩
theorem Vals.zero:∀ {us:List Value},Vals [] us->us=[]
 | _,.nil=>rfl
theorem Vals.reverse {xs:List V}{us:List Value}(h:Vals xs us):Vals xs.reverse us.reverse:=by
 induction h with
 | nil=>exact .nil
 | cons r t ih=>rw [List.reverse_cons,List.reverse_cons];exact Vals.append ih (.cons r .nil)
theorem Vals.rep {xs:List V}{us:List Value}(h:Vals xs us):∀ k:Nat,Vals (List.replicate k xs).flatten (List.replicate k us).flatten
 | 0=>.nil
 | k+1=>by
  rw [List.replicate_succ,List.replicate_succ,List.flatten_cons,List.flatten_cons];exact Vals.append h (Vals.rep h k)
theorem foldl_rep (its:List Value):∀ (k:Nat) (acc:List Value),
  List.foldl (fun x1 x2=>x1++x2) acc.toArray (List.replicate k its.toArray)=(acc++(List.replicate k its).flatten).toArray
 | 0,acc=>by simp
 | k+1,acc=>by
  have e:acc.toArray++its.toArray=(acc++its).toArray:=by simp
  have e2:(acc++its)++(List.replicate k its).flatten=acc++(List.replicate (k+1) its).flatten:=by
   rw [List.replicate_succ,List.flatten_cons,zAf]
  rw [<- e2,<- foldl_rep its k (acc++its),<- e,List.replicate_succ,List.foldl_cons]
section
variable {X:Cx}{pins:List (Addr×Obj)}{σ:St}{H:Hp}{s:Shared}{l b:Addr}{xs ys zs:List V}
theorem Inv.lset {its its':List Value}{n:Nat}{f:Array Value->Array Value}{t':Nat}(I:Inv X pins σ H s)(hH:H l=some (.lst xs))
  (e:s.heap.get? l=some { cls:=.type "list",data:=.seq its.toArray n }) (hf:f its.toArray=its'.toArray) (hv:Vals ys its') (hz:ys.length<=sizeLine) :
  Inv X pins σ (upd H l (.lst ys)) { s with heap:=s.heap.update l (Obj.mapSeq f),toks:=t' }:=by
 have q:=PySem.IsL.update e f;rw [hf] at q;refine I.write (x:=l) (e:=l) (by rw [hH];exact trivial) (.inl rfl) (fun b' u hb hu=>(Heap.get?_update_other s.heap (Obj.mapSeq f) (Ne.symm hb)).trans hu) ⟨_,q⟩ ?_;exact ⟨hz,its',_,hv,q⟩
theorem Inv.lnew {its:List Value}{t':Nat}(I:Inv X pins σ H s)(hv:Vals ys its)(hz:ys.length<=sizeLine) :
  Inv X pins σ (upd H s.heap.objs.size (.lst ys)) { s with heap:=s.heap.push { cls:=.type "list",data:=.seq its.toArray },toks:=t' } :=
 I.laid (fun _ _ q=>zAz _ q) (zA3 _) ⟨hz,its,0,hv,zB3 _ rfl⟩
theorem Inv.fresh (I:Inv X pins σ H s):H s.heap.objs.size=none:=I.hok.fresh (zA3 _)
theorem Inv.lstM (I:Inv X pins σ H s)(hH:H l=some (.lst xs)):xs.length<=sizeLine/\∃ (its:List Value) (n:Nat),Vals xs its/\xs.length=its.length/\s.heap.get? l=some { cls:=.type "list",data:=.seq its.toArray n }:=by
 obtain ⟨z,its,n,r,e⟩:=I.hok l _ hH;exact ⟨z,its,n,r,r.length,e⟩
theorem lB {n:Nat}(h:n<=sizeLine):Builtin.List.listTooLong n=false:=by
 unfold Builtin.List.listTooLong;exact zB1 (by lia)
end
section
variable {X:Cx}
inductive RAppendI (x:V)(vs:List V)(H:Hp)(Q:VK):Prop
 | mk:∀ l xs y,(x=.ref l)->(vs=[y])->(H l=some (.lst xs))->(xs.length < sizeLine)->(Q .non (upd H l (.lst (xs++[y]))))->RAppendI  x vs H Q
def Aq:V->List V->Hp->VK->Prop:=fun x vs H Q=>RAppendI  x vs H Q
theorem gK:MtM X "list.append" Aq:=by
 intro pins s σ H x vs v us Q I rx rv h;obtain ⟨l,xs,y,rfl,rfl,hH,hz,q⟩:=h;cases rx;obtain ⟨u,rfl,ru⟩:=rv.one;obtain ⟨z,its,n,r,hl,e⟩:=I.lstM hH;refine call_meets F.slot_list_append ⟨_,e,rfl⟩ F.entry_list_append (F.args_list_append_2 _ _) (PySem.list_append l its.toArray n u (by rw [zA8];lia)) ⟨e,?_⟩;refine ⟨.non,_,I.lset (its':=its++[u]) hH e (by simp) (r.append (.cons ru .nil)) ?_,rfl,q⟩;rw [zA2,List.length_singleton];lia
inductive RExtendI (x:V)(vs:List V)(H:Hp)(Q:VK):Prop
 | mk:∀ l b xs zs,(x=.ref l)->(vs=[.ref b])->(H l=some (.lst xs))->(H b=some (.lst zs))->(xs.length+zs.length<=sizeLine)->(Q .non (upd H l (.lst (xs++zs))))->RExtendI  x vs H Q
def Ar:V->List V->Hp->VK->Prop:=fun x vs H Q=>RExtendI  x vs H Q
theorem Ey:MtM X "list.extend" Ar:=by
 intro pins s σ H x vs v us Q I rx rv h;obtain ⟨l,b,xs,zs,rfl,rfl,hH,hB,hz,q⟩:=h;cases rx;obtain ⟨u,rfl,ru⟩:=rv.one;cases ru;obtain ⟨z,its,n,r,hl,e⟩:=I.lstM hH;obtain ⟨z2,bq,n2,r2,kP,e2⟩:=I.lstM hB;have hsz:its.toArray.size+bq.toArray.size<=sizeLine:=by rw [zA8,zA8];lia
 have fF:¬ (!its.toArray.isEmpty && Builtin.List.listTooLong (its.toArray.size+bq.toArray.size))=true:=by
  rw [lB hsz,Bool.and_false];exact zAg
 refine call_meets F.slot_list_extend ⟨_,e,rfl⟩ F.entry_list_extend (F.args_list_extend_2 _ _)
  (AutoSeq1.list_extend_list_list_0 l its.toArray n b bq.toArray n2 fF (by rw [zA8];lia) (by lia)) ⟨e,e2,?_⟩
 refine ⟨.non,_,I.lset (its':=its++bq) hH e (by simp) (r.append r2) ?_,rfl,q⟩;rw [zA2];lia
inductive RCatI (x:V)(y:V)(H:Hp)(Q:VK):Prop
 | mk:∀ l b xs zs,(x=.ref l)->(y=.ref b)->(H l=some (.lst xs))->(H b=some (.lst zs))->(xs.length+zs.length<=sizeLine)->(∀ p,H p=none->Q (.ref p) (upd H p (.lst (xs++zs))))->RCatI  x y H Q
def Hq:R2:=fun x y H Q=>RCatI  x y H Q
theorem Dw:OpR X (binaryOp .Add) Hq:=by
 intro pins s σ H x y v u Q I rx ry h;obtain ⟨l,b,xs,zs,rfl,rfl,hH,hB,hz,q⟩:=h;cases rx;cases ry;obtain ⟨z,its,n,r,hl,e⟩:=I.lstM hH;obtain ⟨z2,bq,n2,r2,kP,e2⟩:=I.lstM hB;refine PySem.P.add_list e e2 ?_ (by rw [zA8,zA8];lia);have ea:its.toArray++bq.toArray=(its++bq).toArray:=by simp
 rw [ea];exact ⟨.ref _,_,I.lnew (t':=s.toks) (r.append r2) (by rw [zA2];lia),rfl,q _ I.fresh⟩
inductive RRepI (x:V)(y:V)(H:Hp)(Q:VK):Prop
 | mk:∀ l k xs,(x=.ref l)->(y=.int k)->(H l=some (.lst xs))->(-(2 ^ 63)<=k)->(k < 2 ^ 63)->(xs.length * k.toNat<=sizeLine)->(∀ p,H p=none->Q (.ref p) (upd H p (.lst (List.replicate k.toNat xs).flatten)))->RRepI  x y H Q
def Hr:R2:=fun x y H Q=>RRepI  x y H Q
theorem len_rep {α:Type}(xs:List α)(k:Nat):(List.replicate k xs).flatten.length=k * xs.length:=by
 induction k with
 | zero=>simp
 | succ k ih=>rw [List.replicate_succ,List.flatten_cons,zA2,ih,Nat.succ_mul,Nat.add_comm]
theorem Dy:OpR X (binaryOp .Mult) Hr:=by
 intro pins s σ H x y v u Q I rx ry h;obtain ⟨l,k,xs,rfl,rfl,hH,h1,h2,hz,q⟩:=h;cases rx;obtain ⟨t,rfl⟩:=ry;obtain ⟨z,its,n,r,hl,e⟩:=I.lstM hH;have hlen:its.toArray.size * k.toNat<=sizeLine:=by rw [zA8,<- hl];exact hz
 have Cn:¬ its.toArray.size * k.toNat > (2 ^ 63 - 1) / 8:=by
  have:(sizeLine:Nat)<=(2 ^ 63 - 1) / 8:=by decide
  lia
 have Co:¬ (!Builtin.List.listFitsIndex k)=true:=by
  rw [fitsIndex_both h1 h2];exact zAg
 have fF:¬ Builtin.List.listTooLong (its.toArray.size * k.toNat)=true:=by
  rw [lB hlen];exact zAg
 have Cs:List.foldl (fun x1 x2=>x1++x2) #[] (List.replicate (if its.toArray.isEmpty=true then 0 else k.toNat) its.toArray)=(List.replicate k.toNat its).flatten.toArray:=by
  have f0:∀ m:Nat,List.foldl (fun x1 x2=>x1++x2) #[] (List.replicate m its.toArray)=(List.replicate m its).flatten.toArray:=fun m=>by
   have:=foldl_rep its m [];rw [List.nil_append] at this;exact this
  rw [f0]
  cases its with
  | nil=>simp
  | cons a r'=>rw [if_neg (by simp)]
 refine wpAny_binaryOp_repeat_ref (T:="list") (U:="int") (by decide) ⟨_,e,rfl⟩ (fun s'=>typeIs_int s' k t) noFill_list_mul F.fills_int_mul F.slot_int_rmul repeat_list F.slot_int_index.lookup
  (call_meets F.slot_int_rmul (typeIs_int s k t) F.entry_int_rmul (F.args_int_rmul_2 _ _) (int___rmul___int_list k t l its.toArray n)
   ⟨e,rfl,⟨_,e,rfl⟩,call_meets F.slot_list_mul ⟨_,e,rfl⟩ F.entry_list_mul (F.args_list_mul_2 _ _) (AutoListH.list___mul___list_int_3 l its.toArray n k t Co Cn fF) ⟨e,?_⟩⟩)
 rw [Cs];exact ⟨.ref _,_,I.lnew (t':=s.toks) (r.rep k.toNat) (by rw [len_rep,Nat.mul_comm];exact hz),rfl,q _ I.fresh⟩
end
section
variable {prog:Program}{w:World}{A:Around}{E:Value->Shared->Prop}{s:Shared}
set_option maxRecDepth 100000 in
end
section
variable {X:Cx}
end
end L2
namespace Att
open PySem PySem.W PySem.Calls PyProof.Rows
theorem jK {P:Params}{h:Heap}:∀ (ns:List Int) (vs:List Value),WellAll P h vs (ns.map WData.int)->IntsAre vs ns:=by
 intro ns
 induction ns with
 | nil =>
  intro vs w;rw [List.map_nil] at w;cases w;exact .nil
 | cons n ns ih =>
  intro vs w;rw [zAk] at w
  cases w with
  | cons a b =>
   cases a;exact .cons _ _ (ih _ b)
theorem vX {l:OpenLaw}{n:Nat}(hn:l.most=some n){P:Params}{h:Heap}{args:List WData}{vals:List Value}
  (kU:l.row.toRowW.claim.pre args=true) (Ct:WellAll P h vals args) :
  ∃ a vs ns,vals=[Value.ref a]/\args=[WData.list (ns.map WData.int)]/\h.get? a=some { cls:=.type "list",data:=.seq vs.toArray }/\IntsAre vs ns/\ns.length<=n:=by
 have KS:WShape.hasAll [] args [.list .int]=true:=(pre_splitW kU).1;have hc:l.pre.holds [] { args:=args }=true:=(pre_splitW kU).2;obtain ⟨d,r,rfl,h1,h2⟩:=hasAllW_cons KS;obtain rfl:=hasAllW_nil h2;obtain ⟨xs,rfl,h3⟩:=hasW_list h1;obtain ⟨ns,rfl⟩:=items_int h3
 have hlen:ns.length<=n:=by
  unfold OpenLaw.pre at hc
  have h4:(WTm.not (.lt (.lit (.int (n:Int))) (.len (.arg 0)))).holds [] { args:=[.list (ns.map .int)] }=true:=by
   have h4:=(holds_andW hc).1;rw [hn] at h4;exact h4
  have h5:=condW_of h4 (w_not (w_lt w_lit (w_len_list (w_arg rfl))));rw [zA1] at h5;refine Nat.le_of_not_lt fun q=>?_;have q':(n:Int) < ((ns.length:Nat):Int):=by lia
  first
   | (rw [zAt q'] at h5;exact absurd h5 (by decide))
   | (simp at h5;lia)
 cases Ct with
 | cons w1 w2 =>
  cases w2
  cases w1 with
  | list ho gs=>exact ⟨_,_,ns,rfl,rfl,ho,jK ns _ gs,hlen⟩
theorem vY (l:OpenLaw)(args:List WData):l.row.toRowW.claim.post args (.bool true) args=true :=
 postW_of (r:=l.row.toRowW) (X:=(true == true))
  (show WShape.has [] (.bool true) .bool=true by first | rfl | decide | simp [WShape.has,WShape.arms,WShape.armsAll])
  (show (WTm.eq .res (.lit (.bool true))).value [] { args:=args,res:=some (.bool true),after:=args }=some (.bool (true == true)) from w_eq_bool (w_res rfl) w_lit) rfl
theorem attach_call {l:OpenLaw}{n:Nat}{q:Program}{loose:List Str}{XP:(Str->Option Value)->Heap->Prop}{YP:World->Heap->Prop}{d:DefRec}
  (hn:l.most=some n) (vE:d.params.defaults=[])
  (call:∀ (w:World) (s₀ s₁:Shared) (mg mb:Str->Option Value) (fa:Addr) (o:Obj) (pm cd doc:Value) (a:Addr) (vs:List Value) (ns:List Int),
   Ground q loose [] XP w s₀ mg mb s₁.heap->YP w s₁.heap ->
   s₁.heap.get? fa=some o->o.data=.func (docDef d.name d.params d.body d.scope pm cd doc)->s₁.heap.CodeRec cd d.name->mg d.name=some (.ref fa) ->
   s₁.heap.get? a=some { cls:=.type "list",data:=.seq vs.toArray }->IntsAre vs ns->ns.length<=n->s₁.gens=#[] ->
   codeAny (model l.prog w) callerA (.call (.ref fa) ⟨[.ref a],[]⟩) (fun r s'=>r=.ok (.ret (.bool true))/\OldK s₁.heap s'.heap/\s'.os=s₁.os/\AllBare s'.gens) s₁) :
  WalkO q loose XP YP l.row.toRowW d [] (fun f vs=>PySem.call f vs):=by
 intro w s₀ s₁ mg mb G Y fa o pm cd doc dV kV ho hd iO hD hmg hg args vals as kU KU QG Ct dE;obtain rfl:dV=.none:=Dflts.none hD vE;obtain rfl:kV=.none:=Dflts.noKw hD;obtain ⟨a,vs,ns,rfl,rfl,pe,hints,hlen⟩:=vX hn kU Ct;refine enter_call (codeAny_mono (call w s₀ s₁ mg mb fa o pm cd doc a vs ns G Y ho (fd_plain hd) iO hmg pe hints hlen hg) fun r s' hq=>?_);obtain ⟨rfl,h2,h3,h4⟩:=hq;exact ⟨.inl ⟨.bool true,.bool true,[],rfl,fun _=>rfl,.bool true,vY l _,fun _=>⟨List.Pairwise.nil,fun _ hm=>(nomatch hm)⟩⟩,h2,h3,h4⟩
section
variable {prog:Program}{w:World}{A:Around}{E:Value->Shared->Prop}{s:Shared}{K:Frag}
end
end Att
namespace L2
open PySem PySem.Spec PyProof.Rows
theorem ou:∀ {vs:List Value} {ns:List Int},IntsAre vs ns->Vals (ns.map V.int) vs
 | _,_,.nil=>.nil
 | _,_,.cons n t h=>.cons ⟨t,rfl⟩ (ou h)
def Only (H:Hp):Prop:=∀ b,H b=none\/∃ o xs,H b=some (.frz o (.lst xs))
theorem xT {P:Program}{w:World}{K:PySem.W.Frag}{mg mb:Str->Option Value}{CX:CXT}{k:Nat}{fa a:Addr}{fd:FuncData}{x:Str}{sp:Sp}{s₁:Shared}{vs:List Value}{ns:List Int}
  (KX:K.In s₁.heap) (IB:s₁.heap.Ns mainGlobals mg) (hb:s₁.heap.Ns builtinsNs mb) (KW:∀ x:Str,x≠"__name__" -> mb x=bootBuiltins x) (CA:s₁.heap.NoLimit) (hg:s₁.gens=#[])
  (ha:s₁.heap.get? a=some { cls:=.type "list",data:=.seq vs.toArray }) (hi:IntsAre vs ns) (hl:ns.length<=sizeLine) (hr:Room k callerA)
  (F:∀ base:Heap,K.In base->base.Ns mainGlobals mg->FnOk P w K mg base CX k fa fd [x] sp) (vF:∀ (s:Shared) (u:Value),BindsTo s fd ⟨[u],[]⟩ [(x,u)])
  (mT:∀ H:Hp,Only H->SqL K H a (ns.map V.int)->sp [.ref a] H (fun v _=>v=.bl true) fun _ _ _=>False)
  (CB:∀ H e s',CX [] H s₁ (fun _ _ _=>False) e s'->False) :
  codeAny (model P w) callerA (.call (.ref fa) ⟨[.ref a],[]⟩) (fun r s'=>r=.ok (.ret (.bool true))/\OldK s₁.heap s'.heap/\s'.os=s₁.os/\AllBare s'.gens) s₁:=by
 have rv:=ou hi;have CC:=hi.length
 have core:∀ H:Hp,Only H->SqL K H a (ns.map V.int)->HOk P w H s₁.heap->(∀ b,H b≠none->b=a)->(H a≠none->K.lookup a=none) ->
   codeAny (model P w) callerA (.call (.ref fa) ⟨[.ref a],[]⟩) (fun r s'=>r=.ok (.ret (.bool true))/\OldK s₁.heap s'.heap/\s'.os=s₁.os/\AllBare s'.gens) s₁:=by
  intro H hO hS hok hA hK;have gX:∀ {b:Addr} {o:Obj},s₁.heap.get? b=some o->H b=none->(pI s₁.heap H).get? b=some o:=fun e n=>xH e n
  have vi:∀ {b:Addr} {o:Obj} {es:Array DictEntry} {ep:Nat},s₁.heap.get? b=some o->o.data=.dict es ep->H b=none:=fun {b o es ep} e d=>by
   cases q:H b with
   | none=>rfl
   | some u =>
    have e':b=a:=hA b (by rw [q];simp);subst e';rw [ha] at e;cases e;have d':Data.seq vs.toArray _=Data.dict es ep:=d;cases d'
  have A0:∀ {b:Addr} {m:Str->Option Value},s₁.heap.Ns b m->(pI s₁.heap H).Ns b m:=fun {b m} ⟨o,es,ep,e,d,r⟩=>⟨o,es,ep,gX e (vi e d),d,r⟩
  have IC:K.In (pI s₁.heap H):=fun b o e=>gX (KX b o e) (by
   cases q:H b with
   | none=>rfl
   | some u =>
    have e':b=a:=hA b (by rw [q];simp);subst e'
    rw [hK (by rw [q];simp)] at e;cases e)
  have hM:Mod K mg (pI s₁.heap H):=⟨IC,A0 IB,⟨mb,A0 hb,KW⟩,let ⟨mc,h1,h2⟩:=CA;⟨mc,A0 h1,h2⟩⟩
  have e0:Env0 P w K mg (pI s₁.heap H) callerA [] s₁ H:=⟨rfl,hM,fun b o e=>Ae e,Nat.le_of_eq (vM _ _),trivial,fun b hb=>absurd (show b∈([]:List Addr) from hb) (by simp),hok,.of_eq hg⟩
  refine codeAny_mono ((F _ IC (A0 IB)).run callerA [] s₁ H ⟨[.ref a],[]⟩ [.ref a] [.ref a] _ _ hr e0 (vF s₁ (.ref a)) (.cons rfl .nil) (mT H hO hS)) fun r s' h=>?_
  cases r with
  | error e=>exact (CB H e s' h).elim
  | ok fl =>
   cases fl with
   | next=>exact False.elim h
   | brk=>exact False.elim h
   | cont=>exact False.elim h
   | ret u =>
    obtain ⟨v,H',os,bare,un,CD,r',q⟩:=h;have q':v=.bl true:=q;subst q';obtain rfl:u=Value.bool true:=r';refine ⟨rfl,OldK.of_keep fun b o e=>?_,os,bare⟩
    cases q:H b with
    | none=>exact un.keep b o e q (by intro z;exact absurd (show b∈([]:List Addr) from z) (by simp)) (by simp)
    | some u =>
     rcases hO b with z | ⟨ob,xs,z⟩
     ·rw [q] at z;cases z
     ·have z2:=un.frzs b ob _ z;obtain ⟨e1,_⟩:=hok b _ z;obtain ⟨e2,_⟩:=CD b _ z2;rw [e] at e1;cases e1;exact e2
 cases hk:K.lookup a with
 | some o =>
  have e:=KX a o hk;rw [ha] at e;cases e;refine core (fun _=>none) (fun _=>.inl rfl) (.inr ⟨_,vs.toArray,_,hk,rfl,rfl,rfl,by rw [List.size_toArray,CC];exact hl,by simpa using rv⟩) (fun b u z=>by have z':(none:Option HO)=some u:=z;cases z') (fun b z=>absurd rfl z) fun z=>absurd rfl z
 | none =>
  refine core (fun b=>if b=a then some (.frz { cls:=.type "list",data:=.seq vs.toArray } (.lst (ns.map V.int))) else none) (fun b=>?_) (.inl (.inr ⟨{ cls:=.type "list",data:=.seq vs.toArray },zAx rfl⟩)) (fun b u z=>?_) (fun b z=>?_) fun _=>hk
  ·by_cases hb:b=a
   ·exact .inr ⟨_,_,zAx hb⟩
   ·exact .inl (zAu hb)
  ·by_cases hb:b=a
   ·have z':=(zAx hb).symm.trans z;cases z';subst hb;exact ⟨ha,by rw [zA1];exact hl,vs,_,rv,ha⟩
   ·have z':=(zAu hb).symm.trans z;cases z'
  ·by_cases hb:b=a
   ·exact hb
   ·exact absurd (zAu hb) z
theorem walk_of {l:PySem.W.OpenLaw}{n k:Nat}{q:Program}{loose:List Str}{XP:(Str->Option Value)->Heap->Prop}{YP:World->Heap->Prop}{d:DefRec}{K:Params->PySem.W.Frag}{CX:World->CXT}{sp:World->Sp}{x:Str}
  (hn:l.most=some n) (kX:n<=sizeLine) (vE:d.params.defaults=[]) (hr:Room k callerA)
  (hY:∀ (w:World) (h:Heap),YP w h->(K w.params).In h)
  (F:∀ (w:World) (mg:Str->Option Value) (fa:Addr) (h:Heap),(K w.params).In h->h.Ns mainGlobals mg->mg d.name=some (.ref fa) ->
   ∃ fd:FuncData,(∀ (s:Shared) (u:Value),BindsTo s fd ⟨[u],[]⟩ [(x,u)]) /\
    ∀ base:Heap,(K w.params).In base->base.Ns mainGlobals mg->FnOk l.prog w (K w.params) mg base (CX w) k fa fd [x] (sp w))
  (mT:∀ (w:World) (H:Hp) (a:Addr) (ns:List Int),ns.length<=n->Only H->SqL (K w.params) H a (ns.map V.int)->sp w [.ref a] H (fun v _=>v=.bl true) fun _ _ _=>False)
  (CB:∀ (w:World) (H:Hp) (s:Shared) (e:Value) (s':Shared),CX w [] H s (fun _ _ _=>False) e s'->False) :
  PySem.W.WalkO q loose XP YP l.row.toRowW d [] (fun f vs=>PySem.call f vs):=by
 refine Att.attach_call hn vE fun w s₀ s₁ mg mb fa o pm cd doc a vs ns G Y ho hd iO hmg pe hints hlen hg=>?_;have KX:=hY w _ Y;obtain ⟨fd,hb,hF⟩:=F w mg fa _ KX G.T.g hmg;exact xT KX G.T.g G.T.b G.T.builtins G.T.nolimit hg pe hints (Nat.le_trans hlen kX) hr hF hb (fun H hO hS=>mT w H a ns hlen hO hS) fun H e s'=>CB w H s₁ e s'
def eZ (s:Stmt):Arguments:=match s with
 | .FunctionDef _ a _ _ _ _ _ _ _ _=>a
 | _=>{ posonlyargs:=[],args:=[],vararg:=none,kwonlyargs:=[],kw_defaults:=[],kwarg:=none,defaults:=[] }
def dU (s:Stmt):List Stmt:=match s with
 | .FunctionDef _ _ b _ _ _ _ _ _ _=>b
 | _=>[]
def aK (s:Stmt):Scope:=match s with
 | .FunctionDef _ _ _ _ _ _ sc _ _ _=>sc
 | _=>{ kind:=.function,names:=[],isGenerator:=false,isCoroutine:=false }
abbrev CX0:CXT:=fun _ _ _ _ _ _=>False
abbrev E0:XK:=fun _ _ _=>False
theorem Fy {X:Cx}:tH CX0 X E0:=fun _ _ _ _ _ _ _ h=>h.elim
structure Fun (K:PySem.W.Frag)(x qual:Str)(st:Stmt)(f:Addr)(fd:FuncData):Prop where
 ex:∃ (oc:Value) (od:Option Addr) (kV doc pm:Value) (an:Option Addr) (av ct:Value) (mS:Array (Option Value)),
  fd=PySem.W.fnOf x qual (eZ st) (dU st) (aK st) .none kV doc pm an av ct/\K.lookup f=some ⟨oc,od,.func fd,mS⟩/\PySem.W.codeIn K av qual=true
 kp:PySem.W.keepIn K (.ref f)=true
section
variable {P:Program}{w:World}{K:PySem.W.Frag}{mg:Str->Option Value}{base:Heap}{f:Addr}{fd:FuncData}
theorem Fun.ok {x qual:Str}{st:Stmt}{f:Addr}{fd:FuncData}{N ps:List Str}{k:Nat}{sp:Sp}(F:Fun K x qual st f fd)(S:FnScope N ps (aK st))(len:∀ vs H Q E,sp vs H Q E->vs.length=ps.length)
  (iX:∀ (av:Value) (A:Around) (outer:List Env) (s:Shared) (H:Hp) (vs:List V) (Q:VK) (E:XK),Room k (A.deeper (envOfC qual (aK st) s.heap.objs.size f av))->sp vs H Q E ->
   ∃ t,PSs (vV CX0 P w K mg base N qual (aK st) f av A outer s H E).nox (dU st) t/\t { nx:=fun _ H'=>Q .non H',rt:=Q } (start N vs) H):FnOk P w K mg base CX0 (k+1) f fd ps sp:=by
 obtain ⟨oc,od,kV,doc,pm,an,av,ct,mS,rfl,lk,iO⟩:=F.ex;refine Fp lk iO S len fun A outer s H vs Q E hr mT=>?_;obtain ⟨t,h,q⟩:=iX av A outer s H vs Q E hr mT;exact ⟨t,h.nox,q⟩
theorem Fun.binds {x qual:Str}{st:Stmt}{f:Addr}{fd:FuncData}{ps:List Str}(F:Fun K x qual st f fd)
  (h:∀ (kV doc pm:Value) (an:Option Addr) (av ct:Value) (us:List Value),us.length=ps.length->bindArgs (PySem.W.fnOf x qual (eZ st) (dU st) (aK st) .none kV doc pm an av ct) ⟨us,[]⟩=pure (ps.zip us)):Binds K fd ps []:=by
 obtain ⟨oc,od,kV,doc,pm,an,av,ct,mS,rfl,lk,iO⟩:=F.ex;exact .all (h kV doc pm an av ct)
theorem xU {x qual:Str}{st:Stmt}{f:Addr}{oc:Value}{od an:Option Addr}{mS:Array (Option Value)}{kV doc pm av ct:Value}(l:K.lookup f=some ⟨oc,od,.func (PySem.W.fnOf x qual (eZ st) (dU st) (aK st) .none kV doc pm an av ct),mS⟩)
  (c:PySem.W.codeIn K av qual=true) (k:PySem.W.keepIn K (.ref f)=true):Fun K x qual st f (PySem.W.fnOf x qual (eZ st) (dU st) (aK st) .none kV doc pm an av ct):=⟨⟨oc,od,kV,doc,pm,an,av,ct,mS,rfl,l,c⟩,k⟩
end
theorem lD {A:Around}{k:Nat}(hr:Room k A):A.units+1 < cLine:=Nat.lt_of_le_of_lt (Nat.add_le_add_left (by decide:1<=64) _) hr.units
section
variable {X:Cx}
theorem pv (i:Nat){x:Str}{pos:Pos}(hN:X.N[i]?=some x:=by rfl)(hv:Vis X.env.scope x:=by first | exact Or.inl rfl | exact Or.inr (Or.inl rfl) | exact Or.inr (Or.inr rfl))(hd:(x == ("__debug__" : Str))=false:=by decide)
  (iO:(x == ("__classdict__" : Str))=false:=by decide):PE X (.Name x pos) (Af i):=Di hN hv hd iO
end
theorem bI {A B:Prop}(h:B):if false=true then A else B:=by
 rw [zAu zAg];exact h
theorem bV {A B:Prop}(h:A):if true=true then A else B:=by
 rw [zAx rfl];exact h
theorem vZ {c A B:Prop}[Decidable c](h1:c->A)(h2:¬ c->B):if c then A else B:=by
 by_cases h:c
 ·rw [zAx h];exact h1 h
 ·rw [zAu h];exact h2 h
def Same (H H':Hp):Prop:=∀ b o,H b=some o->H' b=some o
theorem Same.refl (H:Hp):Same H H:=fun _ _ h=>h
theorem Same.trans {H H1 H2:Hp}(a:Same H H1)(b:Same H1 H2):Same H H2:=fun c o h=>b c o (a c o h)
theorem Same.free {H H':Hp}(e:Same H H'){l:Addr}(h:H' l=Option.none):H l=Option.none:=by
 cases q:H l with
 | none=>rfl
 | some o =>
  rw [e l o q] at h;cases h
theorem Same.seq {K:PySem.W.Frag}{H H':Hp}{a:Addr}{xs:List V}(e:Same H H')(h:SqL K H a xs):SqL K H' a xs:=by
 rcases h with (h | ⟨o,h⟩) | h
 ·exact .inl (.inl (e _ _ h))
 ·exact .inl (.inr ⟨o,e _ _ h⟩)
 ·exact .inr h
def cW (cells:List (Str×Addr)):List (Str×NameKind)->List (Str×Addr)->List (Str×Addr)
 | [],acc=>acc
 | (n,k)::r,acc=>cW cells r (if k=.free then (n,(cells.lookup n).getD 0)::acc else acc)
theorem oA {env:Env}:∀ (l:List (Str×NameKind)) (acc:List (Str×Addr)),(∀ p∈l,p.2=NameKind.free->(env.cells.lookup p.1).isSome=true) ->
  (forIn l acc fun (x:Str×NameKind) (r:List (Str×Addr))=>(if (x.2 == NameKind.free)=true then do let a <- cellOf env x.1;pure (ForInStep.yield ((x.1,a)::r)) else pure (ForInStep.yield r):Sem (ForInStep (List (Str×Addr)))))=pure (cW env.cells l acc)
 | [],acc,_=>rfl
 | (n,k)::r,acc,h=>by
  rw [List.forIn_cons];have ih:=fun a=>oA (env:=env) r a fun p hp=>h p (List.mem_cons_of_mem _ hp);by_cases hk:k=.free
  ·subst hk;have hs:=h (n,.free) List.mem_cons_self rfl;obtain ⟨c,hc⟩:=Option.isSome_iff_exists.mp hs;have e1:cellOf env n=pure c:=by unfold cellOf;rw [show env.cells.lookup n=some c from hc]
   have e2:cW env.cells ((n,.free)::r) acc=cW env.cells r ((n,c)::acc):=by
    show cW env.cells r (if NameKind.free=NameKind.free then (n,(env.cells.lookup n).getD 0)::acc else acc)=_;rw [zAx rfl,show env.cells.lookup n=some c from hc];rfl
   rw [e2];simp only [beq_self_eq_true,if_true,e1,pure_bind];exact ih _
  ·have hb:(k == NameKind.free)=false:=by simpa using hk
   have e2:cW env.cells ((n,k)::r) acc=cW env.cells r acc:=by
    show cW env.cells r (if k=NameKind.free then _ else acc)=_;rw [zAu hk]
   rw [e2];simp only [hb,Bool.false_eq_true,if_false,pure_bind];exact ih _
theorem pQ {scope:Scope}{env:Env}(h:∀ p∈scope.names,p.2=NameKind.free->(env.cells.lookup p.1).isSome=true):closureFor scope env=pure (cW env.cells scope.names []):=by
 have e:=oA (env:=env) scope.names [] h;unfold closureFor;simp only [bind_pure];exact e
theorem lE {cells:List (Str×Addr)}{x:Str}{c:Addr}:∀ (l:List (Str×NameKind)) (acc:List (Str×Addr)),(∀ p∈l,p.2=NameKind.free->(cells.lookup p.1).isSome=true)->(cW cells l acc).lookup x=some c ->
  acc.lookup x=some c\/cells.lookup x=some c
 | [],_,_,h=>.inl h
 | (n,k)::r,acc,hf,h=>by
  have h':(cW cells r (if k=.free then (n,(cells.lookup n).getD 0)::acc else acc)).lookup x=some c:=h;rcases lE r _ (fun p hp=>hf p (List.mem_cons_of_mem _ hp)) h' with e | e
  ·by_cases hk:k=.free
   ·rw [zAx hk] at e;obtain ⟨d,hd⟩:=Option.isSome_iff_exists.mp (hf (n,k) List.mem_cons_self hk);rw [show cells.lookup n=some d from hd] at e;rw [List.lookup_cons] at e
    cases hx:x == n with
    | true =>
     rw [hx] at e;have:x=n:=by simpa using hx
     subst this;exact .inr (hd.trans (by simpa using e))
    | false =>
     rw [hx] at e;exact .inl e
   ·rw [zAu hk] at e;exact .inl e
  ·exact .inr e
theorem lF {cells:List (Str×Addr)}{x:Str}:∀ (l:List (Str×NameKind)) (acc:List (Str×Addr)),((∃ k,(x,k)∈l/\k=NameKind.free)\/(∃ c,acc.lookup x=some c))->∃ c,(cW cells l acc).lookup x=some c
 | [],_,h=>by
  rcases h with ⟨k,hk,_⟩ | h
  ·exact absurd hk (by simp)
  ·exact h
 | (n,k)::r,acc,h=>by
  show ∃ c,(cW cells r (if k=.free then (n,(cells.lookup n).getD 0)::acc else acc)).lookup x=some c;refine lF r _ ?_;rcases h with ⟨k',hk,e⟩ | ⟨c,hc⟩
  ·rcases zAo.mp hk with z | z
   ·cases z;refine .inr ?_;rw [zAx e];exact ⟨_,by rw [List.lookup_cons,beq_self_eq_true]⟩
   ·exact .inl ⟨k',z,e⟩
  ·refine .inr ?_;by_cases hk:k=.free
   ·rw [zAx hk,List.lookup_cons]
    cases hx:x == n with
    | true=>exact ⟨_,rfl⟩
    | false=>exact ⟨c,hc⟩
   ·rw [zAu hk];exact ⟨c,hc⟩
theorem jB {scope:Scope}{env:Env}{x:Str}{k:NameKind}(hc:∀ p∈scope.names,p.2≠NameKind.cell)(h:(relabel scope env).names.lookup x=some k)(hk:k=.cell\/k=.free):∃ k',(x,k')∈scope.names/\k'=NameKind.free:=by
 have m:=PySem.mem_of_lookup h;obtain ⟨⟨n,k0⟩,hm,e⟩:=zA5.mp m;dsimp only at e;split at e
 ·rename_i c
  cases e
  have:(k0 == NameKind.free)=true:=by
   cases q:(k0 == NameKind.free) with
   | true=>rfl
   | false=>rw [q] at c;simp at c
  exact ⟨k0,hm,by simpa using this⟩
 ·cases e;rcases hk with z | z
  ·exact absurd z (hc _ hm)
  ·exact ⟨_,hm,z⟩
def cxC (X:Cx)(scope:Scope)(Nc:List Str)(C:Addr)(fp:List Addr)(pins:List (Addr×Obj))(s₂:Shared)(H₂:Hp):Cx where
 prog:=X.prog
 w:=X.w
 K:=X.K
 mg:=X.mg
 base:=X.base
 A:=X.A
 N:=Nc
 s₀:=s₂
 H₀:=H₂
 env:=compEnvC scope (cW X.env.cells scope.names []) C X.env
 outer:=X.stack
 stack:=X.stack
 ex:=fp
 fn:=fun _=>false
 calm:=X.calm
 pn:=X.pn++pins
 xe:=fun _ _=>False
def Caps (X:Cx)(bg:Env):List Str->List (Option Nat)->Prop
 | [],[]=>True
 | _::N,none::r=>Caps X bg N r
 | x::N,some i::r=>(X.N[i]?=some x/\(X.env.kindOf x=some .cell\/X.env.kindOf x=some .free)/\bg.cells.lookup x=X.env.cells.lookup x/\(bg.kindOf x=some .cell\/bg.kindOf x=some .free))/\Caps X bg N r
 | _,_=>False
def capσ (σ:St)(src:List (Option Nat)):St:=src.map fun o=>match o with | none=>none | some i=>(σ[i]?).join
theorem Caps.len {X:Cx}{bg:Env}:∀ {N:List Str} {src:List (Option Nat)},Caps X bg N src->src.length=N.length
 | [],[],_=>rfl
 | [],_::_,h=>h.elim
 | _::_,[],h=>h.elim
 | _::N,none::r,h=>by
  have h':Caps X bg N r:=h;have:=Caps.len (N:=N) (src:=r) h';simp [this]
 | _::N,some _::r,h=>by
  have:=Caps.len (N:=N) (src:=r) h.2;simp [this]
theorem Caps.get {X:Cx}{bg:Env}{x:Str}:∀ {N:List Str} {src:List (Option Nat)} {j i:Nat},Caps X bg N src->N[j]?=some x->src[j]?=some (some i) ->
  X.N[i]?=some x/\(X.env.kindOf x=some .cell\/X.env.kindOf x=some .free)/\bg.cells.lookup x=X.env.cells.lookup x/\(bg.kindOf x=some .cell\/bg.kindOf x=some .free)
 | [],[],_,_,_,e,_=>by simp at e
 | [],_::_,_,_,h,_,_=>h.elim
 | _::_,[],_,_,h,_,_=>h.elim
 | _::_,none::_,0,_,_,_,e=>by simp at e
 | _::N,none::r,j+1,_,h,e1,e2=>by
  have h':Caps X bg N r:=h;exact Caps.get (N:=N) (src:=r) (j:=j) h' (by simpa using e1) (by simpa using e2)
 | _::_,some _::_,0,_,h,e1,e2=>by
  simp at e1 e2;subst e1 e2;exact h.1
 | _::_,some _::_,j+1,_,h,e1,e2=>Caps.get (j:=j) h.2 (by simpa using e1) (by simpa using e2)
structure CScope (X:Cx)(scope:Scope):Prop where
 kind:scope.kind=.function
 cell:scope.names.all (fun p=>p.2 != .cell)=true
 names:scope.names.all (fun p=>p.2 != .local || scope.names.lookup p.1 == some .local)=true
 free:scope.names.all (fun p=>p.2 != .free || (X.env.cells.lookup p.1).isSome)=true
section
variable {X:Cx}{scope:Scope}
theorem CScope.hcell (S:CScope X scope):∀ p∈scope.names,p.2≠NameKind.cell:=fun p hp=>by
 have:=List.all_eq_true.mp S.cell p hp;simpa using this
theorem CScope.hnames (S:CScope X scope):∀ p∈scope.names,p.2=.local->scope.names.lookup p.1=some .local:=fun p hp e=>by
 have:=List.all_eq_true.mp S.names p hp;simpa [e] using this
theorem CScope.hfree (S:CScope X scope):∀ p∈scope.names,p.2=NameKind.free->(X.env.cells.lookup p.1).isSome=true:=fun p hp e=>by
 have:=List.all_eq_true.mp S.free p hp;simpa [e] using this
end
def PTs (X:Cx)(ifs:List Expr)(t:TT):Prop :=
 ∀ (pins:List (Addr×Obj)) (s:Shared) (σ:St) (H:Hp) (Q:Bool->Hp->Prop),Inv X pins σ H s->t σ H Q ->
  wpAny (model X.prog X.w) X.A (forIn ifs true fun c r=>if r=true then do let ok <- isTrue c X.env (eval c X.env);pure (ForInStep.yield ok) else pure (ForInStep.yield r)) (TP X pins σ Q) X.xe s
def w5:TT:=fun _ H Q=>Q true H
theorem bh {X:Cx}:PTs X [] w5:=fun _ _ _ H _ I h=>wpAny_tests_nil ⟨H,I,h⟩
theorem iJ {X:Cx}{c:Expr}{t:TT}(h:PT X c t):PTs X [c] t:=fun pins s σ H Q I q=>wpAny_tests_one (h pins s σ H Q I q)
theorem iK {prog:Program}{w:World}{A:Around}{R:Result->Shared->Prop}{s:Shared}{elt target iter:Expr}{ifs:List Expr}{scope:Scope}{pos:Pos}{it acc:Value}{env:Env}(I:Nat->Shared->Prop)
  (turn:∀ n s,I n s->wpAny (model prog w) A (pyNext it) (fun r s₁=>match r with
   | none=>R (.ok .next) s₁
   | some v=>wpAny (model prog w) A (letOwnedTupleGo target it v) (fun _ nc=>wpAny (model prog w) A (assign target env v) (fun _ s₂ =>
     wpAny (model prog w) A (forIn ifs true fun c r=>if r=true then do let ok <- isTrue c env (eval c env);pure (ForInStep.yield ok) else pure (ForInStep.yield r)) (fun ok s₃ =>
      if ok=true then wpAny (model prog w) A (eval elt env) (fun x ip =>
       wpAny (model prog w) A (call (.builtin "list.append") [acc,x]) (fun _ vS=>∃ m,m < n/\I m vS) (fun _ _=>False) ip) (fun _ _=>False) s₃
      else ∃ m,m < n/\I m s₃) (fun _ _=>False) s₂) (fun _ _=>False) nc) (fun _ _=>False) s₁) (fun _ _=>False) s)
  (n:Nat) (h:I n s) :
  codeAny (model prog w) A (.compLoop (.ListComp elt [⟨target,iter,ifs,0⟩] scope pos) 0 it acc env) R s:=by
 refine codeAny_loop rfl I (fun n s hI=>?_) n h;show wpAny _ A ((compTurn (.ListComp elt [⟨target,iter,ifs,0⟩] scope pos) 0 it acc env).onRaise (fun x=>do noteFrame x env;theTreesLotGoes x)) _ _ s;refine wpAny_noted ?_;rw [compTurn_list];refine zAw (wpAny_standAt (zAw (wpAny_mono (turn n s hI) (fun r s₁ cm=>?_) fun _ _ h'=>h'.elim)))
 cases r with
 | none=>exact zB0 cm
 | some v =>
  refine zAw (wpAny_mono cm (fun _ nc vT=>?_) fun _ _ h'=>h'.elim);refine zAw (wpAny_mono vT (fun _ s₂ ja=>zAw (wpAny_mono ja (fun ok s₃ lh=>?_) fun _ _ h'=>h'.elim)) fun _ _ h'=>h'.elim)
  cases ok with
  | false=>exact zB0 ⟨rfl,lh⟩
  | true =>
   exact zAw (zAw (wpAny_mono lh (fun x ip CF=>zAw (wpAny_mono CF (fun _ vS CH=>zB0 (zB0 ⟨rfl,CH⟩)) fun _ _ h'=>h'.elim)) fun _ _ h'=>h'.elim))
def jC (J:It)(g:TG)(tt:TT)(te:TE)(Fin:List V->Hp->Prop)(fh:St)(H0:Hp):Prop :=
 ∃ W:Nat->Nat->List V->St->Hp->Prop,(∃ m,W 0 m [] fh H0)/\∀ i m ys σ H,W i m ys σ H->ys.length < sizeLine /\
  ((J.stop i H/\Fin ys H)\/(J.go i H/\∀ x H',J.yld i H x H'->g x σ H' fun ba H2=>tt ba H2 fun b H3 =>
   if b=true then te ba H3 fun y H4=>∃ m',m' < m/\W (i+1) m' (ys++[y]) ba H4 else ∃ m',m' < m/\W (i+1) m' ys ba H3))
theorem oE {X:Cx}{tg iter elt:Expr}{ifs:List Expr}{scope:Scope}{pos:Pos}{Nc:List Str}{src:List (Option Nat)}{g:TG}{tt:TT}{te:TE}(hc:X.calm=true)(S:CScope X scope)
  (bE:∀ C,Caps X (compEnvC scope (cW X.env.cells scope.names []) C X.env) Nc src)
  (hb:∀ C fp pins s₂ H₂,PG (cxC X scope Nc C fp pins s₂ H₂) tg g/\PTs (cxC X scope Nc C fp pins s₂ H₂) ifs tt/\PE (cxC X scope Nc C fp pins s₂ H₂) elt te)
  {pins:List (Addr×Obj)} {s₂:Shared} {σ:St} {H₂:Hp} {it:Addr} {fp:List Addr} {tn:Nat->Heap->Prop} {J:It} (ae:Inv X pins σ H₂ s₂) (T:Turn X.prog X.w X.K tg J fp it tn) (st:tn 0 s₂.heap) (hf:∀ b∈fp,jJ X pins H₂ b)
  {Fin:List V->Hp->Prop} (hW:jC J g tt te Fin (capσ σ src) H₂) {RR:Value->Addr->Result->Shared->Prop} {E:Value->Shared->Prop}
  (CI:∀ D C s' ys H' m,Fin ys H'->H' D=none->Inv X pins σ (upd H' D (.lst ys)) s'->s'.heap.Ns C m->jJ X pins (upd H' D (.lst ys)) C->RR (.ref D) C (.ok .next) s') :
  wpAny (model X.prog X.w) X.A (newList []) (fun acc s₃=>wpAny (model X.prog X.w) X.A (newFunctionEnv scope X.env.globals (cW X.env.cells scope.names []) [] X.env.qual none .none (some X.env)) (fun js ip =>
   codeAny (model X.prog X.w) X.A (.compStart (.ListComp elt [⟨tg,iter,ifs,0⟩] scope pos) 0 (.ref it) acc { js with scope:=relabel scope X.env }) (RR acc js.locals) ip) E s₃) E s₂:=by
 refine wpAny_newObj_type (wpAny_newFunctionEnv S.hcell (by intro y hy;simp at hy) (fun cm aS cv=>?_) S.kind);dsimp only at aS cv ⊢;generalize pj:s₂.heap.push { cls:=.type "list",dict:=none,data:=.seq ([]:List Value).toArray }=HH at aS cv ⊢;generalize fk:s₂.heap.objs.size=D at aS cv ⊢;have hC:HH.objs.size=D+1:=by rw [<- pj,Heap.size_push,fk]
 generalize KY:HH.objs.size=C at aS cv hC ⊢;have nh:D≠C:=by lia
 have below:∀ b,b < s₂.heap.objs.size->b≠C/\b≠D:=fun b hb=>by rw [fk] at hb;exact ⟨by rw [hC];exact zB4 (Nat.lt_succ_of_lt hb),zB4 hb⟩
 have ax:∀ {b o},s₂.heap.get? b=some o->b≠C/\b≠D:=fun {b o} e=>below b (zAy e);have old:∀ b o,s₂.heap.get? b=some o->cm.get? b=some o:=fun b o e=>cv.extBut b o (ax e).1 (zAz _ (pj ▸ zAz _ e));have pz:cm.get? D=some { cls:=.type "list",data:=.seq ([]:List Value).toArray }:=cv.extBut _ _ nh (zAz _ (pj ▸ fk ▸ zB3 _ rfl))
 have A2:∀ b∈fp,∃ o,s₂.heap.get? b=some o:=fun b hb=>let ⟨o,e,_⟩:=T.obj _ _ st b hb;⟨o,e⟩
 have lI:∀ b∈fp,b≠C/\b≠D:=fun b hb=>let ⟨o,e⟩:=A2 b hb;ax e
 have sub:∀ {x c},(cW X.env.cells scope.names []).lookup x=some c->X.env.cells.lookup x=some c:=fun {x c} e=>by
  rcases lE scope.names [] S.hfree e with z | z
  ·simp at z
  ·exact z
 have wa:∀ {b o},s₂.heap.get? b=some o->b < D:=fun {b o} e=>by rw [<- fk];exact zAy e
 have fresh:∀ a,D<=a->H₂ a=none:=fun a ha=>ae.hok.fresh (by rw [fk];exact ha)
 have eW:∀ {x c},X.env.cells.lookup x=some c->∃ o,s₂.heap.get? c=some o:=fun {x c} e=>let ⟨v,o,ho,_⟩:=ae.cell x c e;⟨o,ho⟩
 have pE:∀ b∈frs X.stack,∃ o,s₂.heap.get? b=some o:=fun b hb=>by
  rcases zAo.mp (ae.stkSub b hb) with e | hb
  ·rw [e];obtain ⟨m,⟨o,_,_,ho,_⟩,_⟩:=ae.loc;exact ⟨o,ho⟩
  ·obtain ⟨_,o,ho,_⟩:=ae.funs.mem hb;exact ⟨o,ho⟩
 have pS:∀ a,D<=a->a ∉ frs X.stack:=fun a ha hb=>by
  obtain ⟨o,e⟩:=pE a hb;exact absurd (zB2 (wa e) ha) (Nat.lt_irrefl _)
 have wb:∀ b∈fp,b ∉ frs X.stack:=fun b hb z=>by
  obtain ⟨_,f1,f2,_⟩:=hf b hb;rcases zAo.mp (ae.stkSub b z) with e | e
  ·exact f1 e
  ·exact f2 e
 generalize bP:cxC X scope Nc C fp pins s₂ H₂=X';obtain ⟨hg,ht,he⟩:=hb C fp pins s₂ H₂;rw [bP] at hg ht he
 have CL:X'.Ok:=by
  subst bP;refine ⟨ae.ok.mod,S.kind,ae.ok.glob,ae.ok.blt,?_,?_,?_,?_,ae.ok.hd,ae.ok.frames,.inl rfl,?_,ae.bs,Nat.le_trans ae.ok.bsz ae.sz,?_,wb,ae.stack,ae.stkFree⟩
  ·show s₂.heap.objs.size<=C;lia
  ·exact fun x y c e1 e2=>ae.ok.inj x y c (sub e1) (sub e2)
  ·intro x hx;have hx:(relabel scope X.env).names.lookup x=some .cell\/(relabel scope X.env).names.lookup x=some .free:=hx
   have:∃ k',(x,k')∈scope.names/\k'=NameKind.free:=by
    rcases hx with z | z
    ·exact jB S.hcell z (.inl rfl)
    ·exact jB S.hcell z (.inr rfl)
   exact lF scope.names [] (.inl this)
  ·intro x c z;exact absurd z (by show ¬ (false=true);simp)
  ·intro b hb;exact ⟨(lI b hb).1,fun x c e=>(hf b hb).2.2.2.2.1 x c (sub e)⟩
  ·intro b o e hb;obtain ⟨_,_,_,f3,_⟩:=hf b hb;rcases f3 with z | z
   ·exact ae.ok.noex b o e z
   ·exact absurd (zB2 (zAy (ae.ok.bs b o e).1) z) (Nat.lt_irrefl _)
 have eP:X'.prog=X.prog:=by subst bP;rfl
 have ew:X'.w=X.w:=by subst bP;rfl
 have eK:X'.K=X.K:=by subst bP;rfl
 have eA:X'.A=X.A:=by subst bP;rfl
 have eE:X'.xe=fun _ _=>False:=by subst bP;rfl
 have eL:X'.env.locals=C:=by subst bP;rfl
 have eN:X'.env=compEnvC scope (cW X.env.cells scope.names []) C X.env:=by subst bP;rfl
 have ec:X'.calm=true:=by subst bP;exact hc
 have eS:X'.s₀=s₂:=by subst bP;rfl
 have eH:X'.H₀=H₂:=by subst bP;rfl
 have ef:X'.fs=frs X.stack:=by subst bP;rfl
 have ex:X'.ex=fp:=by subst bP;rfl
 have ep:X'.pn=X.pn++pins:=by subst bP;rfl
 have I0:Inv X' [] (capσ σ src) H₂ { s₂ with heap:=cm,toks:=s₂.toks+([]:List (Str×Value)).length }:=by
  refine ⟨CL,by rw [eS],ae.bare,by rw [eS,eH];exact Un.kept old,⟨_,by rw [eL];exact aS,?_⟩,?_,by rw [eL];exact fresh _ (by lia),?_,?_,by rw [eP,ew];exact ae.hok.kept old,?_⟩
  ·intro j x v e1 e2 e3;have e1:Nc[j]?=some x:=by subst bP;exact e1
   have e4:∃ i,src[j]?=some (some i)/\(σ[i]?).join=some v:=by
    unfold capσ at e2;rw [zAb] at e2
    cases q:src[j]? with
    | none=>rw [q] at e2;cases e2
    | some o =>
     rw [q] at e2
     cases o with
     | none=>simp at e2
     | some i=>exact ⟨i,rfl,by simpa using e2⟩
   obtain ⟨i,e5,e6⟩:=e4;obtain ⟨c1,c2,c3,c4⟩:=(bE C).get e1 e5
   have e7:σ[i]?=some (some v):=by
    cases q:σ[i]? with
    | none=>rw [q] at e6;simp at e6
    | some o=>rw [q] at e6;simp at e6;rw [e6]
   obtain ⟨m,_,hl⟩:=ae.loc;obtain ⟨u,r,l⟩:=hl i x v c1 e7 (.inr (by rcases c2 with z | z;exact .inl z;exact .inr z));refine ⟨u,r,?_⟩;rcases l with ⟨k,_⟩ | ⟨_,c,e,z⟩
   ·rcases c2 with c2 | c2 <;> (rw [k] at c2;cases c2)
   ·refine .inr ⟨by rw [eN];exact c4,c,by rw [eN];exact c3.trans e,?_⟩;obtain ⟨o,ho,hd⟩:=z;exact ⟨o,old c o ho,hd⟩
  ·intro x c e;rw [eN] at e;obtain ⟨v,o,ho,hd⟩:=ae.cell x c (sub e);exact ⟨v,o,old c o ho,hd⟩
  ·intro x c e;rw [eN] at e;exact ae.freeC x c (sub e)
  ·intro p hp;rw [ep,zAn] at hp;obtain ⟨e,n,ne,nf,d⟩:=ae.pin p hp;refine ⟨old _ _ e,n,by rw [eL];exact (ax e).1,?_,d⟩;rw [ef];intro z;rcases zAo.mp (ae.stkSub _ z) with q | q
   ·exact ne q
   ·exact nf q
  ·have:=(bE C).len;subst bP;show (capσ σ src).length=Nc.length;unfold capσ;rw [zA1,this]
 have CM:∀ p∈X'.pn,p.1≠D:=fun p hp=>by
  rw [ep] at hp;exact (ax (ae.pin p hp).1).2
 have jv:∀ x c,X'.env.cells.lookup x=some c->c≠D:=fun x c e=>by
  rw [eN] at e;obtain ⟨o,ho⟩:=eW (sub e);exact (ax ho).2
 have pT:∀ {P:List (Addr×Obj)} {H:Hp},(∀ p∈P,p.1=D)->(∀ b∈fp,H b=none)->∀ b∈fp,jJ X' P H b:=fun {P H} hP hn b hb=>by
  refine ⟨hn b hb,by rw [eL];exact (lI b hb).1,by rw [ef];exact wb b hb,.inl (by rw [ex];exact hb),fun x c e=>?_,fun p hp=>?_⟩
  ·rw [eN] at e;exact (hf b hb).2.2.2.2.1 x c (sub e)
  ·rcases zA6.mp hp with z | z
   ·rw [ep] at z;exact (hf b hb).2.2.2.2.2 p z
   ·rw [hP p z];exact (lI b hb).2.symm
 obtain ⟨W,⟨m0,w0⟩,step⟩:=hW
 have loop:∀ s₃:Shared,s₃={ s₂ with heap:=cm,toks:=s₂.toks+([]:List (Str×Value)).length } ->
   codeAny (model X.prog X.w) X.A (.compLoop (.ListComp elt [⟨tg,iter,ifs,0⟩] scope pos) 0 (.ref it) (.ref D) (compEnvC scope (cW X.env.cells scope.names []) C X.env)) (RR (.ref D) C) s₃:=by
  rintro s₃ rfl
  refine iK (fun n s'=>∃ i ys us k ai H',Inv X' [] ai H' s'/\tn i s'.heap/\(∀ b∈fp,H' b=none)/\H' D=none/\s'.heap.get? D=some { cls:=.type "list",data:=.seq (List.toArray us) k }/\Vals ys us/\W i n ys ai H') ?_ m0
   ⟨0,[],[],_,_,_,I0,T.keep _ _ _ st fun b _ o e=>old b o e,fun b hb=>(hf b hb).1,fresh _ (zA3 _),pz,.nil,w0⟩
  rintro n s3 ⟨i,ys,us,k,fy,H3,I3,fz,mI,gu,CO,lP,w3⟩;obtain ⟨hsz,gv⟩:=step i n ys fy H3 w3
  have wc:Inv X' [(D,{ cls:=.type "list",data:=.seq us.toArray k })] fy H3 s3:=I3.pins_of fun p hp=>by
   rw [List.mem_singleton.mp hp];exact ⟨CO,gu,by rw [eL];exact nh,by rw [ef];exact pS _ (zA3 _),fun v z=>by cases z⟩
  have gx:∀ p∈[(D,({ cls:=.type "list",data:=.seq us.toArray k }:Obj))],p.1=D:=fun p hp=>by rw [List.mem_singleton.mp hp]
  rcases gv with ⟨stop,fin⟩ | ⟨go,turn⟩
  ·-- the end
   have hd:=T.done X' eP ew eK ec i _ s3 fy H3 (fun _ _=>False) wc (pT gx mI) fz stop;rw [eA] at hd;refine thn hd fun r s4 ⟨hr,I4⟩=>?_;subst hr;have pD:=I4.pin (D,{ cls:=.type "list",data:=.seq us.toArray k }) (zBb _ (List.mem_singleton.mpr rfl));obtain ⟨mC,we,_⟩:=I4.loc;rw [eL] at we;have fI:=I4.base;rw [eS,eH,ef,ex] at fI;have hlen:ys.length<=sizeLine:=Nat.le_of_lt hsz
   have pV:HOk X.prog X.w (upd H3 D (.lst ys)) s4.heap:=fun b u e=>by
    by_cases hb:b=D
    ·subst hb;rw [aj] at e;cases e;exact ⟨hlen,us,k,lP,pD.1⟩
    ·rw [aA hb] at e;have z:=I4.hok b u e;rw [eP,ew] at z
     exact z.stay (fun c v _ q=>q) (fun c q=>by rw [aA (aC q gu)];exact q) fun c xs q=>by rw [aA (aC q gu)];exact q
   have un:Un (frs X.stack) fp H₂ (upd H3 D (.lst ys)) s₂.heap s4.heap:=⟨fI.keep,fI.slot,fun b o e n hx=>by rw [aA (ax e).2];exact fI.free b o e n hx,fI.there,
    fun b xs e=>by
     have z:=fI.tups b xs e
     rw [aA (aC z gu)];exact z,
    fun b o u e=>by
     have z:=fI.frzs b o u e
     rw [aA (aC z gu)];exact z,
    fun b ps e=>by
     obtain ⟨mo,z⟩:=fI.tbls b ps e
     exact ⟨mo,by rw [aA (aC z gu)];exact z⟩⟩
   have J4:Inv X pins σ (upd H3 D (.lst ys)) s4:=ae.call' (ch:=fp) (by have:=I4.os;rw [eS] at this;exact this) un pV I4.bare fun b hb=>by
    obtain ⟨_,f1,f2,f3,f4,f5⟩:=hf b hb;exact ⟨f3,f1,f4,f5⟩
   refine CI D C s4 ys H3 mC fin gu J4 we ⟨?_,?_,?_,.inr ?_,?_,?_⟩
   ·rw [aA nh.symm];have:=I4.free;rw [eL] at this;exact this
   ·have:=ae.lt;rw [fk] at this;exact Nat.ne_of_gt (zB2 this (by rw [hC];exact Nat.le_succ _))
   ·intro z;obtain ⟨_,o,ho,_⟩:=ae.funs.mem z;exact (ax ho).1 rfl
   ·have:=ae.sz;rw [fk] at this;lia
   ·intro x c e z;obtain ⟨o,ho⟩:=eW e;exact (ax ho).1 z
   ·intro p hp z;exact (ax (ae.pin p hp).1).1 z
  ·-- a turn
   have hd:=T.item X' eP ew eK ec i _ s3 fy H3 (fun _ _=>False) wc (pT gx mI) fz go;rw [eA] at hd;refine thn hd fun r s4 ⟨u,hr,h4⟩=>?_;subst hr;refine thn h4 fun _ s5 ⟨x,H5,I5,r5,y5,iP,vc⟩=>?_;have ve:=I5.pinned (pT gx vc) (T.obj _ _ iP);have wm:=hg _ s5 fy H5 x u _ ve r5 (turn x H5 y5);rw [eP,ew,eA,eE,eN] at wm;refine thn wm fun _ s6 ⟨fA,H6,I6,q6⟩=>?_;have dP:=ht _ s6 fA H6 _ I6 q6;rw [eP,ew,eA,eE,eN] at dP;refine thn dP fun okb s7 ⟨H7,I7,q7⟩=>?_
   have back:∀ {H8:Hp} {s8:Shared},Inv X' ([(D,({ cls:=.type "list",data:=.seq us.toArray k }:Obj))]++ji fp s5.heap) fA H8 s8 ->
     Inv X' [] fA H8 s8/\tn (i+1) s8.heap/\(∀ b∈fp,H8 b=none)/\H8 D=none/\s8.heap.get? D=some { cls:=.type "list",data:=.seq us.toArray k }/\(∀ b∈fp,∀ o,s5.heap.get? b=some o->s8.heap.get? b=some o):=fun {H8 s8} I8=>by
    have pD:=I8.pin (D,{ cls:=.type "list",data:=.seq us.toArray k }) (List.mem_append_right _ (List.mem_append_left _ (List.mem_singleton.mpr rfl)));have pf:∀ b∈fp,∀ o,s5.heap.get? b=some o->s8.heap.get? b=some o:=fun b hb o e=>(I8.pin (b,o) (List.mem_append_right _ (List.mem_append_right _ (dC hb e)))).1;refine ⟨I8.pins_of fun p hp=>absurd hp (by simp),T.keep _ _ _ iP pf,fun b hb=>?_,pD.2.1,pD.1,pf⟩;obtain ⟨o,e,d⟩:=T.obj _ _ iP b hb;exact (I8.pin (b,o) (List.mem_append_right _ (List.mem_append_right _ (dC hb e)))).2.1
   cases okb with
   | false =>
    obtain ⟨b1,b2,b3,b4,b5,_⟩:=back I7;obtain ⟨m',hm,w7⟩:=q7;exact ⟨m',hm,i+1,ys,us,k,fA,H7,b1,b2,b3,b4,b5,lP,w7⟩
   | true =>
    have lS:=he _ s7 fA H7 _ I7 q7;rw [eP,ew,eA,eE,eN] at lS;show wpAny _ _ (eval elt _) _ _ s7;refine thn lS fun xv s8 ⟨y,H8,I8,r8,m',hm,w8⟩=>?_;obtain ⟨b1,b2,b3,b4,b5,b6⟩:=back I8;refine append_at (hsz:=by rw [zA8,<- lP.length];exact Nat.le_of_lt hsz) b5 fun h9 wo CS=>?_
    have I9:Inv X' [] fA H8 { s8 with heap:=h9 }:=b1.turned (t':=s8.toks) (fun b o hb e=>wo.extBut b o hb e) b4 (by rw [eL];exact nh) (.inr (by rw [eS,fk];exact zA3 _)) jv fun p hp=>by
     rw [zAn] at hp;exact CM p hp
    refine ⟨m',hm,i+1,ys++[y],us++[xv],k+1,fA,H8,I9,T.keep _ _ _ b2 fun b hb o e=>wo.extBut b o (lI b hb).2 e,b3,b4,?_,lP.append (.cons r8 .nil),w8⟩;show h9.get? D=_;rw [CS,List.push_toArray]
 refine codeAny_compStart_list (loop _ rfl) ?_;exact T.self _ 0 _ _ _ (T.keep _ _ _ st fun b _ o e=>old b o e) (loop _ rfl)
def uC (wi:TI)(src:List (Option Nat))(g:TG)(tt:TT)(te:TE):TE:=fun σ H Q=>wi σ H fun J H1=>jC J g tt te (fun ys H'=>∀ D,H' D=none->Q (.ref D) (upd H' D (.lst ys))) (capσ σ src) H1
section
variable {X:Cx}{tg iter elt:Expr}{ifs:List Expr}{scope:Scope}{pos:Pos}{Nc:List Str}{wi:TI}{g:TG}{tt:TT}{te:TE}
theorem bA (Nc:List Str)(src:List (Option Nat))(hc:X.calm=true)(hi:PI X tg iter wi)
  (hb:∀ C fp pins s₂ H₂,PG (cxC X scope Nc C fp pins s₂ H₂) tg g/\PTs (cxC X scope Nc C fp pins s₂ H₂) ifs tt/\PE (cxC X scope Nc C fp pins s₂ H₂) elt te)
  (bE:∀ C,Caps X (compEnvC scope (cW X.env.cells scope.names []) C X.env) Nc src) (S:CScope X scope)
  (hs:∀ x,foldedSetIterable iter X.env x=pure x:=by intro _;rfl):PE X (.ListComp elt [⟨tg,iter,ifs,0⟩] scope pos) (uC wi src g tt te):=by
 intro pins s σ H Q I h;rw [eval_ListComp];refine wpAny_comprehension_free (use:=none) rfl hs (pQ S.hfree) S.kind S.hnames ?_;refine thn (hi pins s σ H _ I h) fun v s1 h1=>thn h1 fun vb s2 h2=>?_;obtain ⟨it,fp,tn,J,H2,e,I2,T,st2,f2,hW⟩:=h2;subst e;refine oE (RR:=fun acc C=>compPost (model X.prog X.w) X.A X.xe none (EP X pins σ Q) acc C) hc S bE hb I2 T st2 f2 hW ?_;intro D C s' ys H' m fin nD J' hn fC;obtain ⟨f0,f1,_,f3,f4,f5⟩:=fC;refine ⟨m,hn,fun ID jI=>?_⟩;exact ⟨.ref D,_,J'.turned (t':=s'.toks) (fun b o hb e=>jI.extBut b o hb e) f0 f1 f3 f4 f5,rfl,fin D nD⟩
def Dz (wi:TI)(src:List (Option Nat))(g:TG)(tt:TT)(te:TE)(i:Nat):TS:=fun D σ H=>uC wi src g tt te σ H fun v H'=>D.nx (σ.set i (some v)) H'
theorem fU {i:Nat}{x:Str}{pos' wq:Pos}(Nc:List Str)(src:List (Option Nat))(hc:X.calm=true)(hN:X.N.Nodup)(hG:X.N[i]?=some x)(hx:Loc X.env.scope x)(hi:PI X tg iter wi)
  (hb:∀ C fp pins s₂ H₂,PG (cxC X scope Nc C fp pins s₂ H₂) tg g/\PTs (cxC X scope Nc C fp pins s₂ H₂) ifs tt/\PE (cxC X scope Nc C fp pins s₂ H₂) elt te)
  (bE:∀ C,Caps X (compEnvC scope (cW X.env.cells scope.names []) C X.env) Nc src) (S:CScope X scope)
  (KZ:swapsWith (.ListComp elt [⟨tg,iter,ifs,0⟩] scope pos) (some (.Name x pos')) wq.line X.env=pure true:=by rfl)
  (hf:X.fn x=true\/X.env.scope.names.lookup x=some .local:=by first | exact .inl rfl | exact .inr rfl | assumption)
  (hs:∀ x,foldedSetIterable iter X.env x=pure x:=by intro _;rfl):PS X (.Assign [.Name x pos'] (.ListComp elt [⟨tg,iter,ifs,0⟩] scope pos) wq) (Dz wi src g tt te i):=by
 intro pins s σ H D I h;rw [exec_Assign_Name_used _ _ _ _ KZ];refine zAw (wpAny_standAt (zAw ?_));show wpAny _ _ (do let _ <- comprehension (.ListComp elt [⟨tg,iter,ifs,0⟩] scope pos) scope X.env _ (newList []) false (eval iter X.env) (some (assign (.Name x pos') X.env))) _ _ s;refine zAw (thn (wpAny_comprehension_free (use:=some (assign (.Name x pos') X.env)) (Q:=fun _ s'=>∃ ai H',Inv X pins ai H' s'/\D.nx ai H') rfl hs (pQ S.hfree) S.kind S.hnames ?_) fun _ s' hq=>zB0 (zB0 hq));refine thn (hi pins s σ H _ I h) fun v s1 h1=>thn h1 fun vb s2 h2=>?_;obtain ⟨it,fp,tn,J,H2,e,I2,T,st2,f2,hW⟩:=h2;subst e;refine oE (RR:=fun acc C=>compPost (model X.prog X.w) X.A X.xe (some (assign (.Name x pos') X.env)) (fun _ s'=>∃ ai H',Inv X pins ai H' s'/\D.nx ai H') acc C) hc S bE hb I2 T st2 f2 hW ?_;intro A C s' ys H' m fin nD J' hn fC;obtain ⟨f0,f1,QH,f3,f4,f5⟩:=fC;refine wpAny_assign_Name (nU J' hN hG hx (v:=.ref A) rfl (fun sM K0 K1=>?_) hf)
 have kX:∃ m',sM.heap.Ns C m':=by
  obtain ⟨a,sb,ha⟩:=K1
  have e8:C≠a:=by
   rcases ha with z | z
   ·rw [z];exact f1
   ·exact fun q=>f4 x a z q.symm
  exact ⟨m,hn.sameBut sb e8⟩
 obtain ⟨m',kX⟩:=kX;refine ⟨m',kX,fun ID jI=>?_⟩;exact ⟨_,_,K0.turned (t':=sM.toks) (fun b o hb e=>jI.extBut b o hb e) f0 f1 f3 f4 f5,fin A nD⟩
end
section
variable {X:Cx}
theorem gk:du X (.builtin "isinstance") (fun xs H Q=>∃ x t n b,xs=[x,.ty n]/\TyOf X.K H x t/\PySem.W.kitOne X.K t (.type n)=some b/\Q (.bl b) H):=by
 intro pins s σ H xs us Q I r h;obtain ⟨x,t,n,b,rfl,ty,e,q⟩:=h;obtain ⟨u,c,rfl,ru,rc⟩:=vals2 r;obtain rfl:c=Value.type n:=rc
 exact vU I ru ty e fun tk=>⟨.bl b,H,I.tok _,rfl,q⟩
theorem qW {prog:Program}{w:World}{A:Around}(bs:List Bool):TruthOf prog w A (fun i v=>∃ b,bs[i]?=some b/\v=Value.bool b) (fun i=>(bs[i]?).getD false):=by
 intro i v s Q E hP hQ;obtain ⟨b,hb,rfl⟩:=hP;dsimp only at hQ;rw [hb] at hQ;exact wpAny_truthy_bool hQ
theorem all_range (bs:List Bool):(List.range bs.length).all (fun i=>(bs[i]?).getD false)=bs.all id:=by
 apply Bool.eq_iff_iff.mpr;rw [List.all_eq_true,List.all_eq_true];constructor
 ·intro h b hb;obtain ⟨i,hi,e⟩:=List.getElem_of_mem hb;have:=h i (List.mem_range.mpr hi);rw [zA0 hi,e] at this;exact this
 ·intro h i hi;have hi:=List.mem_range.mp hi;rw [zA0 hi];exact h _ (zAh hi)
theorem lG:∀ {bs:List Bool} {us:List Value},Vals (bs.map V.bl) us->us=bs.map Value.bool
 | [],_,.nil=>rfl
 | _::bs,_,.cons r t=>by
  rw [lG (bs:=bs) t,show _=Value.bool _ from r];rfl
theorem dI (hc:X.calm=true):du X (.builtin "all") (fun xs H Q=>∃ (p:Addr) (bs:List Bool),xs=[.ref p]/\SqL X.K H p (bs.map V.bl)/\Q (.bl (bs.all id)) H):=by
 intro pins s σ H xs us Q I r h;obtain ⟨p,bs,rfl,hq,q⟩:=h;obtain ⟨u,rfl,ru⟩:=vals1 r;cases ru;obtain ⟨its,rv,pl,hz⟩:=I.list hq;have ei:=lG rv;subst ei;have aT:p < s.heap.objs.size:=by obtain ⟨_,e,_⟩:=pl.isList;exact zAy e
 refine call_all_walk (wpAny_pyIter_list pl.isList ?_);have W:=Walks.list (prog:=X.prog) (w:=X.w) (A:=X.A.in1) (I.ok.hd hc) s.heap.objs.size p (zB4 aT) (bs.map Value.bool).toArray;refine ⟨_,_,_,_,_,_,_,rfl,{ sub:=W.sub,frame:=W.frame,item:=fun i s Q E hi st hQ=>W.item i s Q E hi st fun v h' tk hP=>hQ v h' tk ?_,done:=W.done,self:=W.self },⟨⟨_,zB3 _ rfl,rfl,rfl⟩,pl.isList.push _⟩,qW bs,fun h' tk k=>?_⟩
 ·have wt:(bs.map Value.bool).toArray[i]?=some v:=hP;rw [List.getElem?_toArray,zAb] at wt
  cases e:bs[i]? with
  | none=>rw [e] at wt;cases wt
  | some b=>rw [e] at wt;exact ⟨b,rfl,(zAl wt).symm⟩
 ·have hsz:(bs.map Value.bool).toArray.size=bs.length:=by simp
  rw [hsz,all_range];refine ⟨.bl _,H,?_,rfl,q⟩;refine I.kept (h':=h') (t':=tk) fun b o e=>k b o ?_ (Heap.get?_push_of_some _ e);intro z;have:b=s.heap.objs.size:=by simpa using z
  exact absurd (zAy e) (by rw [this];exact Nat.lt_irrefl _)
end
theorem jj {K:PySem.W.Frag}:PySem.W.kitOne K (.type "NoneType") (.type "int")=some false:=by kernel_rfl
theorem iM {K:PySem.W.Frag}:PySem.W.kitOne K (.type "NoneType") (.type "bool")=some false:=by kernel_rfl
theorem ik {K:PySem.W.Frag}:PySem.W.kitOne K (.type "NoneType") (.type "tuple")=some false:=by kernel_rfl
theorem pR {K:PySem.W.Frag}:PySem.W.kitOne K (.type "bool") (.type "int")=some true:=by kernel_rfl
theorem mZ {K:PySem.W.Frag}:PySem.W.kitOne K (.type "bool") (.type "bool")=some true:=by kernel_rfl
theorem lH {K:PySem.W.Frag}:PySem.W.kitOne K (.type "bool") (.type "tuple")=some false:=by kernel_rfl
theorem qX {K:PySem.W.Frag}:PySem.W.kitOne K (.type "int") (.type "int")=some true:=by kernel_rfl
theorem pU {K:PySem.W.Frag}:PySem.W.kitOne K (.type "int") (.type "bool")=some false:=by kernel_rfl
theorem ni {K:PySem.W.Frag}:PySem.W.kitOne K (.type "int") (.type "tuple")=some false:=by kernel_rfl
theorem qY {K:PySem.W.Frag}:PySem.W.kitOne K (.type "str") (.type "int")=some false:=by kernel_rfl
theorem pW {K:PySem.W.Frag}:PySem.W.kitOne K (.type "str") (.type "bool")=some false:=by kernel_rfl
theorem nj {K:PySem.W.Frag}:PySem.W.kitOne K (.type "str") (.type "tuple")=some false:=by kernel_rfl
theorem pZ {K:PySem.W.Frag}:PySem.W.kitOne K (.type "list") (.type "int")=some false:=by kernel_rfl
theorem nq {K:PySem.W.Frag}:PySem.W.kitOne K (.type "list") (.type "bool")=some false:=by kernel_rfl
theorem lJ {K:PySem.W.Frag}:PySem.W.kitOne K (.type "list") (.type "tuple")=some false:=by kernel_rfl
theorem nu {K:PySem.W.Frag}:PySem.W.kitOne K (.type "tuple") (.type "int")=some false:=by kernel_rfl
theorem lK {K:PySem.W.Frag}:PySem.W.kitOne K (.type "tuple") (.type "bool")=some false:=by kernel_rfl
theorem jL {K:PySem.W.Frag}:PySem.W.kitOne K (.type "tuple") (.type "tuple")=some true:=by kernel_rfl
theorem q8 {K:PySem.W.Frag}:PySem.W.kitOne K (.type "dict") (.type "int")=some false:=by kernel_rfl
theorem nA {K:PySem.W.Frag}:PySem.W.kitOne K (.type "dict") (.type "bool")=some false:=by kernel_rfl
theorem lM {K:PySem.W.Frag}:PySem.W.kitOne K (.type "dict") (.type "tuple")=some false:=by kernel_rfl
section
variable {κ:Type}[DecidableEq κ]
def cQ (kvs:List (κ×V))(k:κ):Option V:=(kvs.find? fun kv=>decide (kv.1=k)).map (·.2)
def putK (kvs:List (κ×V))(k:κ)(v:V):List (κ×V) :=
 if (kvs.any fun kv=>decide (kv.1=k))=true then kvs.map (fun kv=>if kv.1=k then (kv.1,v) else kv) else kvs++[(k,v)]
theorem cN {p:κ×V}{r:List (κ×V)}{k:κ}(e:p.1=k):cQ (p::r) k=some p.2:=by simp [cQ,List.find?_cons,e]
theorem cO {p:κ×V}{r:List (κ×V)}{k:κ}(e:¬ p.1=k):cQ (p::r) k=cQ r k:=by simp [cQ,List.find?_cons,e]
theorem eG (k:κ):∀ kvs:List (κ×V),(kvs.any fun kv=>decide (kv.1=k))=(cQ kvs k).isSome
 | []=>rfl
 | p::r=>by
  rw [List.any_cons];by_cases e:p.1=k
  ·simp only [cN e,decide_eq_true e,Bool.true_or,Option.isSome_some]
  ·rw [cO e,zB1 e,Bool.false_or];exact eG k r
theorem qZ (k j:κ)(y:V):∀ kvs:List (κ×V),cQ (kvs.map fun kv=>if kv.1=k then (kv.1,y) else kv) j=(cQ kvs j).map fun x=>if j=k then y else x
 | []=>rfl
 | p::r=>by
  have ih:=qZ k j y r;rw [zAk];by_cases h:p.1=k
  ·rw [zAx h];by_cases e:p.1=j
   ·rw [cN (p:=(p.1,y)) e,cN e,Option.map_some,zAx (e.symm.trans h)]
   ·rw [cO (p:=(p.1,y)) e,cO e,ih]
  ·rw [zAu h];by_cases e:p.1=j
   ·rw [cN (p:=p) e,cN e,Option.map_some,zAu (fun z=>h (e.trans z))]
   ·rw [cO (p:=p) e,cO e,ih]
theorem oF (k j:κ)(y:V):∀ kvs:List (κ×V),cQ kvs k=none->cQ (kvs++[(k,y)]) j=if j=k then some y else cQ kvs j
 | [],_=>by
  by_cases e:k=j
  ·rw [zAx e.symm];exact cN (p:=(k,y)) e
  ·rw [zAu (fun z=>e z.symm)];exact cO (p:=(k,y)) e
 | p::r,hn=>by
  rw [List.cons_append]
  have hk:¬ p.1=k:=fun z=>by rw [cN z] at hn;cases hn
  rw [cO hk] at hn;have ih:=oF k j y r hn;by_cases e:p.1=j
  ·rw [cN e,cN e,zAu (fun z=>hk (e.trans z))]
  ·rw [cO e,cO e,ih]
theorem gm (kvs:List (κ×V))(k j:κ)(y:V):cQ (putK kvs k y) j=if j=k then some y else cQ kvs j:=by
 unfold putK;by_cases a:(kvs.any fun kv=>decide (kv.1=k))=true
 ·rw [zAx a,qZ];rw [eG] at a;by_cases e:j=k
  ·obtain ⟨x,hx⟩:=Option.isSome_iff_exists.mp a;rw [zAx e,e,hx,Option.map_some,zAx rfl]
  ·rw [zAu e]
   cases cQ kvs j with
   | none=>rfl
   | some x=>rw [Option.map_some,zAu e]
 ·rw [zAu a];refine oF k j y kvs ?_;rw [eG] at a
  cases q:cQ kvs k with
  | none=>rfl
  | some x=>rw [q] at a;exact (a rfl).elim
theorem jD (kvs:List (κ×V))(k:κ)(v:V):(putK kvs k v).length<=kvs.length+1:=by
 unfold putK;split
 ·rw [zA1];lia
 ·rw [zA2,zAe,List.length_nil];lia
theorem lN {kvs:List (κ×V)}{k:κ}(v:V)(h:cQ kvs k=none):putK kvs k v=kvs++[(k,v)]:=by
 unfold putK;rw [eG,h];exact zAu (by decide)
theorem RelO.isSome_eq {o:Option V}{u:Option Value}(r:RelO o u):o.isSome=u.isSome:=by
 cases o with
 | none=>cases u with
  | none=>rfl
  | some _=>exact (show False from r).elim
 | some _=>cases u with
  | none=>exact (show False from r).elim
  | some _=>rfl
theorem KV.val {kvs:List (κ×V)}{vs:List (κ×Value)}(r:KV kvs vs)(k:κ):RelO (cQ kvs k) (valueAt vs k):=by
 unfold KV at r
 induction r with
 | nil=>exact True.intro
 | @cons p q ps qs h t ih =>
  obtain ⟨h1,h2⟩:=h;by_cases e:p.1=k
  ·have e':q.1=k:=h1.symm.trans e;have b:valueAt (q::qs) k=some q.2:=by simp [valueAt,List.find?_cons,e']
   rw [cN e,b];exact h2
  ·have e':¬ q.1=k:=fun z=>e (h1.trans z);have b:valueAt (q::qs) k=valueAt qs k:=by simp [valueAt,List.find?_cons,e']
   rw [cO e,b];exact ih
theorem KV.any {kvs:List (κ×V)}{vs:List (κ×Value)}(r:KV kvs vs)(k:κ):(kvs.any fun kv=>decide (kv.1=k))=vs.any fun kv=>decide (kv.1=k):=by
 unfold KV at r
 induction r with
 | nil=>rfl
 | cons h t ih=>rw [List.any_cons,List.any_cons,ih,h.1]
theorem KV.repl {kvs:List (κ×V)}{vs:List (κ×Value)}(r:KV kvs vs)(k:κ){y:V}{u:Value}(ry:RelV y u) :
  KV (kvs.map fun kv=>if kv.1=k then (kv.1,y) else kv) (vs.map fun kv=>if kv.1=k then (kv.1,u) else kv):=by
 unfold KV at r ⊢
 induction r with
 | nil=>exact .nil
 | @cons p q ps qs h t ih =>
  rw [zAk,zAk];refine .cons ?_ ih;obtain ⟨h1,h2⟩:=h;by_cases e:p.1=k
  ·rw [zAx e,zAx (h1.symm.trans e)];exact ⟨h1,ry⟩
  ·rw [zAu e,zAu (fun z=>e (h1.trans z))];exact ⟨h1,h2⟩
theorem KV.put {kvs:List (κ×V)}{vs:List (κ×Value)}(r:KV kvs vs)(k:κ){y:V}{u:Value}(ry:RelV y u):KV (putK kvs k y) (stored vs k u):=by
 unfold putK stored;rw [r.any k];by_cases e:(vs.any fun kv=>decide (kv.1=k))=true
 ·rw [zAx e,zAx e];exact r.repl k ry
 ·rw [zAu e,zAu e];exact Paired.snoc r ⟨rfl,ry⟩
theorem KV.length {kvs:List (κ×V)}{vs:List (κ×Value)}(r:KV kvs vs):kvs.length=vs.length:=Paired.length r
end
theorem uD {P:Program}{w:World}{k:Key}{u:Value}(r:RelV (kV k) u):(cA P w).is k u=true:=by
 cases k with
 | inl i=>obtain ⟨t,e⟩:=(show ∃ t,u=Value.int i t from r);subst e;exact qL P w i t
 | inr x=>obtain ⟨t,e⟩:=(show ∃ t,u=Value.str x t from r);subst e;exact qM P w x t
theorem oG {P:Program}{w:World}:∀ {ks:List Key} {us:List Value},Vals (ks.map kV) us->ItemsAre (cA P w) ks us
 | [],_,r=>by rw [List.map_nil] at r;cases r;exact .nil
 | k::ks,_,r=>by
  rw [zAk] at r
  cases r with
  | cons h t=>exact .cons (uD h) (oG t)
abbrev KT (H:Hp):List (List Key×V)->List (List Key×Addr×Value)->Prop:=Paired fun p q=>p.1=q.1/\H q.2.1=some (.tup (p.1.map kV))/\RelV p.2 q.2.2
theorem KT.val {H:Hp}{kvs:List (List Key×V)}{xs:List (List Key×Addr×Value)}(r:KT H kvs xs)(k:List Key):RelO (cQ kvs k) ((atKey xs k).map (·.2)):=by
 induction r with
 | nil=>exact True.intro
 | @cons p q ps qs h t ih =>
  obtain ⟨h1,_,h2⟩:=h;by_cases e:p.1=k
  ·have e':q.1=k:=h1.symm.trans e;have b:atKey (q::qs) k=some q.2:=by simp [atKey,List.find?_cons,e']
   rw [cN e,b];exact h2
  ·have e':¬ q.1=k:=fun z=>e (h1.trans z);have b:atKey (q::qs) k=atKey qs k:=by simp [atKey,List.find?_cons,e']
   rw [cO e,b];exact ih
theorem KT.repl {H:Hp}{kvs:List (List Key×V)}{xs:List (List Key×Addr×Value)}(r:KT H kvs xs)(k:List Key){y:V}{u:Value}(ry:RelV y u) :
  KT H (kvs.map fun kv=>if kv.1=k then (kv.1,y) else kv) (xs.map (putAt k u)):=by
 induction r with
 | nil=>exact .nil
 | @cons p q ps qs h t ih =>
  rw [zAk,zAk];refine .cons ?_ ih;obtain ⟨h1,h2,h3⟩:=h;unfold putAt;by_cases e:p.1=k
  ·rw [zAx e,zAx (h1.symm.trans e)];exact ⟨h1,h2,ry⟩
  ·rw [zAu e,zAu (fun z=>e (h1.trans z))];exact ⟨h1,h2,h3⟩
theorem KT.put {H:Hp}{kvs:List (List Key×V)}{xs:List (List Key×Addr×Value)}(r:KT H kvs xs)(k:List Key){b:Addr}{y:V}{u:Value}(hb:H b=some (.tup (k.map kV)))(ry:RelV y u) :
  KT H (putK kvs k y) (storedH xs k b u):=by
 have e:(kvs.any fun kv=>decide (kv.1=k))=(atKey xs k).isSome:=by
  rw [eG,(r.val k).isSome_eq,Option.isSome_map]
 unfold putK storedH;rw [e];by_cases q:(atKey xs k).isSome=true
 ·rw [zAx q,zAx q];exact r.repl k ry
 ·rw [zAu q,zAu q];exact Paired.snoc r ⟨rfl,hb,ry⟩
theorem KT.keeps {H H':Hp}{kvs:List (List Key×V)}{xs:List (List Key×Addr×Value)}(r:KT H kvs xs)(ht:∀ b ys,H b=some (.tup ys)->H' b=some (.tup ys)):KT H' kvs xs :=
 Paired.mapP r fun _ _ z=>⟨z.1,ht _ _ z.2.1,z.2.2⟩
section
variable {P:Program}{w:World}{H:Hp}{h:Heap}{a:Addr}
theorem Cw {u:HO}(ok:HOk P w H h)(e:Rd H a u):ObjOk P w H h a u:=e.ok ok
theorem uE {kvs:List (Key×V)}(ok:HOk P w H h)(e:Rd H a (.dK kvs)):kvs.length<=sizeLine/\(a == sysModules)=false/\∃ vs,KV kvs vs/\h.DictOf (cA P w) a vs :=
 show ObjOk P w H h a (.dK kvs) from Cw ok e
theorem Fz {kvs:List (Key×V)}(ok:HOk P w H h)(e:H a=some (.dK kvs)):kvs.length<=sizeLine/\(a == sysModules)=false/\∃ vs,KV kvs vs/\h.DictOf (cA P w) a vs:=uE ok (.inl e)
theorem q9 {ks:List Key}(ok:HOk P w H h)(e:H a=some (.tup (ks.map kV))):(tupleKind (cA P w)).is h ks a:=by
 obtain ⟨_,its,r,o,h1,h2,n,h3⟩:=(show ObjOk P w H h a (.tup (ks.map kV)) from ok a _ e)
 exact ⟨o,its.toArray,n,h1,h2,h3,by simpa using oG r⟩
theorem uF {kvs:List (List Key×V)}(ok:HOk P w H h)(e:Rd H a (.dT kvs)):kvs.length<=sizeLine/\(a == sysModules)=false /\
  ∃ xs,KT H kvs xs/\h.DictOfH (tupleKind (cA P w)) a xs:=by
 obtain ⟨z,y,xs,r,o,es,ep,h1,h2,h3,h4,h5⟩:=(show ObjOk P w H h a (.dT kvs) from Cw ok e)
 refine ⟨z,y,xs,r,o,es,ep,h1,h2,h3,h4,fun x hx=>?_,h5⟩
 have all:∀ {l:List (List Key×V)} {m:List (List Key×Addr×Value)},KT H l m->∀ x∈m,(tupleKind (cA P w)).is h x.1 x.2.1:=by
  intro l m q
  induction q with
  | nil=>intro x hx;exact nomatch hx
  | @cons p q ps qs hq t ih =>
   intro x hx;rcases zAo.mp hx with e | hx
   ·subst e;exact q9 ok (by rw [<- hq.1];exact hq.2.1)
   ·exact ih x hx
 exact all r x hx
theorem FJ {kvs:List (List Key×V)}(ok:HOk P w H h)(e:H a=some (.dT kvs)):kvs.length<=sizeLine/\(a == sysModules)=false /\
  ∃ xs,KT H kvs xs/\h.DictOfH (tupleKind (cA P w)) a xs:=uF ok (.inl e)
end
def DGet (H:Hp)(a:Addr)(y:V)(r:Option V):Prop :=
 (∃ kvs k,Rd H a (.dK kvs)/\y=kV k/\r=cQ kvs k)\/∃ kvs k b,Rd H a (.dT kvs)/\y=.ref b/\H b=some (.tup (k.map kV))/\r=cQ kvs k
def DPut (H:Hp)(a:Addr)(y v:V)(H':Hp):Prop :=
 (∃ kvs k,H a=some (.dK kvs)/\y=kV k/\kvs.length < sizeLine/\H'=upd H a (.dK (putK kvs k v))) \/
 ∃ kvs k b,H a=some (.dT kvs)/\y=.ref b/\H b=some (.tup (k.map kV))/\kvs.length < sizeLine/\H'=upd H a (.dT (putK kvs k v))
theorem DGet.t {H:Hp}{a b:Addr}{kvs:List (List Key×V)}{k:List Key}(e:H a=some (.dT kvs))(eb:H b=some (.tup (k.map kV))):DGet H a (.ref b) (cQ kvs k):=.inr ⟨kvs,k,b,.inl e,rfl,eb,rfl⟩
theorem DPut.t {H:Hp}{a b:Addr}{kvs:List (List Key×V)}{k:List Key}{v:V}(e:H a=some (.dT kvs))(eb:H b=some (.tup (k.map kV)))(hl:kvs.length < sizeLine) :
  DPut H a (.ref b) v (upd H a (.dT (putK kvs k v))):=.inr ⟨kvs,k,b,e,rfl,eb,hl,rfl⟩
section
variable {X:Cx}{pins:List (Addr×Obj)}{σ:St}{H:Hp}{s:Shared}{a:Addr}{y v:V}{u r:Value}{o:Option V}{A:Around}{E:Value->Shared->Prop}
theorem Inv.big (I:Inv X pins σ H s):sysModules < s.heap.objs.size:=by
 have h:mainGlobals < s.heap.objs.size:=(I.mod.glob.keeps I.bk).lt;exact Nat.lt_trans (by decide) h
theorem wg {Q:Value->Shared->Prop}(hu:A.units+1 < cLine)(I:Inv X pins σ H s)(g:DGet H a y (some v))(ry:RelV y u)(h:∀ w' s',Inv X pins σ H s'->RelV v w'->Q w' s') :
  wpAny (model X.prog X.w) A (getItem (.ref a) u) Q E s:=by
 rcases g with ⟨kvs,k,e,ey,l⟩ | ⟨kvs,k,b,e,ey,eb,l⟩
 ·subst ey;obtain ⟨z,hd,vs,rel,dd⟩:=uE I.hok e;obtain ⟨w',hw,fw⟩:=RelO.some_of (v:=v) (o:=valueAt vs k) (by rw [l];exact rel.val k);exact wpAny_getItem_of (uD ry) dd.mapOf hw (h w' _ (I.tok _) fw)
 ·subst ey;cases (show u=Value.ref b from ry);obtain ⟨z,hd,xs,rel,dd⟩:=uF I.hok e;obtain ⟨w',hw,fw⟩:=RelO.some_of (v:=v) (o:=(atKey xs k).map (·.2)) (by rw [l];exact rel.val k);obtain ⟨p,hp,nr⟩:=Option.map_eq_some_iff.mp hw;refine wpAny_getItem_heap (tupleKind_room_in1 hu) (q9 I.hok eb) dd hp ?_;rw [nr];exact h w' _ (I.tok _) fw
theorem Av {Q:Value->Shared->Prop}(hu:A.units+1 < cLine)(I:Inv X pins σ H s)(g:DGet H a y o)(ry:RelV y u)(h:∀ s',Inv X pins σ H s'->Q (.bool (!o.isSome)) s') :
  wpAny (model X.prog X.w) A (compareOp .NotIn u (.ref a)) Q E s:=by
 rcases g with ⟨kvs,k,e,ey,l⟩ | ⟨kvs,k,b,e,ey,eb,l⟩
 ·subst ey;obtain ⟨z,hd,vs,rel,dd⟩:=uE I.hok e;refine wpAny_notIn_of (uD ry) hd dd.mapOf ?_;rw [<- (rel.val k).isSome_eq,<- l];exact h _ (I.tok _)
 ·subst ey;cases (show u=Value.ref b from ry);obtain ⟨z,hd,xs,rel,dd⟩:=uF I.hok e;refine wpAny_notIn_heap (tupleKind_room_in1 hu) (q9 I.hok eb) hd dd ?_;have q:=(rel.val k).isSome_eq;rw [Option.isSome_map] at q;rw [<- q,<- l];exact h _ (I.tok _)
theorem uG {h':Heap}{t':Nat}{ob:HO}(I:Inv X pins σ H s)(mu:Mut (H a))(hs:Heap.SameBut a s.heap h')(he:∃ q,h'.get? a=some q)(new:ObjOk X.prog X.w (upd H a ob) h' a ob) :
  Inv X pins σ (upd H a ob) { s with heap:=h',toks:=t' } :=
 I.write (x:=a) (e:=a) mu (.inl rfl) (fun b q hb z=>(hs.2 b hb).trans z) he new
theorem DG {P:Program}{w:World}{H':Hp}{h':Heap}{kvs:List (Key×V)}{vs:List (Key×Value)}(z:kvs.length<=sizeLine)(hd:(a == sysModules)=false)(rel:KV kvs vs)(dd:h'.DictOf (cA P w) a vs) :
  ObjOk P w H' h' a (.dK kvs):=⟨z,hd,vs,rel,dd⟩
theorem wj {H':Hp}{Q:Unit->Shared->Prop}(hu:A.units+1 < cLine)(I:Inv X pins σ H s)(g:DPut H a y v H')(ry:RelV y u)(rv:RelV v r)(h:∀ s',Inv X pins σ H' s'->Q () s') :
  wpAny (model X.prog X.w) A (setItem (.ref a) u r) Q E s:=by
 rcases g with ⟨kvs,k,e,ey,l,eH⟩ | ⟨kvs,k,b,e,ey,eb,l,eH⟩
 ·subst ey eH;obtain ⟨z,hd,vs,rel,dd⟩:=Fz I.hok e;have hz:vs.length<=sizeLine:=by rw [<- rel.length];exact z
  have hl:(putK kvs k v).length<=sizeLine:=by have:=jD kvs k v;lia
  refine wpAny_setItem_pairs (hsz:=hz) (uD ry) dd fun h' A3 hs=>h _ ?_
  have he:∃ q,h'.get? a=some q:=let ⟨q,_,_,hq,_⟩:=A3;⟨q,hq⟩
  exact uG I (by rw [e];exact True.intro) hs he (DG hl hd (rel.put k rv) A3)
 ·subst ey eH;cases (show u=Value.ref b from ry);obtain ⟨z,hd,xs,rel,dd⟩:=FJ I.hok e;have hz:xs.length<=sizeLine:=by rw [<- Paired.length rel];exact z
  have hl:(putK kvs k v).length<=sizeLine:=by have:=jD kvs k v;lia
  refine wpAny_setItem_heap (hsz:=hz) (tupleKind_room_in1 hu) (q9 I.hok eb) dd fun h' A3 hs=>h _ ?_;obtain ⟨q,es,ep,hq,h2,h3,h4,_,h5⟩:=A3;refine uG I (by rw [e];exact True.intro) hs ⟨q,hq⟩ ⟨hl,hd,_,(rel.put k eb rv).keeps fun c ys ec=>?_,q,es,ep,hq,h2,h3,h4,h5⟩;rw [aA (Ez ec e (fun z=>nomatch z))];exact ec
end
section
variable {X:Cx}{pins:List (Addr×Obj)}{σ:St}{H:Hp}{s:Shared}{a:Addr}{kvs:List (Key×V)}{k:Key}{u:Value}{A:Around}{E:Value->Shared->Prop}
end
def FN (i:Expr):Prop:=∀ ov iv,subscripted i false ov iv=operate [ov,iv] (getItem ov iv)
theorem Aw {prog:Program}{w:World}{A:Around}{E:Value->Shared->Prop}{s:Shared}{env:Env}{value slice:Expr}{pos:Pos}{T id:String}{Q:Value->Shared->Prop}
  (hl:typeLookup (.type T) "__getitem__" = pure (some (.builtin id))) (hs:FN slice)
  (h:wpAny (model prog w) A (eval value env) (fun o s₁=>wpAny (model prog w) A (eval slice env) (fun i s₂=>s₂.TypeIs o T/\wpAny (model prog w) A (getItem o i) Q E s₂) E s₁) E s) :
  wpAny (model prog w) A (eval (.Subscript value slice pos) env) Q E s:=by
 refine Subscript_ (wpAny_mono h (fun o s₁ cm=>wpAny_mono cm (fun i s₂ ja=>?_) fun _ _ x=>x) fun _ _ x=>x);obtain ⟨hT,ja⟩:=ja;unfold subscriptTail;refine zAw ?_;rw [getitemInPython_of_ne hT.not_modules];refine zAw (wpAny_specialOf hT hl ?_)
 have fin:wpAny (model prog w) A (subscripted slice false o i) (fun r s₃=>wpAny (model prog w) A (letTemporaryGo value o r >>= fun _=>pure r) Q E s₃) E s₂:=by
  rw [hs o i];exact wpAny_operating (wpAny_mono ja (fun r s₃ lh=>zAw (wpAny_letTemporaryGo (zB0 lh))) fun _ _ x=>x)
 first
  | exact zB0 (zAw fin)
  | exact zAw (zB0 (zAw fin))
  | exact zAw fin
theorem rm {X:Cx}{pins:List (Addr×Obj)}{σ:St}{H:Hp}{s:Shared}{a:Addr}{y:V}{o:Option V}(I:Inv X pins σ H s)(g:DGet H a y o):s.TypeIs (.ref a) "dict" := by
 rcases g with ⟨kvs,k,e,_,_⟩ | ⟨kvs,k,b,e,_,_,_⟩
 ·obtain ⟨_,_,vs,_,dd⟩:=uE I.hok e;exact dd.typeIs
 ·obtain ⟨_,_,xs,_,dd⟩:=uF I.hok e;exact dd.typeIs
def FP (td ty:TE):TE:=fun σ H Q=>td σ H fun x H1=>ty σ H1 fun y H2=>∃ a v,x=.ref a/\DGet H2 a y (some v)/\Q v H2
def Ax (ty td:TE):TE:=fun σ H Q=>ty σ H fun y H1=>td σ H1 fun x H2=>∃ a o,x=.ref a/\DGet H2 a y o/\Q (.bl (!o.isSome)) H2
def FQ (td ty tv:TE):TS:=fun D σ H=>tv σ H fun v H1=>td σ H1 fun x H2=>ty σ H2 fun y H3=>∃ a H4,x=.ref a/\DPut H3 a y v H4/\D.nx σ H4
section
variable {X:Cx}{o i e value:Expr}{pos pos' oD:Pos}{td ty tv:TE}
theorem iQ (hu:X.A.units+1 < cLine)(ho:PE X o td)(hi:PE X i ty)(hs:FN i):PE X (.Subscript o i pos) (FP td ty):=by
 intro pins s σ H Q I h;refine Aw PySem.F.slot_dict_getitem.lookup hs (thn (ho pins s σ H _ I h) fun u s1 ⟨x,H1,I1,rx,q1⟩=>thn (hi pins s1 σ H1 _ I1 q1) fun iv s2 ⟨y,H2,I2,ry,a,v,ex,g,q2⟩=>?_);subst ex;obtain rfl:u=Value.ref a:=rx;exact ⟨rm I2 g,wg hu I2 g ry fun w' s3 I3 fw=>⟨v,H2,I3,fw,q2⟩⟩
theorem wk (hu:X.A.units+1 < cLine)(hi:PE X i ty)(ho:PE X o td):PC X .NotIn i o (Ax ty td):=by
 intro pins s σ H Q I h;refine thn (hi pins s σ H _ I h) fun iv s1 ⟨y,H1,I1,ry,q1⟩=>thn (ho pins s1 σ H1 _ I1 q1) fun u s2 ⟨x,H2,I2,rx,a,ov,ex,g,q2⟩=>?_;subst ex;obtain rfl:u=Value.ref a:=rx
 exact Av hu I2 g ry fun s3 I3=>⟨.bl (!ov.isSome),H2,I3,rfl,q2⟩
theorem Ay (hu:X.A.units+1 < cLine)(ho:PE X o td)(hi:PE X i ty)(hv:PE X value tv)(hs:swapsWith value (some (.Subscript o i pos')) pos.line X.env=pure false) :
  PS X (.Assign [.Subscript o i pos'] value pos) (FQ td ty tv):=by
 intro pins s σ H D I h;refine wpAny_Assign_Subscript (thn (hv pins s σ H _ I h) fun r s1 ⟨v,H1,I1,rv,q1⟩=>thn (ho pins s1 σ H1 _ I1 q1) fun u s2 ⟨x,H2,I2,rx,q2⟩=>thn (hi pins s2 σ H2 _ I2 q2) fun iv s3 ⟨y,H3,I3,ry,a,H4,ex,g,q3⟩=>?_) hs;subst ex;obtain rfl:u=Value.ref a:=rx
 exact wj hu I3 g ry rv fun s4 I4=>⟨σ,H4,I4,q3⟩
end
theorem xV {P:Program}{w:World}{H:Hp}(h:Heap)(hb:sysModules < h.objs.size):ObjOk P w H (h.push { cls:=.type "dict",data:=.dict #[] }) h.objs.size (.dT []) :=
 ⟨zAp _,beq_eq_false_iff_ne.mpr (Ne.symm (zB4 hb)),[],.nil,_,#[],0,zB3 _ rfl,⟨rfl,rfl,rfl⟩,rfl,rfl,List.nodup_nil⟩
def DK:TE:=fun _ H Q=>∀ p,H p=none->Q (.ref p) (upd H p (.dT []))
section
variable {X:Cx}{pos:Pos}
theorem xW:PE X (.Dict [] [] pos) DK:=fun pins s σ H Q I h =>
 wpAny_Dict_empty ⟨.ref s.heap.objs.size,_,I.laid (a:=s.heap.objs.size) (o:=.dT []) (t':=s.toks) (fun _ _ q=>zAz _ q) (zA3 _) (xV s.heap I.big),rfl,h _ (I.hok.fresh (zA3 _))⟩
end
section
variable {X:Cx}{pins:List (Addr×Obj)}{σ:St}{H:Hp}{s:Shared}{a:Addr}{y d:V}{u r:Value}{o:Option V}{A:Around}{E:Value->Shared->Prop}
end
section
variable {X:Cx}{o e f:Expr}{apos fE:Pos}{td ty tx:TE}
end
section
variable {X:Cx}{pins:List (Addr×Obj)}{σ:St}{H:Hp}{s:Shared}{a:Addr}{kvs:List (Key×V)}{A:Around}{E:Value->Shared->Prop}
end
section
variable {X:Cx}{pins:List (Addr×Obj)}{σ:St}{H:Hp}{s:Shared}{a:Addr}{y:V}{u:Value}{A:Around}{E:Value->Shared->Prop}
end
def Hs:Key->PyData
 | .inl i=>.int i
 | .inr x=>.str x
mutual
inductive IsTh (S:Addr->Prop)(H:Hp):V->PyData->Prop
 | non:IsTh S H .non .none
 | bl (b:Bool):IsTh S H (.bl b) (.bool b)
 | int (i:Int):IsTh S H (.int i) (.int i)
 | str (x:Str):IsTh S H (.str x) (.str x)
 | lst {a:Addr} {xs:List V} {ds:List PyData} (hs:S a) (e:H a=some (.lst xs)) (r:IsThs S H xs ds):IsTh S H (.ref a) (.list ds)
 | tup {a:Addr} {xs:List V} {ds:List PyData} (e:H a=some (.tup xs)) (r:IsThs S H xs ds):IsTh S H (.ref a) (.tuple ds)
 | dct {a:Addr} {ks:List (Key×Int)} (hs:S a) (e:H a=some (.dK (ks.map fun p=>(p.1,V.int p.2)))):IsTh S H (.ref a) (.dict (ks.map fun p=>(Hs p.1,.int p.2)))
inductive IsThs (S:Addr->Prop)(H:Hp):List V->List PyData->Prop
 | nil:IsThs S H [] []
 | cons {v:V} {d:PyData} {vs:List V} {ds:List PyData} (h:IsTh S H v d) (t:IsThs S H vs ds):IsThs S H (v::vs) (d::ds)
end
section
variable {S S':Addr->Prop}{H H':Hp}
theorem IsThs.length:∀ {vs:List V} {ds:List PyData},IsThs S H vs ds->vs.length=ds.length
 | _,_,.nil=>rfl
 | _,_,.cons _ t=>by rw [zAe,zAe,IsThs.length t]
theorem IsThs.get:∀ {vs:List V} {ds:List PyData} {i:Nat} {v:V},IsThs S H vs ds->vs[i]?=some v->∃ d,ds[i]?=some d/\IsTh S H v d
 | _,_,_,_,.nil,e=>by simp at e
 | _,_,0,_,.cons h _,e=>by simp at e;subst e;exact ⟨_,rfl,h⟩
 | _,_,i+1,v,.cons _ t,e=>by
  obtain ⟨d,h1,h2⟩:=IsThs.get (i:=i) (v:=v) t (by simpa using e);exact ⟨d,by simpa using h1,h2⟩
theorem IsThs.append:∀ {vs ws:List V} {ds es:List PyData},IsThs S H vs ds->IsThs S H ws es->IsThs S H (vs++ws) (ds++es)
 | _,_,_,_,.nil,s=>s
 | _,_,_,_,.cons h t,s=>.cons h (IsThs.append t s)
theorem IsThs.ints:∀ (ns:List Int),IsThs S H (ns.map V.int) (ns.map PyData.int)
 | []=>.nil
 | n::ns=>.cons (.int n) (IsThs.ints ns)
mutual
theorem IsTh.keep (ht:∀ b xs,H b=some (.tup xs)->H' b=some (.tup xs))(hs:∀ b o,S b->H b=some o->H' b=some o)(hS:∀ b o,S b->H b=some o->S' b):∀ {v:V} {d:PyData},IsTh S H v d->IsTh S' H' v d
 | _,_,.non=>.non
 | _,_,.bl b=>.bl b
 | _,_,.int i=>.int i
 | _,_,.str x=>.str x
 | _,_,.lst s e r=>.lst (hS _ _ s e) (hs _ _ s e) (IsThs.keep ht hs hS r)
 | _,_,.tup e r=>.tup (ht _ _ e) (IsThs.keep ht hs hS r)
 | _,_,.dct s e=>.dct (hS _ _ s e) (hs _ _ s e)
theorem IsThs.keep (ht:∀ b xs,H b=some (.tup xs)->H' b=some (.tup xs))(hs:∀ b o,S b->H b=some o->H' b=some o)(hS:∀ b o,S b->H b=some o->S' b):∀ {vs:List V} {ds:List PyData},IsThs S H vs ds->IsThs S' H' vs ds
 | _,_,.nil=>.nil
 | _,_,.cons h t=>.cons (IsTh.keep ht hs hS h) (IsThs.keep ht hs hS t)
end
def tyD:PyData->String
 | .none=>"NoneType"
 | .bool _=>"bool"
 | .int _=>"int"
 | .str _=>"str"
 | .list _=>"list"
 | .tuple _=>"tuple"
 | .dict _=>"dict"
theorem IsTh.ty {K:PySem.W.Frag}{v:V}{d:PyData}(h:IsTh S H v d):TyOf K H v (.type (tyD d)):=by
 cases h with
 | non=>exact .non
 | bl b=>exact .bl b
 | int i=>exact .int i
 | str x=>exact .str x
 | lst s e r=>exact .lst e
 | tup e r=>exact .tup e
 | dct s e=>exact .dK e
def qb:PyData->Bool
 | .int _=>true
 | .bool _=>true
 | _=>false
def qd:PyData->Bool
 | .bool _=>true
 | _=>false
def qe:PyData->Bool
 | .tuple _=>true
 | _=>false
theorem Az {K:PySem.W.Frag}(d:PyData):PySem.W.kitOne K (.type (tyD d)) (.type "int")=some (qb d):=by
 cases d
 ·exact jj
 ·exact pR
 ·exact qX
 ·exact qY
 ·exact pZ
 ·exact nu
 ·exact q8
theorem xX {K:PySem.W.Frag}(d:PyData):PySem.W.kitOne K (.type (tyD d)) (.type "bool")=some (qd d):=by
 cases d
 ·exact iM
 ·exact mZ
 ·exact pU
 ·exact pW
 ·exact nq
 ·exact lK
 ·exact nA
theorem Ba {K:PySem.W.Frag}(d:PyData):PySem.W.kitOne K (.type (tyD d)) (.type "tuple")=some (qe d):=by
 cases d
 ·exact ik
 ·exact lH
 ·exact ni
 ·exact nj
 ·exact lJ
 ·exact jL
 ·exact lM
end
mutual
def sz:PyData->Nat
 | .none=>1
 | .bool _=>1
 | .int _=>1
 | .str _=>1
 | .list xs=>1+szs xs
 | .tuple xs=>1+szs xs
 | .dict kvs=>1+4 * kvs.length
def szs:List PyData->Nat
 | []=>0
 | x::xs=>sz x+szs xs
end
section
variable {X:Cx}{pins:List (Addr×Obj)}{σ:St}{H:Hp}{s:Shared}{S:Addr->Prop}
end
section
variable {X:Cx}
theorem wu (hu:X.A.units < cLine):OpR X (compareOp .Eq) (fun x y H Q=>∃ a b xs,x=.ref a/\y=.ref b/\SqT X.K H a xs/\SqT X.K H b []/\Q (.bl xs.isEmpty) H):=by
 intro pins s σ H x y v u Q I rx ry h;obtain ⟨a,b,xs,rfl,rfl,ha,hb,q⟩:=h;cases rx;cases ry;obtain ⟨its,r1,p1,_⟩:=I.tuple ha;obtain ⟨bq,r2,p2,_⟩:=I.tuple hb;have e2:bq=[]:=r2.zero;subst e2;refine PySem.SeqAt.eq_tupleAt (e:=fun _=>true) p1 p2 hu (fun j h1 h2=>absurd h2 (by simp)) ?_
 have e3:((List.range (min its.toArray.size ([]:List Value).toArray.size)).all (fun _=>true) && its.toArray.size == ([]:List Value).toArray.size)=xs.isEmpty:=by
  have:=r1.length
  cases its with
  | nil =>
   cases r1;rfl
  | cons a r=>cases xs with
   | nil=>simp at this
   | cons b r'=>simp
 rw [e3];exact ⟨.bl _,H,I,rfl,q⟩
end
section
variable {prog:Program}{w:World}{A:Around}{E:Value->Shared->Prop}{s:Shared}
theorem DN {j t:Addr}{i:Nat}{its:Array Value}{x:Value}{Q:Value->Shared->Prop}(hj:s.heap.IsTupleIter j t i)(ht:s.heap.IsTuple t its)(hx:its[i]?=some x)
  (hQ:∀ h',h'.IsTupleIter j t (i+1)->Heap.SameBut j s.heap h'->Q x { s with heap:=h' }):wpAny (model prog w) A (Builtin.SmallTypes.nextOf (.ref j)) Q E s:=by
 obtain ⟨o,ho,hc,hd⟩:=id hj;obtain ⟨p,hp,_,m,hm⟩:=ht;unfold Builtin.SmallTypes.nextOf;refine wpAny_bind (wpAny_callSpecial?_slot (name:=Str.ofString "__next__") hj.typeIs F.slot_tuple_iterator_next (wpAny_call_entry F.slot_tuple_iterator_next hj.typeIs F.entry_tuple_iterator_next ?_ (F.args_tuple_iterator_next_1 _)));show wpAny _ _ (field (.ref j) 0 >>= _) _ _ s;refine wpAny_bind (wpAny_field ho hd (x:=.ref t) rfl ?_);show wpAny _ _ (if (Value.ref t == Value.none)=true then _ else _) _ _ s;rw [if_neg (show ¬ ((Value.ref t == Value.none)=true) by intro z;exact zAg z)];show wpAny _ _ (field (.ref j) 1 >>= _) _ _ s;refine wpAny_bind (wpAny_field ho hd (x:=.int i 0) rfl (wpAny_bind (wpAny_seqItems hp hm ?_)));simp only [Int.toNat_natCast,hx]
 refine wpAny_bind (wpAny_setField ho hd (by simp) (wpAny_pure ⟨x,rfl,wpAny_pure (hQ _ ⟨_,Heap.get?_update_self _ ho (Obj.isFreed_of_fields (Obj.data_mapFields hd _)),(Obj.cls_mapFields ..).trans hc,by
  rw [Obj.data_mapFields hd]
  simp [rawInt]⟩ (Heap.SameBut.update ..))⟩))
theorem lO {j t:Addr}{i:Nat}{its:Array Value}{Q:Value->Shared->Prop}(hh:A.handled=none)(hj:s.heap.IsTupleIter j t i)(ht:s.heap.IsTuple t its)(hx:its[i]?=none)
  (hE:∀ h' e,Heap.ExtBut j s.heap h'->(∃ o,h'.get? e=some o/\o.cls=.type "StopIteration")->E (.ref e) { s with heap:=h' }):wpAny (model prog w) A (Builtin.SmallTypes.nextOf (.ref j)) Q E s:=by
 obtain ⟨o,ho,hc,hd⟩:=id hj;obtain ⟨p,hp,_,m,hm⟩:=ht;unfold Builtin.SmallTypes.nextOf;refine wpAny_bind (wpAny_callSpecial?_slot (name:=Str.ofString "__next__") hj.typeIs F.slot_tuple_iterator_next (wpAny_call_entry F.slot_tuple_iterator_next hj.typeIs F.entry_tuple_iterator_next ?_ (F.args_tuple_iterator_next_1 _)));show wpAny _ _ (field (.ref j) 0 >>= _) _ _ s;refine wpAny_bind (wpAny_field ho hd (x:=.ref t) rfl ?_);show wpAny _ _ (if (Value.ref t == Value.none)=true then _ else _) _ _ s;rw [if_neg (show ¬ ((Value.ref t == Value.none)=true) by intro z;exact zAg z)];show wpAny _ _ (field (.ref j) 1 >>= _) _ _ s;refine wpAny_bind (wpAny_field ho hd (x:=.int i 0) rfl (wpAny_bind (wpAny_seqItems hp hm ?_)));simp only [Int.toNat_natCast,hx];refine wpAny_bind (wpAny_rule (wpAny_bind (wpAny_setField ho hd (by simp) ?_)));show wpAny _ _ (newExc (.type "StopIteration") [] >>= _) _ _ _;refine wpAny_bind ?_;simp only [newExc,newTuple];refine wpAny_bind (wpAny_newObj_type (wpAny_bind (m:=firstArgMember _ _) (wpAny_of_eq (a:=Value.none) (by first | rfl | (simp only [firstArgMember];rfl)) (wpAny_newObj_type ?_ (by size_fits)))) (by size_fits));simp only [raiseNew];refine wpAny_bind (wpAny_handled ?_)
 first
  | rw [show A.in1.handled=none from hh]
  | rw [hh]
 exact zAw (zB0 (wpAny_throw (hE _ _ (((Heap.SameBut.update ..).extBut.push _).push _) ⟨_,zB3 _ rfl,rfl⟩)))
end
abbrev zA (h:Heap)(t:Addr):Heap:=h.push { cls:=.type "tuple_iterator",data:=.fields #[.ref t,.int 0 0] }
section
variable {X:Cx}
end
theorem IsTh.same {S:Addr->Prop}{H H':Hp}{v:V}{d:PyData}(h:IsTh S H v d)(s:Same H H'):IsTh S H' v d:=h.keep (fun b xs e=>s b _ e) (fun b o _ e=>s b o e) fun _ _ z _=>z
theorem IsThs.same {S:Addr->Prop}{H H':Hp}{v:List V}{d:List PyData}(h:IsThs S H v d)(s:Same H H'):IsThs S H' v d:=h.keep (fun b xs e=>s b _ e) (fun b o _ e=>s b o e) fun _ _ z _=>z
theorem Same.upd {H:Hp}{D:Addr}{o:HO}(h:H D=none):Same H (upd H D o):=fun b u e=>by rw [aA (aC e h)];exact e
theorem Same.updR {H H':Hp}{D:Addr}{o:HO}(s:Same H H')(h:H' D=none):Same H (L2.upd H' D o):=s.trans (Same.upd h)
theorem rz {K:PySem.W.Frag}{S:Addr->Prop}{te:TE}{a:Addr}{xs:List V}{ds:List PyData}(f:PyData->Bool){fh:St}{j:Nat}{H0:Hp}{Fin:List V->Hp->Prop}(hT:H0 a=some (.tup xs))(th:IsThs S H0 xs ds)(hl:xs.length < sizeLine)
  (wx:∀ v d H Q,d∈ds->Same H0 H->IsTh S H v d->(∀ H',Same H H'->Q (.bl (f d)) H')->te (fh.set j (some v)) H Q)
  (fin:∀ H',Same H0 H'->Fin (ds.map fun d=>V.bl (f d)) H'):jC (Itt K a) (bG j) w5 te Fin fh H0:=by
 have hlen:=th.length;refine ⟨fun i m ys σ H=>m=xs.length - i/\i<=xs.length/\ys=(ds.take i).map (fun d=>V.bl (f d))/\(∀ o,σ.set j o=fh.set j o)/\Same H0 H,⟨_,rfl,zAp _,rfl,fun _=>rfl,Same.refl _⟩,?_⟩;rintro i m ys σ H ⟨rfl,hi,rfl,nv,hs⟩;have sq:SqT K H a xs:=SqT.of (hs _ _ hT);refine ⟨by rw [zA1,zAd];lia,?_⟩;by_cases aT:i < xs.length
 ·refine .inr ⟨⟨xs,xs[i],sq,by simp [aT]⟩,fun x H' y=>?_⟩;obtain ⟨e,y⟩:=y;subst e;have hx:=y xs sq;obtain ⟨d,hd,ht⟩:=(th.same hs).get hx;show te (σ.set j (some x)) H' _;rw [nv]
  refine wx x d H' _ (zBa hd) hs ht fun H2 s2=>⟨xs.length - (i+1),by lia,rfl,aT,?_,fun o=>by rw [List.set_set],hs.trans s2⟩
  rw [zAj,hd];simp
 ·have e:i=xs.length:=by lia
  subst e;refine .inl ⟨⟨xs,sq,zA3 _⟩,?_⟩;rw [hlen,zAm];exact fin H hs
theorem xY {ds:List PyData}{f:PyData->Bool}:ds.map (fun d=>V.bl (f d))=(ds.map f).map V.bl:=by rw [zAr];rfl
theorem DP {ds:List PyData}{f:PyData->Bool}:(ds.map f).all id=ds.all f:=by rw [List.all_map];rfl
section
variable {X:Cx}{es:List Expr}{t:TA}{pos:Pos}
end
section
variable {X:Cx}{a b c d:Expr}{ta tb tc td:TE}{pos:Pos}
def uH (r r' A4:R2)(ta tb tc td:TE):TE:=fun σ H Q=>ta σ H fun x H1=>tb σ H1 fun y H2=>r x y H2 fun z H3=>∃ k,z=.bl k /\
 (if k=true then tc σ H3 fun x2 H4=>r' y x2 H4 fun z2 H5=>∃ k2,z2=.bl k2/\(if k2=true then td σ H5 fun x3 H6=>A4 x2 x3 H6 Q else Q (.bl false) H5) else Q (.bl false) H3)
theorem wy {o1 o2 o3:CmpOp}{r r' A4:R2}(h1:OpR X (compareOp o1) r)(h2:OpR X (compareOp o2) r')(h3:OpR X (compareOp o3) A4)(ha:PE X a ta)(hb:PE X b tb)(hc:PE X c tc)(hd:PE X d td)
  (hm:lastMarks [o1,o2,o3] [b,c,d]=false:=by with_unfolding_all rfl):PE X (.Compare a [o1,o2,o3] [b,c,d] pos) (uH r r' A4 ta tb tc td):=by
 intro pins s σ H Q I h
 refine Compare_chain (thn (ha pins s σ H _ I h) fun v s1 ⟨x,H1,I1,r1,q1⟩=>chain_link (thn (hb pins s1 σ H1 _ I1 q1) fun u s2 ⟨y,H2,I2,r2,q2⟩ =>
  thn (h1 pins s2 σ H2 x y v u _ I2 r1 r2 q2) fun g s3 ⟨z,H3,I3,r3,k,e,q3⟩=>?_)) hm
 subst e;cases r3;refine wpAny_truthy_bool ?_
 cases k with
 | false=>exact ite_ff ⟨.bl false,H3,I3,rfl,q3⟩
 | true =>
  refine ite_tt (chain_link (thn (hc pins s3 σ H3 _ I3 q3) fun w' s4 ⟨z',H4,I4,r4,q4⟩=>thn (h2 pins s4 σ H4 y z' u w' _ I4 r2 r4 q4) fun g2 s5 ⟨z5,H5,I5,r5,k2,e2,q5⟩=>?_));subst e2;cases r5;refine wpAny_truthy_bool ?_
  cases k2 with
  | false=>exact ite_ff ⟨.bl false,H5,I5,rfl,q5⟩
  | true=>exact ite_tt (chain_last (thn (hd pins s5 σ H5 _ I5 q5) fun w6 s6 ⟨z6,H6,I6,r6,q6⟩=>h3 pins s6 σ H6 z' z6 w' w6 Q I6 r4 r6 q6))
end
def Ev (σ:St)(H:Hp)(t:TE)(v:V):Prop:=∀ Q:VK,Q v H->t σ H Q
section
variable {σ:St}{H:Hp}{ta tb tc td:TE}
theorem fV {v:V}:Ev σ H (tC v) v:=fun _ h=>h
theorem eO {i:Nat}{v:V}(h:σ[i]?=some (some v)):Ev σ H (Af i) v:=fun _ q=>⟨v,h,q⟩
theorem cB {p q:Int->Int->Bool}{i j k:Int}(a:Ev σ H ta (.int i))(b:Ev σ H tb (.int j))(c:Ev σ H tc (.int k)) :
  Ev σ H (tG (rI0 fun i j=>.bl (p i j)) (rI0 fun i j=>.bl (q i j)) ta tb tc) (.bl (p i j && q j k)):=fun Q h=>a _ (b _ ⟨i,j,rfl,rfl,_,rfl,by
 cases e:p i j with
 | false =>
  rw [e] at h;exact bI h
 | true =>
  rw [e] at h
  exact bV (c _ ⟨j,k,rfl,rfl,h⟩)⟩)
theorem wz {p q r:Int->Int->Bool}{i j k l:Int}(a:Ev σ H ta (.int i))(b:Ev σ H tb (.int j))(c:Ev σ H tc (.int k))(d:Ev σ H td (.int l)) :
  Ev σ H (uH (rI0 fun i j=>.bl (p i j)) (rI0 fun i j=>.bl (q i j)) (rI0 fun i j=>.bl (r i j)) ta tb tc td) (.bl (p i j && (q j k && r k l))):=fun Q h=>a _ (b _ ⟨i,j,rfl,rfl,_,rfl,by
 cases e:p i j with
 | false =>
  rw [e] at h;exact bI h
 | true =>
  rw [e] at h;refine bV (c _ ⟨j,k,rfl,rfl,_,rfl,?_⟩)
  cases e2:q j k with
  | false =>
   rw [e2] at h;exact bI h
  | true =>
   rw [e2] at h
   exact bV (d _ ⟨k,l,rfl,rfl,h⟩)⟩)
theorem gn {b c:Bool}(x:Ev σ H ta (.bl b))(y:b=true->Ev σ H tb (.bl c)):Ev σ H (Ck ta tb) (.bl (b && c)):=fun Q h=>x _ ⟨b,rfl,by
 cases e:b with
 | false =>
  rw [e] at h;exact bI h
 | true =>
  rw [e] at h
  exact bV (y e _ h)⟩
end
structure Plain (e:Expr):Prop where
 eq:∀ (es:List Expr) (env:Env),starEach (e::es) env=(false,eval e env)::starEach es env
theorem gq {c j p}:Plain (.Constant c j p):=⟨fun _ _=>rfl⟩
theorem il {x p}:Plain (.Name x p):=⟨fun _ _=>rfl⟩
theorem gr {es k p}:Plain (.Tuple es k p):=⟨fun _ _=>rfl⟩
theorem ir {es p}:Plain (.List es p):=⟨fun _ _=>rfl⟩
theorem iu {f as ks p}:Plain (.Call f as ks p):=⟨fun _ _=>rfl⟩
theorem plain_bin {a o b p}:Plain (.BinOp a o b p):=⟨fun _ _=>rfl⟩
theorem lQ {o a p}:Plain (.UnaryOp o a p):=⟨fun _ _=>rfl⟩
theorem jk {a b p}:Plain (.Subscript a b p):=⟨fun _ _=>rfl⟩
theorem iw {a b c p}:Plain (.ListComp a b c p):=⟨fun _ _=>rfl⟩
theorem jl {a b c p}:Plain (.Compare a b c p):=⟨fun _ _=>rfl⟩
section
variable {X:Cx}{e:Expr}{es:List Expr}{te:TE}{t:TA}
theorem aq (ha:PE X e te)(hr:PA X es t)(hp:Plain e:=by first | exact il | exact gq | exact iu | exact gr | exact ir | exact plain_bin | exact jk | exact lQ | exact plain_dict | exact iw | exact jl):PA X (e::es) (qT te t) :=
 aU ha hr (hp.eq _ _)
end
structure AA (X:Cx)(es:List Expr)(t:TA):Prop where
 run:PA X es t
section
variable {X:Cx}{e:Expr}{es:List Expr}{te:TE}{t:TA}{pos:Pos}
theorem fj:AA X [] Dp:=⟨aa⟩
theorem Bb (ha:PE X e te)(hr:AA X es t)(hp:Plain e:=by first | exact il | exact gq | exact iu | exact gr | exact ir | exact plain_bin | exact jk | exact lQ | exact plain_dict | exact iw | exact jl):AA X (e::es) (qT te t) :=
 ⟨aU ha hr.run (hp.eq _ _)⟩
theorem uI {x1}(h:AA X es t):PE X (.Tuple es x1 pos) (Dq t):=bJ h.run
theorem Bc (h:AA X es t):PE X (.List es pos) (Ak t):=dN h.run
end
inductive IsInts:List Expr->List Int->Prop
 | nil:IsInts [] []
 | cons {i:Int} {j:Nat} {p:Pos} {es:List Expr} {is:List Int}:IsInts es is->IsInts (.Constant (.int i) j p::es) (i::is)
def Cy (is:List Int):TA:=fun _ H Q=>Q (is.map V.int) H
theorem jT {X:Cx}:∀ {es:List Expr} {is:List Int},IsInts es is->PA X es (Cy is)
 | _,_,.nil=>fun _ _ _ _ H Q I h=>Calls.spliced_nil ⟨[],H,I,.nil,h⟩
 | _,_,@IsInts.cons i j p es is r=>by
  have h:=aq (X:=X) (az (i:=i) (j:=j) (pos:=p)) (jT r);exact h
theorem cU {X:Cx}{es:List Expr}{k:Nat}{pos:Pos}{t:TGs}{K:PySem.W.Frag}{n:Nat}(hK:X.K=K)(hc:X.calm=true)(h:PGs X es t)(hn:(assignEach es X.env).length=n:=by rfl)(gp:(assignEach es X.env).findIdx? (·.1)=none:=by rfl) :
  PG X (.Tuple es k pos) (iC K n t):=by
 subst hK;exact bU hc h hn gp
structure BE (X:Cx)(e:Expr)(t:TE):Prop where
 run:PE X e t
section
variable {X:Cx}{e:Expr}{es:List Expr}{te:TE}{t:TA}{pos:Pos}
theorem fW (ha:BE X e te)(hr:AA X es t)(hp:Plain e:=by first | exact il | exact gq | exact iu | exact gr | exact ir | exact plain_bin | exact jk | exact lQ | exact plain_dict | exact iw | exact jl):AA X (e::es) (qT te t):=Bb ha.run hr hp
theorem Cz (h:BE X e te):PE X e te:=h.run
theorem DQ {i:Int}{j}:BE X (.Constant (.int i) j pos) (tC (.int i)):=⟨az⟩
theorem FT {b:Bool}{j}:BE X (.Constant (.bool b) j pos) (tC (.bl b)):=⟨iB⟩
theorem tO {x1}(h:AA X es t):BE X (.Tuple es x1 pos) (Dq t):=⟨bJ h.run⟩
theorem qg (h:AA X es t):BE X (.List es pos) (Ak t):=⟨dN h.run⟩
end
structure BS (X:Cx)(st:Stmt)(t:TS):Prop where
 run:PS X st t
structure BSs (X:Cx)(B7:List Stmt)(t:TS):Prop where
 run:PSs X B7 t
section
variable {X:Cx}{st:Stmt}{rest:List Stmt}{t u:TS}{pos:Pos}
theorem jE (h:BSs X rest t):PSs X rest t:=h.run
theorem aP (h1:BS X st t)(h2:BSs X rest u):BSs X (st::rest) (Ag t u):=⟨aB h1.run h2.run⟩
theorem cG (h1:BS X st t):BSs X [st] t:=⟨aG h1.run⟩
theorem lU {i:Nat}{x:Str}{e:Expr}{te:TE}{pos':Pos}(hN:X.N.Nodup)(hi:X.N[i]?=some x)(hx:Loc X.env.scope x)(he:BE X e te)(hs:swapsWith e (some (.Name x pos')) pos.line X.env=pure false:=by rfl)(hf:X.fn x=true\/X.env.scope.names.lookup x=some .local:=by first | exact .inl rfl | exact .inr rfl | assumption) :
  BS X (.Assign [.Name x pos'] e pos) (vN te (bG i)):=⟨pM hN hi hx he.run hs hf⟩
theorem tQ {e:Expr}{te:TE}(he:BE X e te):BS X (.Return (some e) pos) (Dl te):=⟨aR he.run⟩
theorem CG {op:Operator}{r:R2}{a b:Expr}{ta tb:TE}(ho:OpR X (binaryOp op) r)(ha:BE X a ta)(hb:BE X b tb):BE X (.BinOp a op b pos) (tOp r ta tb):=⟨aV ho ha.run hb.run⟩
theorem xZ {r:R2}{a b:Expr}{ta tb:TE}(hr:IxR X r)(ha:BE X a ta)(hb:BE X b tb)(hs:pO b):BE X (.Subscript a b pos) (tOp r ta tb):=⟨Cv hr ha.run hb.run hs⟩
end
theorem pgn {X:Cx}{x:Str}{pos:Pos}(i:Nat)(hN:X.N.Nodup)(hi:X.N[i]?=some x:=by rfl)(hx:Loc X.env.scope x:=by exact Or.inl rfl)(hf:X.fn x=true\/X.env.scope.names.lookup x=some .local:=by first | exact .inl rfl | exact .inr rfl):PG X (.Name x pos) (bG i):=aZ hN hi hx hf
theorem pss {X:Cx}{x:Str}{pos pos':Pos}{e:Expr}{te:TE}(i:Nat)(hN:X.N.Nodup)(he:PE X e te)(hi:X.N[i]?=some x:=by rfl)(hx:Loc X.env.scope x:=by exact Or.inl rfl)(hs:swapsWith e (some (.Name x pos')) pos.line X.env=pure false:=by rfl)(hf:X.fn x=true\/X.env.scope.names.lookup x=some .local:=by first | exact .inl rfl | exact .inr rfl):PS X (.Assign [.Name x pos'] e pos) (vN te (bG i)):=pM hN hi hx he hs hf
theorem gU {X:Cx}{x:Str}{pos pos':Pos}{e:Expr}{te:TE}(i:Nat)(hN:X.N.Nodup)(he:BE X e te)(hi:X.N[i]?=some x:=by rfl)(hx:Loc X.env.scope x:=by exact Or.inl rfl)(hs:swapsWith e (some (.Name x pos')) pos.line X.env=pure false:=by rfl)(hf:X.fn x=true\/X.env.scope.names.lookup x=some .local:=by first | exact .inl rfl | exact .inr rfl):BS X (.Assign [.Name x pos'] e pos) (vN te (bG i)):=lU hN hi hx he hs hf
theorem pX {X:Cx}{r:R2}{a b:Expr}{ta tb:TE}{pos:Pos}(hr:IxR X r)(ha:PE X a ta)(hb:PE X b tb)(hs:pO b:=by exact fun _ _=>rfl):PE X (.Subscript a b pos) (tOp r ta tb):=Cv hr ha hb hs
theorem zL {n:Nat}(h:Nat.ble n 1000=true:=by rfl):n<=sizeLine:=Nat.le_trans (Nat.le_of_ble_eq_true h) (by decide)
theorem cI {X:Cx}{bg:Env}{x:Str}{i:Nat}{N:List Str}{r:List (Option Nat)}(h:Caps X bg N r)(h1:X.N[i]?=some x:=by rfl)(h2:X.env.kindOf x=some .cell:=by rfl)(h3:bg.cells.lookup x=X.env.cells.lookup x:=by rfl)(h4:bg.kindOf x=some .cell:=by rfl):Caps X bg (x::N) (some i::r):=⟨⟨h1,.inl h2,h3,.inl h4⟩,h⟩
theorem fS {N P:List Str}{sc:Scope}(h1:sc.kind=.function:=by rfl)(h2:sc.isCoroutine=false:=by rfl)(h3:sc.isGenerator=false:=by rfl)(h4:N.Nodup:=by decide +kernel)(h5:N.take P.length=P:=by rfl)(h6:∀ x∈P,sc.names.lookup x=some .local\/sc.names.lookup x=some .cell:=by decide +kernel)(h7:∀ y∈sc.names,y.2≠.free:=by decide +kernel):FnScope N P sc:=⟨h1,h2,h3,h4,h5,h6,h7⟩
section
variable {X:Cx}{es:List Expr}{t:TA}{pos:Pos}
end
section
variable {S:Addr->Prop}{σ:St}{H:Hp}
end
section
variable {D:Ends}{σ:St}{H:Hp}{t u:TS}{te:TE}{ta:TA}{g:TG}{Q:VK}
theorem dw (h:D.nx σ H):Cm D σ H:=h
theorem aF (h:t { D with nx:=u D } σ H):Ag t u D σ H:=h
theorem f9 (h:∀ c:St->Hp->Prop,(∀ ai H',u D ai H'->c ai H')->t { D with nx:=c } σ H):Ag t u D σ H:=h (u D) fun _ _ z=>z
theorem aX (h:te σ H fun x H1=>g x σ H1 D.nx):vN te g D σ H:=h
theorem fX (h:te σ H D.rt):Dl te D σ H:=h
theorem aM {i:Nat}{v:V}{R:St->Hp->Prop}(h:R (σ.set i (some v)) H):bG i v σ H R:=h
end
theorem wA {prog:Program}{w:World}{A:Around}(hh:A.handled=none)(it t:Addr)(e8:t≠it)(its:Array Value) :
  Draws prog w A it [it,t] its.size (fun i v=>its[i]?=some v) (fun i h=>h.IsTupleIter it t i/\h.IsTuple t its) where
 live:=fun _ _ st=>let ⟨o,ho,_⟩:=st.1;⟨o,ho⟩
 frame:=fun _ _ _ st hk=>by
  obtain ⟨⟨o,h1,r1⟩,⟨o2,h2,r2⟩⟩:=st;exact ⟨⟨o,hk it (by simp) o h1,r1⟩,⟨o2,hk t (by simp) o2 h2,r2⟩⟩
 item:=fun i s Q E hi st hQ=>by
  refine DN st.1 st.2 (x:=its[i]) (by simp [hi]) fun h' h1 h2=>hQ _ h' s.toks (by simp [hi]) ⟨h1,?_⟩ h2;obtain ⟨o,e,r⟩:=st.2;exact ⟨o,h2.extBut _ _ e8 e,r⟩
 done:=fun s Q E st hE=>lO hh st.1 st.2 (by simp) hE
theorem lV (t:Addr)(its:Array Value) :
  Meets (Builtin.«enumerate.__new__» ⟨[.type "enumerate",.ref t],[]⟩) (fun _ R s=>s.heap.IsTuple t its /\
   R (.ok (.ret (.ref (zA s.heap t).objs.size))) { s with heap:=(zA s.heap t).push { cls:=.type "enumerate",data:=.fields #[.none,.bool false,.ref s.heap.objs.size,rawInt 0,.none,.none] } }) :=
 .of_wp fun prog w A R s h=>by
  obtain ⟨hp,g,d,tk,os⟩:=s;obtain ⟨ht,h⟩:=h;have CU:=sub_enumerate;have hT:Heap.IsTuple (Shared.heap ⟨hp,g,d,tk,os⟩) t its:=ht
  wp_walk
  refine wpAny_stack_any fun st=>zB0 ?_;split
  ·rename_i c _ _ _ _ _
   cases (c == Value.type "enumerate")
   ·wp_walk using wpAny_pyIter_tuple hT
    exact ⟨_,rfl,h⟩
   ·wp_walk using wpAny_pyIter_tuple hT
    exact ⟨_,rfl,h⟩
  ·wp_walk using wpAny_pyIter_tuple hT
   exact ⟨_,rfl,h⟩
theorem nC {prog:Program}{w:World}{A:Around}{E:Value->Shared->Prop}{s:Shared}{t:Addr}{its:Array Value}{Q:Value->Shared->Prop}(ht:s.heap.IsTuple t its)
  (h:∀ h',IsEnum h' (s.heap.objs.size+1) s.heap.objs.size 0 .none->h'.IsTupleIter s.heap.objs.size t 0->(∀ c o,s.heap.get? c=some o->h'.get? c=some o)->Q (.ref (s.heap.objs.size+1)) { s with heap:=h' }) :
  wpAny (model prog w) A (call (.type "enumerate") [.ref t]) Q E s:=by
 refine callType_new F.called_enumerate (by decide) (F.typeCall_enumerate_1 _) (F.newCall_enumerate_1 _) (fun obj=>F.args_object_init_2 obj _) F.entry_enumerate_new (lV t its) ⟨ht,?_⟩;have e1:(zA s.heap t).objs.size=s.heap.objs.size+1:=Heap.size_push ..;have g2:=zB3 (zA s.heap t) (o:={ cls:=.type "enumerate",data:=.fields #[.none,.bool false,.ref s.heap.objs.size,rawInt 0,.none,.none] }) rfl;have g1:=zAz { cls:=.type "enumerate",data:=.fields #[.none,.bool false,.ref s.heap.objs.size,rawInt 0,.none,.none] } (zB3 s.heap (o:={ cls:=.type "tuple_iterator",data:=.fields #[.ref t,.int 0 0] }) rfl);show _/\_;rw [e1] at g2 ⊢;exact ⟨⟨_,g2,rfl⟩,h _ g2 ⟨_,g1,rfl,rfl⟩ fun c o x=>zAz _ (zAz _ x)⟩
def Ite (K:PySem.W.Frag)(a:Addr):It :=
 ⟨fun i H=>∃ xs x,SqT K H a xs/\xs[i]?=some x,
  fun i H v H'=>∃ T,H T=none/\v=.ref T/\∀ xs,SqT K H a xs->∃ x,xs[i]?=some x/\H'=upd H T (.tup [.int i,x]),
  fun i H=>∃ xs,SqT K H a xs/\xs.length<=i⟩
def tne (e it a:Addr)(i:Nat)(h:Heap):Prop:=(∃ old,IsEnum h e it i old)/\h.IsTupleIter it a i
theorem jm {P:Program}{w:World}{K:PySem.W.Frag}{es:List Expr}{k:Nat}{pos:Pos}{e it a:Addr}(p9:e≠it)(CY:e≠a)(C3:a≠it) :
  Turn P w K (.Tuple es k pos) (Ite K a) [e,it] e (tne e it a) where
 mem:=by simp
 obj:=fun i h st c hc=>by
  obtain ⟨⟨old,s1⟩,⟨o4,s4,c4,d4⟩⟩:=st;simp only [List.mem_cons,List.not_mem_nil,or_false] at hc;rcases hc with z | z <;> subst z
  ·exact ⟨_,s1,fun v q=>by cases q⟩
  ·exact ⟨_,s4,fun v q=>by rw [d4] at q;cases q⟩
 keep:=fun i h h' st kp=>by
  obtain ⟨⟨old,s1⟩,s4⟩:=st;exact ⟨⟨old,kp e (by simp) _ s1⟩,s4.at fun o z=>kp it (by simp) o z⟩
 item:=by
  intro X hP hw hK hc i pins s σ H E I hf st hg;subst hP hw hK;obtain ⟨⟨old,s1⟩,s4⟩:=st;obtain ⟨xs,x,hJ,hx⟩:=hg;obtain ⟨its,rv,p,_⟩:=I.tuple hJ;obtain ⟨ux,qa,rx⟩:=rv.get hx
  have aT:i < its.toArray.size:=by
   have:=(zAa.mp qa).1;simpa using this
  have D:=wA (prog:=X.prog) (w:=X.w) (A:=X.A.in1) (I.ok.hd hc) it a C3 its.toArray;refine wpAny_pyNext_enum_itemD D s1 ⟨s4,p⟩ aT p9 (by simp [p9,CY]) fun u h1 tk hu g1 g3 g5 g6 kp=>?_
  have eu:u=ux:=by
   have hu:its.toArray[i]?=some u:=hu;rw [List.getElem?_toArray,qa] at hu;exact (zAl hu).symm
  subst eu;refine ⟨_,rfl,?_⟩;refine wpAny_letOwnedTupleGo_enum g1 fun h2 e1 sb=>?_
  have live:∀ c,c∈[e,it]->∃ o,s.heap.get? c=some o:=fun c ay=>by
   simp only [List.mem_cons,List.not_mem_nil,or_false] at ay;rcases ay with q | q <;> subst q
   ·exact ⟨_,s1⟩
   ·exact let ⟨o,h,_⟩:=s4;⟨o,h⟩
  have ne:∀ c,c∈[e,it]->c≠s.heap.objs.size:=fun c ay z=>by
   obtain ⟨o,ho⟩:=live c ay;exact absurd (zAy ho) (by rw [z];exact Nat.lt_irrefl _)
  have hT:H s.heap.objs.size=none:=I.hok.fresh (zA3 _)
  have kept:∀ c o,c ∉ [e,it]->s.heap.get? c=some o->h2.get? c=some o:=fun c o ay z =>
   sb.extBut _ _ (fun q=>ay (by simp [q])) (kp c o (fun q=>ay (by simp [q])) (fun q=>ay (by simp [q])) z)
  have trk:∀ c o,H c=some o->c ∉ [e,it]:=fun c o z ay=>by
   have:=(hf c ay).1;rw [z] at this;cases this
  have jS:h2.get? s.heap.objs.size=some { cls:=.type "tuple",data:=.seq #[.int i tk,u] }:=sb.extBut _ _ (Ne.symm (ne e (by simp))) g5
  have kc:HOk X.prog X.w (upd H s.heap.objs.size (.tup [.int i,x])) h2:=fun c o z=>by
   by_cases hb:c=s.heap.objs.size
   ·subst hb;rw [aj] at z;cases z;exact ⟨by show 2<=sizeLine;decide,[.int i tk,u],.cons ⟨tk,rfl⟩ (.cons rx .nil),_,jS,rfl,_,rfl⟩
   ·rw [aA hb] at z
    refine (I.hok c o z).stay (fun d v hd q=>kept d v ?_ q) (fun d q=>by rw [aA (aC q hT)];exact q) fun d l q=>by rw [aA (aC q hT)];exact q
    rcases hd with e' | e'
    ·rw [e'];exact trk c o z
    ·exact trk d _ e'
  have I2:Inv X pins σ (upd H s.heap.objs.size (.tup [.int i,x])) { s with heap:=h2,toks:=tk+1 }:=by
   refine I.step (g':=s.gens) (d':=s.drawn) (t':=tk+1) (ch:=[e,it]) (fun c ay=>?_) (fun c o _ _ hn z _=>kept c o hn z) (fun c o _ _ hn z _=>⟨o.slots,kept c o hn z⟩)
    (fun c o _ z n=>by rw [aA (zB4 (zAy z))];exact n) (fun c o hn z=>⟨o,kept c o hn z⟩) (fun c l z=>by rw [aA (aC z hT)];exact z) (fun c o l z=>by rw [aA (aC z hT)];exact z)
    (fun c l z=>⟨#[],by rw [aA (aC z hT),z];simp⟩) (fun m hm=>?_) kc I.bare
   ·obtain ⟨f0,f1,f2,f3,f4,f5⟩:=hf c ay;exact ⟨f3,f1,f4,f5⟩
   ·obtain ⟨o,fv,ep,ho,r⟩:=hm;refine ⟨o,fv,ep,kept _ o (fun ay=>?_) ho,r⟩;exact (hf _ ay).2.1 rfl
  refine ⟨.ref s.heap.objs.size,_,I2,rfl,⟨s.heap.objs.size,hT,rfl,fun IE w9=>⟨x,?_,rfl⟩⟩,⟨⟨u,?_⟩,?_⟩,fun c ay=>?_⟩
  ·rw [I.tuple_inj w9 hJ];exact hx
  ·have:=e1;rw [show (((i+1:Nat):Int))=(i:Int)+1 by lia];exact this
  ·exact g3.1.extBut sb.extBut p9.symm
  ·rw [aA (ne c ay)];exact (hf c ay).1
 done:=by
  intro X hP hw hK hc i pins s σ H E I hf st hg;subst hP hw hK;obtain ⟨⟨old,s1⟩,s4⟩:=st;obtain ⟨xs,hJ,hlen⟩:=hg;obtain ⟨its,rv,p,_⟩:=I.tuple hJ;have hl:=rv.length
  have hT:s.TypeIs (.ref e) "enumerate" := ⟨_,s1,rfl⟩
  have fin:∀ h',Heap.ExtBut it s.heap h'->Inv X pins σ H { s with heap:=h' }:=fun h' kp=>by
   obtain ⟨f0,f1,f2,f3,f4,f5⟩:=hf it (by simp);exact I.turned (t':=s.toks) (fun b o hb z=>kp b o hb z) f0 f1 f3 f4 f5
  unfold pyNext;refine wpAny_bind (wpAny_attempt (wpAny_callSpecial?_slot (name:=Str.ofString "__next__") hT F.slot_enumerate_next (wpAny_call_entry F.slot_enumerate_next hT F.entry_enumerate_next ?_ (F.args_enumerate_next_1 _))));show wpAny _ _ (field (.ref e) 2 >>= _) _ _ _;refine wpAny_bind (wpAny_field s1 rfl (x:=.ref it) rfl ?_);refine wpAny_bind (lO (I.ok.hd hc) s4 (show s.heap.IsTuple a its.toArray from p) (by simp;lia) fun h' x lS fx=>?_);obtain ⟨o,ho,C4⟩:=fx;refine wpAny_bind (wpAny_isInstance (T:="StopIteration") (b:=true) ⟨o,ho,C4⟩ isSubtype_stop (wpAny_pure ⟨rfl,fin h' lS⟩))
 self:=fun _ _ _ _ _ st h=>wpAny_pyIter_enum st.1.choose_spec h
section
variable {X:Cx}
def yc (K:PySem.W.Frag)(t:TA):TI:=fun σ H R=>t σ H fun vs H1=>∃ a xs,vs=[.ref a]/\SqT K H1 a xs/\R (Ite K a) H1
theorem pi_enum {es:List Expr}{k:Nat}{tp:Pos}{a:Expr}{ta:TA}{p pos:Pos}(hg:Gl X "enumerate")(hm:X.mg "enumerate" = none)(ha:PA X [a] ta)(hs:starEach [a] X.env=[(false,eval a X.env)]:=by rfl) :
  PI X (.Tuple es k tp) (.Call (.Name "enumerate" p) [a] [] pos) (yc X.K ta):=by
 intro pins s σ H R I h;refine Call_ (fP I hg hm boot_enumerate (PyProof.Rows.callWith_type1 (thn (ha pos pins s σ H _ I h) fun us s1 ⟨vs,H1,I1,r1,q1⟩=>?_) hs rfl));obtain ⟨x,xs,e,hx,q⟩:=q1;subst e;obtain ⟨u,rfl,ru⟩:=vals1 r1;cases ru;obtain ⟨its,_,p1,_⟩:=I1.tuple hx;refine nC (show s1.heap.IsTuple x its.toArray from p1) fun h' z1 z4 kp=>?_;refine wpAny_pyIter_enum z1 ?_;have lx:x < s1.heap.objs.size:=by obtain ⟨_,e,_⟩:=(show s1.heap.IsTuple x its.toArray from p1);exact zAy e
 refine ⟨_,_,_,_,H1,rfl,I1.kept (t':=s1.toks) kp,jm (e:=s1.heap.objs.size+1) (it:=s1.heap.objs.size) (a:=x) (Nat.succ_ne_self _) (Nat.ne_of_gt (Nat.lt_succ_of_lt lx)) (zB4 lx),⟨⟨_,z1⟩,z4⟩,fun c hc=>?_,q⟩
 have hle:s1.heap.objs.size<=c:=by
  simp only [List.mem_cons,List.not_mem_nil,or_false] at hc;rcases hc with q | q <;> subst q
  ·exact Nat.le_add_right _ 1
  ·exact zA3 _
 exact I1.fpOk hle (I1.hok.fresh hle)
end
theorem iR {K:PySem.W.Frag}{a:Addr}{xs:List V}{g:TG}{tb:TS}{D:Ends}{σ:St}{H:Hp}(Pv:Nat->St->Hp->Prop)(h0:Pv 0 σ H)(hl:∀ i σ H,i<=xs.length->Pv i σ H->SqT K H a xs)
  (hs:∀ i x σ H T,xs[i]?=some x->Pv i σ H->H T=none->g (.ref T) σ (upd H T (.tup [.int i,x])) fun ba H2=>tb { D with nx:=Pv (i+1),ct:=Pv (i+1),bk:=D.nx } ba H2) (hd:∀ σ H,Pv xs.length σ H->D.nx σ H) :
  ∃ W:Nat->Nat->St->Hp->Prop,(∃ m,W 0 m σ H)/\∀ i m σ H,W i m σ H ->
   ((Ite K a).stop i H/\D.nx σ H)\/((Ite K a).go i H/\∃ N:St->Hp->Prop,(∀ ai H',N ai H'->∃ m',m' < m/\W (i+1) m' ai H')/\∀ x H',(Ite K a).yld i H x H'->g x σ H' fun ba H2=>tb { D with nx:=N,ct:=N,bk:=D.nx } ba H2):=by
 refine ⟨fun i m σ H=>m=xs.length - i/\i<=xs.length/\Pv i σ H,⟨xs.length,by simp,Nat.zero_le _,h0⟩,?_⟩;rintro i m σ H ⟨rfl,hi,p⟩;have q:=hl i σ H hi p;by_cases aT:i < xs.length
 ·refine .inr ⟨⟨xs,xs[i],q,by simp [aT]⟩,Pv (i+1),fun ai H' p'=>⟨xs.length - (i+1),by lia,rfl,aT,p'⟩,fun x H' y=>?_⟩;obtain ⟨T,nT,rfl,y⟩:=y;obtain ⟨x,ex,rfl⟩:=y xs q;exact hs i x σ H T ex p nT
 ·have e:i=xs.length:=by lia
  subst e;exact .inl ⟨⟨xs,q,zA3 _⟩,hd σ H p⟩
section
variable {X:Cx}
theorem nF (hc:X.calm=true):du X (.builtin "min") (fun xs H Q=>∃ (p:Addr) (ns:List Int),xs=[.ref p]/\SqL X.K H p (ns.map V.int)/\ns≠[]/\∀ M,M∈ns->(∀ a∈ns,M<=a)->Q (.int M) H):=by
 intro pins s σ H xs us Q I r h;obtain ⟨p,ns,rfl,hq,e8,q⟩:=h;obtain ⟨u,rfl,ru⟩:=vals1 r;cases ru;obtain ⟨its,rv,pl,hz⟩:=I.list hq;have hi:IntsAre its ns:=intsAre_of rv;obtain ⟨zs,ez⟩:=(hi.allInts:AllInts its.toArray).items;have en:numsOf its=ns:=hi.numsOf;have hl:s.heap.IsList p (intItems zs):=ez ▸ pl.isList
 have bo:0 < zs.size:=by
  have e1:(intItems zs).size=its.length:=by rw [<- ez,zA8]
  have e2:=rv.length;rw [zA1] at e2;have e3:0 < ns.length:=List.length_pos_iff.mpr e8;simp only [intItems,Array.size_map] at e1;lia
 have hn:numsOf (intItems zs).toList=ns:=by rw [<- ez];exact en
 refine min_intList (I.ok.hd hc) hl bo fun v h' tk hv hk=>?_;obtain ⟨t,rfl⟩:=intItems_at hv;obtain ⟨h1,h2⟩:=argBest_lt (numAt zs) (zs.size - 1);rw [nums_intItems] at hn;refine ⟨.int _,H,I.kept (t':=tk) hk,⟨t,rfl⟩,q _ ?_ fun a ha=>?_⟩
 ·rw [<- hn,numAt_eq];exact getD_mem (by rw [zA1,zA9];lia)
 ·rw [<- hn] at ha;obtain ⟨j,hj,rfl⟩:=mem_getD ha;rw [zA1,zA9] at hj;rw [<- numAt_eq];exact h2 j (by lia)
inductive RCatT0I (K:PySem.W.Frag)(x:V)(y:V)(H:Hp)(Q:VK):Prop
 | mk:∀ a b ys,(x=.ref a)->(y=.ref b)->(SqT K H a [])->(SqT K H b ys)->(Q (.ref b) H)->RCatT0I K x y H Q
def DR (K:PySem.W.Frag):R2:=fun x y H Q=>RCatT0I K x y H Q
open Builtin in
theorem yd (l b:Addr)(its:Array Value)(n m:Nat)(dd sN:Option Addr)(sl oS:Array (Option Value)) :
  Meets (Builtin.«tuple.__add__» ⟨[.ref l,.ref b],[]⟩) (fun _ R s=>s.heap.get? l=some { cls:=.type "tuple",dict:=dd,data:=.seq #[] n,slots:=sl }/\s.heap.get? b=some { cls:=.type "tuple",dict:=sN,data:=.seq its m,slots:=oS }/\R (.ok (.ret (.ref b))) s):=by
 refine .of_wp fun prog w A R s h=>?_;obtain ⟨hp,g,d,tk,os⟩:=s;obtain ⟨hl,hb,h⟩:=h;have f2:=PySem.AutoSeq1.sub_tuple_tuple
 wp_walk
 exact ⟨_,rfl,h⟩
theorem ye:OpR X (binaryOp .Add) (DR X.K):=by
 intro pins s σ H x y v u Q I rx ry h;obtain ⟨a,b,ys,rfl,rfl,ha,hb,q⟩:=h;cases rx;cases ry;obtain ⟨its,r1,p1,_⟩:=I.tuple ha;obtain ⟨bq,r2,p2,_⟩:=I.tuple hb;have e:its=[]:=r1.zero;subst e;obtain ⟨⟨cls,dd,data,sl⟩,ho,hc,n,hd⟩:=id p1;obtain ⟨⟨Cb,sN,data2,oS⟩,oT,vn,n2,hd2⟩:=id p2;simp only at hc hd vn hd2;subst hc hd vn hd2;exact concat_meets ⟨_,ho,rfl⟩ ⟨_,oT,rfl⟩ noFill_tuple_add seq_tuple_add PySem.F.slot_tuple_add PySem.F.entry_tuple_add (PySem.F.args_tuple_add_2 _ _) (yd a b bq.toArray n n2 dd sN sl oS) ⟨ho,oT,.ref b,H,I,rfl,q⟩
theorem yf:OpR X (binaryOp .Add) (fun x y H Q=>∃ a b xs ys,x=.ref a/\y=.ref b/\SqT X.K H a xs/\SqT X.K H b ys/\ys≠[]/\xs.length+ys.length<=sizeLine/\(xs=[]->Q (.ref b) H)/\(xs≠[]->∀ p,H p=none->Q (.ref p) (upd H p (.tup (xs++ys))))):=by
 intro pins s σ H x y v u Q I rx ry h;obtain ⟨a,b,xs,ys,rfl,rfl,ha,hb,hy,hz,q1,q2⟩:=h;by_cases hx:xs=[]
 ·subst hx;exact ye pins s σ H _ _ v u Q I rx ry ⟨a,b,ys,rfl,rfl,ha,hb,q1 rfl⟩
 ·exact An pins s σ H _ _ v u Q I rx ry ⟨a,b,xs,ys,rfl,rfl,ha,hb,hx,hz,fun z=>absurd z hy,fun _=>q2 hx⟩
end
section
variable {prog:Program}{w:World}{A:Around}{E:Value->Shared->Prop}{s:Shared}
open HT in
theorem iT {t sl:Addr}{items:Array Value}{vl vu:Value}{lo hi:Option Int}{Q:Value->Shared->Prop}(ht:IsTup s.heap t items)(hs:s.heap.IsSliceOf sl vl vu .none)(pl:IsPart vl lo)(pu:IsPart vu hi)
  (h1:sIx items.size 0 lo=0) (h2:sIx items.size items.size hi=items.size) (h:Q (.ref t) s):wpAny (model prog w) A (getItem (.ref t) (.ref sl)) Q E s:=by
 obtain ⟨os,pb,AZ,vt⟩:=id hs
 have Cc:s.TypeIs (.ref sl) "slice" := ⟨os,pb,AZ⟩
 unfold getItem
 try with_reducible refine wpAny_holding ?_
 first | refine zAw (zB0 ?_) | skip
 refine zAw (wpAny_sequenceKey ht.typeIs (by decide) ?_)
 refine zAw (wpAny_callSpecial?_slot (name:=Str.ofString "__getitem__") ht.typeIs PyProof.Rows.slot_tuple_getitem
  (wpAny_call_entry PyProof.Rows.slot_tuple_getitem ht.typeIs entry_tuple_getitem ?_ (args_tuple_getitem _ _)))
 show wpAny _ _ (Builtin.Tuple.tupleItemsOf (.ref t) >>= _) _ _ s;refine wpAny_bind (tupleItemsOf_ ht ?_);refine wpAny_bind (wpAny_typeOf Cc ?_);rw [if_pos (by decide)];refine wpAny_bind (fD hs pl pu ?_);rw [h1,h2];show wpAny _ _ (if ((((0:Nat):Int)) == 0 && (1:Int) == 1 && (items.size - 0) == items.size)=true then _ else _) _ _ s;rw [if_pos (by simp)];unfold Builtin.Tuple.tupleIsExact;refine wpAny_bind (wpAny_bind (wpAny_typeOf ht.typeIs (wpAny_pure ?_)));rw [if_pos (by decide)];exact wpAny_bind (wpAny_rule (wpAny_pure ⟨_,rfl,wpAny_pure h⟩))
end
section
variable {X:Cx}
inductive RSlWI (K:PySem.W.Frag)(x:V)(lo:Option Int)(hi:Option Int)(H:Hp)(Q:VK):Prop
 | mk:∀ a xs,(x=.ref a)->(SqT K H a xs)->(((HT.sIx xs.length 0 lo=0/\HT.sIx xs.length xs.length hi=xs.length)->Q (.ref a) H))->((¬ (HT.sIx xs.length 0 lo=0/\HT.sIx xs.length xs.length hi=xs.length)->∀ p,H p=none->Q (.ref p) (upd H p (.tup (iH xs lo hi)))))->RSlWI K x lo hi H Q
def Ht (K:PySem.W.Frag):V->Option Int->Option Int->Hp->VK->Prop:=fun x lo hi H Q=>RSlWI K x lo hi H Q
theorem uJ:SlR X (Ht X.K):=by
 intro pins s σ H x v vl vu lo hi sl Q I rx hs pl pu h;obtain ⟨a,xs,rfl,hx,q1,q2⟩:=h;by_cases hw:HT.sIx xs.length 0 lo=0/\HT.sIx xs.length xs.length hi=xs.length
 ·cases rx;obtain ⟨its,r,ht,hz⟩:=I.tuple hx;have hlen:its.toArray.size=xs.length:=by rw [zA8];exact r.length.symm
  refine ⟨"tuple",_,PyProof.Rows.slot_tuple_getitem.lookup,ht.typeIs,?_⟩;exact iT ht hs pl pu (by rw [hlen];exact hw.1) (by rw [hlen];exact hw.2) ⟨.ref a,H,I,rfl,q1 hw⟩
 ·exact Du pins s σ H _ v vl vu lo hi sl Q I rx hs pl pu ⟨a,xs,rfl,hx,hw,q2 hw⟩
end
section
variable {prog:Program}{w:World}{A:Around}{E:Value->Shared->Prop}{s:Shared}
end
section
variable {X:Cx}{e:Expr}{te:TE}{pos p2 p3 p4:Pos}{j:Nat}
end
end L2
namespace L2.EL
open PySem PySem.Spec PyProof.Rows L2
abbrev zL (h:Heap)(l:Addr):Heap:=h.push { cls:=.type "list_iterator",data:=.fields #[.ref l,.int 0 0] }
theorem lZ (t:Addr)(its:Array Value) :
  Meets (Builtin.«enumerate.__new__» ⟨[.type "enumerate",.ref t],[]⟩) (fun _ R s=>s.heap.IsList t its /\
   R (.ok (.ret (.ref (zL s.heap t).objs.size))) { s with heap:=(zL s.heap t).push { cls:=.type "enumerate",data:=.fields #[.none,.bool false,.ref s.heap.objs.size,rawInt 0,.none,.none] } }) :=
 .of_wp fun prog w A R s h=>by
  obtain ⟨hp,g,d,tk,os⟩:=s;obtain ⟨ht,h⟩:=h;have CU:=sub_enumerate;have hT:Heap.IsList (Shared.heap ⟨hp,g,d,tk,os⟩) t its:=ht
  wp_walk
  refine wpAny_stack_any fun st=>zB0 ?_;split
  ·rename_i c _ _ _ _ _
   cases (c == Value.type "enumerate")
   ·wp_walk using wpAny_pyIter_list hT
    exact ⟨_,rfl,h⟩
   ·wp_walk using wpAny_pyIter_list hT
    exact ⟨_,rfl,h⟩
  ·wp_walk using wpAny_pyIter_list hT
   exact ⟨_,rfl,h⟩
theorem nG {prog:Program}{w:World}{A:Around}{E:Value->Shared->Prop}{s:Shared}{t:Addr}{its:Array Value}{Q:Value->Shared->Prop}(ht:s.heap.IsList t its)
  (h:∀ h',IsEnum h' (s.heap.objs.size+1) s.heap.objs.size 0 .none->h'.IsListIter s.heap.objs.size t 0->(∀ c o,s.heap.get? c=some o->h'.get? c=some o)->Q (.ref (s.heap.objs.size+1)) { s with heap:=h' }) :
  wpAny (model prog w) A (call (.type "enumerate") [.ref t]) Q E s:=by
 refine callType_new F.called_enumerate (by decide) (F.typeCall_enumerate_1 _) (F.newCall_enumerate_1 _) (fun obj=>F.args_object_init_2 obj _) F.entry_enumerate_new (lZ t its) ⟨ht,?_⟩;have e1:(zL s.heap t).objs.size=s.heap.objs.size+1:=Heap.size_push ..;have g2:=zB3 (zL s.heap t) (o:={ cls:=.type "enumerate",data:=.fields #[.none,.bool false,.ref s.heap.objs.size,rawInt 0,.none,.none] }) rfl;have g1:=zAz { cls:=.type "enumerate",data:=.fields #[.none,.bool false,.ref s.heap.objs.size,rawInt 0,.none,.none] } (zB3 s.heap (o:={ cls:=.type "list_iterator",data:=.fields #[.ref t,.int 0 0] }) rfl);show _/\_;rw [e1] at g2 ⊢;exact ⟨⟨_,g2,rfl⟩,h _ g2 ⟨_,g1,rfl,rfl⟩ fun c o x=>zAz _ (zAz _ x)⟩
def Ite (K:PySem.W.Frag)(a:Addr):It :=
 ⟨fun i H=>∃ xs x,SqL K H a xs/\xs[i]?=some x,
  fun i H v H'=>∃ T,H T=none/\v=.ref T/\∀ xs,SqL K H a xs->∃ x,xs[i]?=some x/\H'=upd H T (.tup [.int i,x]),
  fun i H=>∃ xs,SqL K H a xs/\xs.length<=i⟩
def tne (e it a:Addr)(i:Nat)(h:Heap):Prop:=(∃ old,IsEnum h e it i old)/\h.IsListIter it a i
theorem jm {P:Program}{w:World}{K:PySem.W.Frag}{es:List Expr}{k:Nat}{pos:Pos}{e it a:Addr}(p9:e≠it)(CY:e≠a)(C3:a≠it) :
  Turn P w K (.Tuple es k pos) (Ite K a) [e,it] e (tne e it a) where
 mem:=by simp
 obj:=fun i h st c hc=>by
  obtain ⟨⟨old,s1⟩,⟨o4,s4,c4,d4⟩⟩:=st;simp only [List.mem_cons,List.not_mem_nil,or_false] at hc;rcases hc with z | z <;> subst z
  ·exact ⟨_,s1,fun v q=>by cases q⟩
  ·exact ⟨_,s4,fun v q=>by rw [d4] at q;cases q⟩
 keep:=fun i h h' st kp=>by
  obtain ⟨⟨old,s1⟩,s4⟩:=st;exact ⟨⟨old,kp e (by simp) _ s1⟩,s4.at fun o z=>kp it (by simp) o z⟩
 item:=by
  intro X hP hw hK hc i pins s σ H E I hf st hg;subst hP hw hK;obtain ⟨⟨old,s1⟩,s4⟩:=st;obtain ⟨xs,x,hJ,hx⟩:=hg;obtain ⟨its,rv,p,_⟩:=I.list hJ;obtain ⟨ux,qa,rx⟩:=rv.get hx
  have aT:i < its.toArray.size:=by
   have:=(zAa.mp qa).1;simpa using this
  have D:=Draws.list (prog:=X.prog) (w:=X.w) (A:=X.A.in1) (I.ok.hd hc) it a C3 its.toArray;refine wpAny_pyNext_enum_itemD D s1 ⟨s4,p.isList⟩ aT p9 (by simp [p9,CY]) fun u h1 tk hu g1 g3 g5 g6 kp=>?_
  have eu:u=ux:=by
   have hu:its.toArray[i]?=some u:=hu;rw [List.getElem?_toArray,qa] at hu;exact (zAl hu).symm
  subst eu;refine ⟨_,rfl,?_⟩;refine wpAny_letOwnedTupleGo_enum g1 fun h2 e1 sb=>?_
  have live:∀ c,c∈[e,it]->∃ o,s.heap.get? c=some o:=fun c ay=>by
   simp only [List.mem_cons,List.not_mem_nil,or_false] at ay;rcases ay with q | q <;> subst q
   ·exact ⟨_,s1⟩
   ·exact let ⟨o,h,_⟩:=s4;⟨o,h⟩
  have ne:∀ c,c∈[e,it]->c≠s.heap.objs.size:=fun c ay z=>by
   obtain ⟨o,ho⟩:=live c ay;exact absurd (zAy ho) (by rw [z];exact Nat.lt_irrefl _)
  have hT:H s.heap.objs.size=none:=I.hok.fresh (zA3 _)
  have kept:∀ c o,c ∉ [e,it]->s.heap.get? c=some o->h2.get? c=some o:=fun c o ay z =>
   sb.extBut _ _ (fun q=>ay (by simp [q])) (kp c o (fun q=>ay (by simp [q])) (fun q=>ay (by simp [q])) z)
  have trk:∀ c o,H c=some o->c ∉ [e,it]:=fun c o z ay=>by
   have:=(hf c ay).1;rw [z] at this;cases this
  have jS:h2.get? s.heap.objs.size=some { cls:=.type "tuple",data:=.seq #[.int i tk,u] }:=sb.extBut _ _ (Ne.symm (ne e (by simp))) g5
  have kc:HOk X.prog X.w (upd H s.heap.objs.size (.tup [.int i,x])) h2:=fun c o z=>by
   by_cases hb:c=s.heap.objs.size
   ·subst hb;rw [aj] at z;cases z;exact ⟨by show 2<=sizeLine;decide,[.int i tk,u],.cons ⟨tk,rfl⟩ (.cons rx .nil),_,jS,rfl,_,rfl⟩
   ·rw [aA hb] at z
    refine (I.hok c o z).stay (fun d v hd q=>kept d v ?_ q) (fun d q=>by rw [aA (aC q hT)];exact q) fun d l q=>by rw [aA (aC q hT)];exact q
    rcases hd with e' | e'
    ·rw [e'];exact trk c o z
    ·exact trk d _ e'
  have I2:Inv X pins σ (upd H s.heap.objs.size (.tup [.int i,x])) { s with heap:=h2,toks:=tk+1 }:=by
   refine I.step (g':=s.gens) (d':=s.drawn) (t':=tk+1) (ch:=[e,it]) (fun c ay=>?_) (fun c o _ _ hn z _=>kept c o hn z) (fun c o _ _ hn z _=>⟨o.slots,kept c o hn z⟩)
    (fun c o _ z n=>by rw [aA (zB4 (zAy z))];exact n) (fun c o hn z=>⟨o,kept c o hn z⟩) (fun c l z=>by rw [aA (aC z hT)];exact z) (fun c o l z=>by rw [aA (aC z hT)];exact z)
    (fun c l z=>⟨#[],by rw [aA (aC z hT),z];simp⟩) (fun m hm=>?_) kc I.bare
   ·obtain ⟨f0,f1,f2,f3,f4,f5⟩:=hf c ay;exact ⟨f3,f1,f4,f5⟩
   ·obtain ⟨o,fv,ep,ho,r⟩:=hm;refine ⟨o,fv,ep,kept _ o (fun ay=>?_) ho,r⟩;exact (hf _ ay).2.1 rfl
  refine ⟨.ref s.heap.objs.size,_,I2,rfl,⟨s.heap.objs.size,hT,rfl,fun IE w9=>⟨x,?_,rfl⟩⟩,⟨⟨u,?_⟩,?_⟩,fun c ay=>?_⟩
  ·rw [I.list_inj w9 hJ];exact hx
  ·have:=e1;rw [show (((i+1:Nat):Int))=(i:Int)+1 by lia];exact this
  ·exact g3.1.extBut sb.extBut p9.symm
  ·rw [aA (ne c ay)];exact (hf c ay).1
 done:=by
  intro X hP hw hK hc i pins s σ H E I hf st hg;subst hP hw hK;obtain ⟨⟨old,s1⟩,s4⟩:=st;obtain ⟨xs,hJ,hlen⟩:=hg;obtain ⟨its,rv,p,_⟩:=I.list hJ;have hl:=rv.length
  have hT:s.TypeIs (.ref e) "enumerate" := ⟨_,s1,rfl⟩
  have fin:∀ h',Heap.ExtBut it s.heap h'->Inv X pins σ H { s with heap:=h' }:=fun h' kp=>by
   obtain ⟨f0,f1,f2,f3,f4,f5⟩:=hf it (by simp);exact I.turned (t':=s.toks) (fun b o hb z=>kp b o hb z) f0 f1 f3 f4 f5
  unfold pyNext;refine wpAny_bind (wpAny_attempt (wpAny_callSpecial?_slot (name:=Str.ofString "__next__") hT F.slot_enumerate_next (wpAny_call_entry F.slot_enumerate_next hT F.entry_enumerate_next ?_ (F.args_enumerate_next_1 _))));show wpAny _ _ (field (.ref e) 2 >>= _) _ _ _;refine wpAny_bind (wpAny_field s1 rfl (x:=.ref it) rfl ?_);refine wpAny_bind (wpAny_nextOf_list_end (I.ok.hd hc) s4 p.isList (by simp;lia) fun h' x lS fx=>?_);obtain ⟨o,ho,C4⟩:=fx;refine wpAny_bind (wpAny_isInstance (T:="StopIteration") (b:=true) ⟨o,ho,C4⟩ isSubtype_stop (wpAny_pure ⟨rfl,fin h' lS⟩))
 self:=fun _ _ _ _ _ st h=>wpAny_pyIter_enum st.1.choose_spec h
section
variable {X:Cx}
def yc (K:PySem.W.Frag)(t:TA):TI:=fun σ H R=>t σ H fun vs H1=>∃ a xs,vs=[.ref a]/\SqL K H1 a xs/\R (Ite K a) H1
theorem pi_enum {es:List Expr}{k:Nat}{tp:Pos}{a:Expr}{ta:TA}{p pos:Pos}(hg:Gl X "enumerate")(hm:X.mg "enumerate" = none)(ha:PA X [a] ta)(hs:starEach [a] X.env=[(false,eval a X.env)]:=by rfl) :
  PI X (.Tuple es k tp) (.Call (.Name "enumerate" p) [a] [] pos) (yc X.K ta):=by
 intro pins s σ H R I h;refine Call_ (fP I hg hm boot_enumerate (PyProof.Rows.callWith_type1 (thn (ha pos pins s σ H _ I h) fun us s1 ⟨vs,H1,I1,r1,q1⟩=>?_) hs rfl));obtain ⟨x,xs,e,hx,q⟩:=q1;subst e;obtain ⟨u,rfl,ru⟩:=vals1 r1;cases ru;obtain ⟨its,_,p1,_⟩:=I1.list hx;refine nG p1.isList fun h' z1 z4 kp=>?_;refine wpAny_pyIter_enum z1 ?_;have lx:x < s1.heap.objs.size:=by obtain ⟨_,e,_⟩:=p1.isList;exact zAy e
 refine ⟨_,_,_,_,H1,rfl,I1.kept (t':=s1.toks) kp,jm (e:=s1.heap.objs.size+1) (it:=s1.heap.objs.size) (a:=x) (Nat.succ_ne_self _) (Nat.ne_of_gt (Nat.lt_succ_of_lt lx)) (zB4 lx),⟨⟨_,z1⟩,z4⟩,fun c hc=>?_,q⟩
 have hle:s1.heap.objs.size<=c:=by
  simp only [List.mem_cons,List.not_mem_nil,or_false] at hc;rcases hc with q | q <;> subst q
  ·exact Nat.le_add_right _ 1
  ·exact zA3 _
 exact I1.fpOk hle (I1.hok.fresh hle)
end
end L2.EL
namespace L2
open PySem PySem.Spec PyProof.Rows PySem.Calls
section
variable {X:Cx}
theorem cZ (hc:X.calm=true):du X (.builtin "sum") (fun xs H Q=>∃ (p:Addr) (ns:List Int),xs=[.ref p]/\(SqL X.K H p (ns.map V.int)\/SqT X.K H p (ns.map V.int))/\Q (.int ns.sum) H):=by
 intro pins s σ H xs us Q I r h;obtain ⟨p,ns,rfl,hq,q⟩:=h;obtain ⟨u,rfl,ru⟩:=vals1 r;cases ru
 have go:∀ its:List Value,Vals (ns.map V.int) its->∃ zs:Array (Int×Tok),its.toArray=intItems zs/\preSum (numAt zs) zs.size=ns.sum:=fun its rv=>by
  have hi:IntsAre its ns:=intsAre_of rv;obtain ⟨zs,ez⟩:=(hi.allInts:AllInts its.toArray).items;refine ⟨zs,ez,?_⟩;have en:numsOf its.toArray.toList=ns:=hi.numsOf;rw [ez,nums_intItems] at en;rw [preSum_eq,List.take_of_length_le (by simp),en]
 rcases hq with hq | hq
 ·obtain ⟨its,rv,pl,hz⟩:=I.list hq;obtain ⟨zs,ez,es⟩:=go its rv;refine sum_intListG (I.ok.hd hc) (ez ▸ pl.isList) fun h' tk t' hk=>?_;rw [es];exact ⟨.int _,H,I.kept (t':=tk) hk,⟨t',rfl⟩,q⟩
 ·obtain ⟨its,rv,pl,hz⟩:=I.tuple hq;obtain ⟨zs,ez,es⟩:=go its rv;have ht:s.heap.IsTuple p its.toArray:=pl;refine PySem.W.ktm_sumG (I.ok.hd hc) (ez ▸ ht) fun h' tk t' hk=>?_;rw [es];exact ⟨.int _,H,I.kept (t':=tk) hk,⟨t',rfl⟩,q⟩
end
section
open PySem.W
variable {prog:Program}{w:World}{A:Around}{E:Value->Shared->Prop}{s:Shared}
end
section
variable {X:Cx}
end
structure CScopeD (X:Cx)(scope:Scope)(x₀:Str):Prop where
 kind:scope.kind=.function
 only:scope.names.all (fun p=>p.2 != .cell || p.1 == x₀)=true
 names:scope.names.all (fun p=>p.2 != .local || scope.names.lookup p.1 == some .local)=true
 free:scope.names.all (fun p=>p.2 != .free || (X.env.cells.lookup p.1).isSome)=true
 cf:∀ n acc,cellsFrom n scope.names acc=(x₀,n)::acc
 pc:∀ h,pushCells h scope.names=h.push { cls:=.type "cell",data:=.cell none }
theorem CScopeD.hnames {X:Cx}{scope:Scope}{x₀:Str}(S:CScopeD X scope x₀):∀ p∈scope.names,p.2=.local->scope.names.lookup p.1=some .local:=fun p hp e=>by
 have:=List.all_eq_true.mp S.names p hp;simpa [e] using this
theorem CScopeD.hfree {X:Cx}{scope:Scope}{x₀:Str}(S:CScopeD X scope x₀):∀ p∈scope.names,p.2=NameKind.free->(X.env.cells.lookup p.1).isSome=true:=fun p hp e=>by
 have:=List.all_eq_true.mp S.free p hp;simpa [e] using this
theorem iU {scope:Scope}{env:Env}{x x₀:Str}{k:NameKind}(hc:scope.names.all (fun p=>p.2 != .cell || p.1 == x₀)=true)(hx:x≠x₀)(h:(relabel scope env).names.lookup x=some k)(hk:k=.cell\/k=.free):∃ k',(x,k')∈scope.names/\k'=NameKind.free:=by
 obtain ⟨⟨n,k0⟩,hm,e⟩:=zA5.mp (mem_of_lookup h);dsimp only at e;split at e
 ·rename_i c
  cases e
  have:(k0 == NameKind.free)=true:=by
   cases q:(k0 == NameKind.free) with
   | true=>rfl
   | false=>rw [q] at c;simp at c
  exact ⟨k0,hm,by simpa using this⟩
 ·cases e;rcases hk with z | z
  ·have:=List.all_eq_true.mp hc _ hm;rw [z] at this;exact absurd (by simpa using this) hx
  ·exact ⟨_,hm,z⟩
theorem yg {M:Model}{A:Around}{E:Value->Shared->Prop}{s:Shared}{scope:Scope}{globals:Addr}{closure:List (Str×Addr)}{qual x₀:Str}{outer:Env}{Q:Env->Shared->Prop}(cf:∀ n acc,cellsFrom n scope.names acc=(x₀,n)::acc)
  (pc:∀ h,pushCells h scope.names=h.push { cls:=.type "cell",data:=.cell none })
  (hQ:∀ h',h'.Ns s.heap.objs.size (fun _=>none)->(∀ b o,s.heap.get? b=some o->h'.get? b=some o)->h'.IsCell (s.heap.objs.size+1) none ->
   Q { scope,locals:=s.heap.objs.size,globals,cells:=(x₀,s.heap.objs.size+1)::closure,qual,func:=none,code:=outer.code,frame:=outer.frame,builtins:=outer.builtins } { s with heap:=h' }) :
  wpAny M A (newFunctionEnv scope globals closure [] qual none .none (some outer)) Q E s:=by
 simp only [newFunctionEnv,Option.isSome_some,if_true];refine wpAny_bind (wpAny_alloc (wpAny_bind (wpAny_layCells _ (fun name kind cells=>by cases q:kind == NameKind.cell <;> simp [q]) _ _ _ _ ?_)));rw [cf];dsimp only;rw [pc,Heap.size_push];refine wpAny_bind ?_;rw [List.forIn_nil];refine wpAny_pure (wpAny_pure (hQ _ ((Heap.Ns.new s.heap (.type "dict")).keeps fun b o e=>Heap.get?_push_of_some _ e) (fun b o e=>Heap.get?_push_of_some _ (Heap.get?_push_of_some _ e)) ?_));have:=Heap.get?_push_size (s.heap.push { cls:=.type "dict",data:=.dict #[] }) (o:={ cls:=.type "cell",data:=.cell none }) rfl;rw [Heap.size_push] at this;exact ⟨_,this,rfl⟩
def cxD (X:Cx)(scope:Scope)(x₀:Str)(Nc:List Str)(C:Addr)(fp:List Addr)(pins:List (Addr×Obj))(s₂:Shared)(H₂:Hp):Cx :=
 { cxC X scope Nc C fp pins s₂ H₂ with env:=compEnvC scope ((x₀,C+1)::cW X.env.cells scope.names []) C X.env,fn:=fun y=>y == x₀ }
theorem tR {X:Cx}{x₀:Str}{tg iter elt:Expr}{ifs:List Expr}{scope:Scope}{pos:Pos}{Nc:List Str}{src:List (Option Nat)}{g:TG}{tt:TT}{te:TE}(hc:X.calm=true)(S:CScopeD X scope x₀)
  (bE:∀ C,Caps X (compEnvC scope ((x₀,C+1)::cW X.env.cells scope.names []) C X.env) Nc src)
  (hb:∀ C fp pins s₂ H₂,PG (cxD X scope x₀ Nc C fp pins s₂ H₂) tg g/\PTs (cxD X scope x₀ Nc C fp pins s₂ H₂) ifs tt/\PE (cxD X scope x₀ Nc C fp pins s₂ H₂) elt te)
  {pins:List (Addr×Obj)} {s₂:Shared} {σ:St} {H₂:Hp} {it:Addr} {fp:List Addr} {tn:Nat->Heap->Prop} {J:It} (ae:Inv X pins σ H₂ s₂) (T:Turn X.prog X.w X.K tg J fp it tn) (st:tn 0 s₂.heap) (hf:∀ b∈fp,jJ X pins H₂ b)
  {Fin:List V->Hp->Prop} (hW:jC J g tt te Fin (capσ σ src) H₂) {RR:Value->Addr->Result->Shared->Prop} {E:Value->Shared->Prop}
  (CI:∀ D C s' ys H' m,Fin ys H'->H' D=none->Inv X pins σ (upd H' D (.lst ys)) s'->s'.heap.Ns C m->jJ X pins (upd H' D (.lst ys)) C->RR (.ref D) C (.ok .next) s') :
  wpAny (model X.prog X.w) X.A (newList []) (fun acc s₃=>wpAny (model X.prog X.w) X.A (newFunctionEnv scope X.env.globals (cW X.env.cells scope.names []) [] X.env.qual none .none (some X.env)) (fun js ip =>
   codeAny (model X.prog X.w) X.A (.compStart (.ListComp elt [⟨tg,iter,ifs,0⟩] scope pos) 0 (.ref it) acc { js with scope:=relabel scope X.env }) (RR acc js.locals) ip) E s₃) E s₂:=by
 refine wpAny_newObj_type (yg S.cf S.pc (fun cm aS fe fN=>?_));dsimp only at aS fe fN ⊢;generalize pj:s₂.heap.push { cls:=.type "list",dict:=none,data:=.seq ([]:List Value).toArray }=HH at aS fe fN ⊢;generalize fk:s₂.heap.objs.size=D at aS fe fN ⊢;have hC:HH.objs.size=D+1:=by rw [<- pj,Heap.size_push,fk]
 generalize KY:HH.objs.size=C at aS fe fN hC ⊢;have nh:D≠C:=by lia
 have below:∀ b,b < s₂.heap.objs.size->b≠C/\b≠D:=fun b hb=>by rw [fk] at hb;exact ⟨by rw [hC];exact zB4 (Nat.lt_succ_of_lt hb),zB4 hb⟩
 have ax:∀ {b o},s₂.heap.get? b=some o->b≠C/\b≠D:=fun {b o} e=>below b (zAy e);have old:∀ b o,s₂.heap.get? b=some o->cm.get? b=some o:=fun b o e=>fe b o (pj ▸ zAz _ e);have pz:cm.get? D=some { cls:=.type "list",data:=.seq ([]:List Value).toArray }:=fe _ _ (pj ▸ fk ▸ zB3 _ rfl)
 have A2:∀ b∈fp,∃ o,s₂.heap.get? b=some o:=fun b hb=>let ⟨o,e,_⟩:=T.obj _ _ st b hb;⟨o,e⟩
 have lI:∀ b∈fp,b≠C/\b≠D:=fun b hb=>let ⟨o,e⟩:=A2 b hb;ax e
 have sub:∀ {x c},((x₀,C+1)::cW X.env.cells scope.names []).lookup x=some c->X.env.cells.lookup x=some c\/(x=x₀/\c=C+1):=fun {x c} e=>by
  rw [List.lookup_cons] at e
  cases q:x == x₀ with
  | true =>
   rw [q] at e;injection e with e;exact .inr ⟨eq_of_beq q,e.symm⟩
  | false =>
   rw [q] at e;rcases lE scope.names [] S.hfree e with z | z
   ·simp at z
   ·exact .inl z
 have wa:∀ {b o},s₂.heap.get? b=some o->b < D:=fun {b o} e=>by rw [<- fk];exact zAy e
 have fresh:∀ a,D<=a->H₂ a=none:=fun a ha=>ae.hok.fresh (by rw [fk];exact ha)
 have eW:∀ {x c},X.env.cells.lookup x=some c->∃ o,s₂.heap.get? c=some o:=fun {x c} e=>let ⟨v,o,ho,_⟩:=ae.cell x c e;⟨o,ho⟩
 have pE:∀ b∈frs X.stack,∃ o,s₂.heap.get? b=some o:=fun b hb=>by
  rcases zAo.mp (ae.stkSub b hb) with e | hb
  ·rw [e];obtain ⟨m,⟨o,_,_,ho,_⟩,_⟩:=ae.loc;exact ⟨o,ho⟩
  ·obtain ⟨_,o,ho,_⟩:=ae.funs.mem hb;exact ⟨o,ho⟩
 have pS:∀ a,D<=a->a ∉ frs X.stack:=fun a ha hb=>by
  obtain ⟨o,e⟩:=pE a hb;exact absurd (zB2 (wa e) ha) (Nat.lt_irrefl _)
 have wb:∀ b∈fp,b ∉ frs X.stack:=fun b hb z=>by
  obtain ⟨_,f1,f2,_⟩:=hf b hb;rcases zAo.mp (ae.stkSub b z) with e | e
  ·exact f1 e
  ·exact f2 e
 have xb:∀ {x c},X.env.cells.lookup x=some c->c≠C+1:=fun {x c} e z=>by
  obtain ⟨o,ho⟩:=eW e;have:=wa ho;rw [z,hC] at this;exact absurd this (Nat.not_lt_of_le (Nat.le_trans (Nat.le_succ _) (Nat.le_succ _)))
 have IF:∀ b∈fp,∀ x c,((x₀,C+1)::cW X.env.cells scope.names []).lookup x=some c->c≠b:=fun b hb x c e=>by
  rcases sub e with z | ⟨_,z⟩
  ·exact (hf b hb).2.2.2.2.1 x c z
  ·obtain ⟨o,ho⟩:=A2 b hb;have:=wa ho;intro q;rw [<- q,z,hC] at this;exact absurd this (Nat.not_lt_of_le (Nat.le_trans (Nat.le_succ _) (Nat.le_succ _)))
 generalize bP:cxD X scope x₀ Nc C fp pins s₂ H₂=X';obtain ⟨hg,ht,he⟩:=hb C fp pins s₂ H₂;rw [bP] at hg ht he
 have CL:X'.Ok:=by
  subst bP;refine ⟨ae.ok.mod,S.kind,ae.ok.glob,ae.ok.blt,?_,?_,?_,?_,ae.ok.hd,ae.ok.frames,.inl rfl,?_,ae.bs,Nat.le_trans ae.ok.bsz ae.sz,?_,wb,ae.stack,ae.stkFree⟩
  ·show s₂.heap.objs.size<=C;lia
  ·intro x y c e1 e2;rcases sub e1 with z1 | ⟨z1,w1⟩
   ·rcases sub e2 with z2 | ⟨z2,w2⟩
    ·exact ae.ok.inj x y c z1 z2
    ·exact absurd w2 (xb z1)
   ·rcases sub e2 with z2 | ⟨z2,w2⟩
    ·exact absurd w1 (xb z2)
    ·rw [z1,z2]
  ·intro x hx;have hx:(relabel scope X.env).names.lookup x=some .cell\/(relabel scope X.env).names.lookup x=some .free:=hx;show ∃ c,((x₀,C+1)::cW X.env.cells scope.names []).lookup x=some c;rw [List.lookup_cons]
   cases q:x == x₀ with
   | true=>exact ⟨_,rfl⟩
   | false =>
    have:∃ k',(x,k')∈scope.names/\k'=NameKind.free:=by
     rcases hx with z | z
     ·exact iU S.only (fun w=>by rw [w,beq_self_eq_true] at q;cases q) z (.inl rfl)
     ·exact iU S.only (fun w=>by rw [w,beq_self_eq_true] at q;cases q) z (.inr rfl)
    exact lF scope.names [] (.inl this)
  ·intro x c z e;have z:x=x₀:=eq_of_beq z;rcases sub e with w | ⟨_,w⟩
   ·have e:((x₀,C+1)::cW X.env.cells scope.names []).lookup x=some c:=e;rw [z,List.lookup_cons,beq_self_eq_true] at e;injection e with e;show s₂.heap.objs.size<=c;rw [<- e,fk,hC];exact Nat.le_trans (Nat.le_succ _) (Nat.le_succ _)
   ·show s₂.heap.objs.size<=c;rw [w,fk,hC];exact Nat.le_trans (Nat.le_succ _) (Nat.le_succ _)
  ·intro b hb;exact ⟨(lI b hb).1,fun x c e=>IF b hb x c e⟩
  ·intro b o e hb;obtain ⟨_,_,_,f3,_⟩:=hf b hb;rcases f3 with z | z
   ·exact ae.ok.noex b o e z
   ·exact absurd (zB2 (zAy (ae.ok.bs b o e).1) z) (Nat.lt_irrefl _)
 have eP:X'.prog=X.prog:=by subst bP;rfl
 have ew:X'.w=X.w:=by subst bP;rfl
 have eK:X'.K=X.K:=by subst bP;rfl
 have eA:X'.A=X.A:=by subst bP;rfl
 have eE:X'.xe=fun _ _=>False:=by subst bP;rfl
 have eL:X'.env.locals=C:=by subst bP;rfl
 have eN:X'.env=compEnvC scope ((x₀,C+1)::cW X.env.cells scope.names []) C X.env:=by subst bP;rfl
 have ec:X'.calm=true:=by subst bP;exact hc
 have eS:X'.s₀=s₂:=by subst bP;rfl
 have eH:X'.H₀=H₂:=by subst bP;rfl
 have ef:X'.fs=frs X.stack:=by subst bP;rfl
 have ex:X'.ex=fp:=by subst bP;rfl
 have ep:X'.pn=X.pn++pins:=by subst bP;rfl
 have I0:Inv X' [] (capσ σ src) H₂ { s₂ with heap:=cm,toks:=s₂.toks }:=by
  refine ⟨CL,by rw [eS],ae.bare,by rw [eS,eH];exact Un.kept old,⟨_,by rw [eL];exact aS,?_⟩,?_,by rw [eL];exact fresh _ (by lia),?_,?_,by rw [eP,ew];exact ae.hok.kept old,?_⟩
  ·intro j x v e1 e2 e3;have e1:Nc[j]?=some x:=by subst bP;exact e1
   have e4:∃ i,src[j]?=some (some i)/\(σ[i]?).join=some v:=by
    unfold capσ at e2;rw [zAb] at e2
    cases q:src[j]? with
    | none=>rw [q] at e2;cases e2
    | some o =>
     rw [q] at e2
     cases o with
     | none=>simp at e2
     | some i=>exact ⟨i,rfl,by simpa using e2⟩
   obtain ⟨i,e5,e6⟩:=e4;obtain ⟨c1,c2,c3,c4⟩:=(bE C).get e1 e5
   have e7:σ[i]?=some (some v):=by
    cases q:σ[i]? with
    | none=>rw [q] at e6;simp at e6
    | some o=>rw [q] at e6;simp at e6;rw [e6]
   obtain ⟨m,_,hl⟩:=ae.loc;obtain ⟨u,r,l⟩:=hl i x v c1 e7 (.inr (by rcases c2 with z | z;exact .inl z;exact .inr z));refine ⟨u,r,?_⟩;rcases l with ⟨k,_⟩ | ⟨_,c,e,z⟩
   ·rcases c2 with c2 | c2 <;> (rw [k] at c2;cases c2)
   ·refine .inr ⟨by rw [eN];exact c4,c,by rw [eN];exact c3.trans e,?_⟩;obtain ⟨o,ho,hd⟩:=z;exact ⟨o,old c o ho,hd⟩
  ·intro x c e;rw [eN] at e;rcases sub e with z | ⟨_,z⟩
   ·obtain ⟨v,o,ho,hd⟩:=ae.cell x c z;exact ⟨v,o,old c o ho,hd⟩
   ·rw [z];exact ⟨none,fN⟩
  ·intro x c e;rw [eN] at e;rcases sub e with z | ⟨_,z⟩
   ·exact ae.freeC x c z
   ·rw [z];exact fresh _ (by rw [hC];exact Nat.le_trans (Nat.le_succ _) (Nat.le_succ _))
  ·intro p hp;rw [ep,zAn] at hp;obtain ⟨e,n,ne,nf,d⟩:=ae.pin p hp;refine ⟨old _ _ e,n,by rw [eL];exact (ax e).1,?_,d⟩;rw [ef];intro z;rcases zAo.mp (ae.stkSub _ z) with q | q
   ·exact ne q
   ·exact nf q
  ·have:=(bE C).len;subst bP;show (capσ σ src).length=Nc.length;unfold capσ;rw [zA1,this]
 have CM:∀ p∈X'.pn,p.1≠D:=fun p hp=>by
  rw [ep] at hp;exact (ax (ae.pin p hp).1).2
 have jv:∀ x c,X'.env.cells.lookup x=some c->c≠D:=fun x c e=>by
  rw [eN] at e;rcases sub e with z | ⟨_,z⟩
  ·obtain ⟨o,ho⟩:=eW z;exact (ax ho).2
  ·rw [z,hC];exact Nat.ne_of_gt (Nat.lt_succ_of_lt (Nat.lt_succ_self _))
 have pT:∀ {P:List (Addr×Obj)} {H:Hp},(∀ p∈P,p.1=D)->(∀ b∈fp,H b=none)->∀ b∈fp,jJ X' P H b:=fun {P H} hP hn b hb=>by
  refine ⟨hn b hb,by rw [eL];exact (lI b hb).1,by rw [ef];exact wb b hb,.inl (by rw [ex];exact hb),fun x c e=>?_,fun p hp=>?_⟩
  ·rw [eN] at e;exact IF b hb x c e
  ·rcases zA6.mp hp with z | z
   ·rw [ep] at z;exact (hf b hb).2.2.2.2.2 p z
   ·rw [hP p z];exact (lI b hb).2.symm
 obtain ⟨W,⟨m0,w0⟩,step⟩:=hW
 have loop:∀ s₃:Shared,s₃={ s₂ with heap:=cm,toks:=s₂.toks } ->
   codeAny (model X.prog X.w) X.A (.compLoop (.ListComp elt [⟨tg,iter,ifs,0⟩] scope pos) 0 (.ref it) (.ref D) (compEnvC scope ((x₀,C+1)::cW X.env.cells scope.names []) C X.env)) (RR (.ref D) C) s₃:=by
  rintro s₃ rfl
  refine iK (fun n s'=>∃ i ys us k ai H',Inv X' [] ai H' s'/\tn i s'.heap/\(∀ b∈fp,H' b=none)/\H' D=none/\s'.heap.get? D=some { cls:=.type "list",data:=.seq (List.toArray us) k }/\Vals ys us/\W i n ys ai H') ?_ m0
   ⟨0,[],[],_,_,_,I0,T.keep _ _ _ st fun b _ o e=>old b o e,fun b hb=>(hf b hb).1,fresh _ (zA3 _),pz,.nil,w0⟩
  rintro n s3 ⟨i,ys,us,k,fy,H3,I3,fz,mI,gu,CO,lP,w3⟩;obtain ⟨hsz,gv⟩:=step i n ys fy H3 w3
  have wc:Inv X' [(D,{ cls:=.type "list",data:=.seq us.toArray k })] fy H3 s3:=I3.pins_of fun p hp=>by
   rw [List.mem_singleton.mp hp];exact ⟨CO,gu,by rw [eL];exact nh,by rw [ef];exact pS _ (zA3 _),fun v z=>by cases z⟩
  have gx:∀ p∈[(D,({ cls:=.type "list",data:=.seq us.toArray k }:Obj))],p.1=D:=fun p hp=>by rw [List.mem_singleton.mp hp]
  rcases gv with ⟨stop,fin⟩ | ⟨go,turn⟩
  ·-- the end
   have hd:=T.done X' eP ew eK ec i _ s3 fy H3 (fun _ _=>False) wc (pT gx mI) fz stop;rw [eA] at hd;refine thn hd fun r s4 ⟨hr,I4⟩=>?_;subst hr;have pD:=I4.pin (D,{ cls:=.type "list",data:=.seq us.toArray k }) (zBb _ (List.mem_singleton.mpr rfl));obtain ⟨mC,we,_⟩:=I4.loc;rw [eL] at we;have fI:=I4.base;rw [eS,eH,ef,ex] at fI;have hlen:ys.length<=sizeLine:=Nat.le_of_lt hsz
   have pV:HOk X.prog X.w (upd H3 D (.lst ys)) s4.heap:=fun b u e=>by
    by_cases hb:b=D
    ·subst hb;rw [aj] at e;cases e;exact ⟨hlen,us,k,lP,pD.1⟩
    ·rw [aA hb] at e;have z:=I4.hok b u e;rw [eP,ew] at z
     exact z.stay (fun c v _ q=>q) (fun c q=>by rw [aA (aC q gu)];exact q) fun c xs q=>by rw [aA (aC q gu)];exact q
   have un:Un (frs X.stack) fp H₂ (upd H3 D (.lst ys)) s₂.heap s4.heap:=⟨fI.keep,fI.slot,fun b o e n hx=>by rw [aA (ax e).2];exact fI.free b o e n hx,fI.there,
    fun b xs e=>by
     have z:=fI.tups b xs e
     rw [aA (aC z gu)];exact z,
    fun b o u e=>by
     have z:=fI.frzs b o u e
     rw [aA (aC z gu)];exact z,
    fun b ps e=>by
     obtain ⟨mo,z⟩:=fI.tbls b ps e
     exact ⟨mo,by rw [aA (aC z gu)];exact z⟩⟩
   have J4:Inv X pins σ (upd H3 D (.lst ys)) s4:=ae.call' (ch:=fp) (by have:=I4.os;rw [eS] at this;exact this) un pV I4.bare fun b hb=>by
    obtain ⟨_,f1,f2,f3,f4,f5⟩:=hf b hb;exact ⟨f3,f1,f4,f5⟩
   refine CI D C s4 ys H3 mC fin gu J4 we ⟨?_,?_,?_,.inr ?_,?_,?_⟩
   ·rw [aA nh.symm];have:=I4.free;rw [eL] at this;exact this
   ·have:=ae.lt;rw [fk] at this;exact Nat.ne_of_gt (zB2 this (by rw [hC];exact Nat.le_succ _))
   ·intro z;obtain ⟨_,o,ho,_⟩:=ae.funs.mem z;exact (ax ho).1 rfl
   ·have:=ae.sz;rw [fk] at this;lia
   ·intro x c e z;obtain ⟨o,ho⟩:=eW e;exact (ax ho).1 z
   ·intro p hp z;exact (ax (ae.pin p hp).1).1 z
  ·-- a turn
   have hd:=T.item X' eP ew eK ec i _ s3 fy H3 (fun _ _=>False) wc (pT gx mI) fz go;rw [eA] at hd;refine thn hd fun r s4 ⟨u,hr,h4⟩=>?_;subst hr;refine thn h4 fun _ s5 ⟨x,H5,I5,r5,y5,iP,vc⟩=>?_;have ve:=I5.pinned (pT gx vc) (T.obj _ _ iP);have wm:=hg _ s5 fy H5 x u _ ve r5 (turn x H5 y5);rw [eP,ew,eA,eE,eN] at wm;refine thn wm fun _ s6 ⟨fA,H6,I6,q6⟩=>?_;have dP:=ht _ s6 fA H6 _ I6 q6;rw [eP,ew,eA,eE,eN] at dP;refine thn dP fun okb s7 ⟨H7,I7,q7⟩=>?_
   have back:∀ {H8:Hp} {s8:Shared},Inv X' ([(D,({ cls:=.type "list",data:=.seq us.toArray k }:Obj))]++ji fp s5.heap) fA H8 s8 ->
     Inv X' [] fA H8 s8/\tn (i+1) s8.heap/\(∀ b∈fp,H8 b=none)/\H8 D=none/\s8.heap.get? D=some { cls:=.type "list",data:=.seq us.toArray k }/\(∀ b∈fp,∀ o,s5.heap.get? b=some o->s8.heap.get? b=some o):=fun {H8 s8} I8=>by
    have pD:=I8.pin (D,{ cls:=.type "list",data:=.seq us.toArray k }) (List.mem_append_right _ (List.mem_append_left _ (List.mem_singleton.mpr rfl)));have pf:∀ b∈fp,∀ o,s5.heap.get? b=some o->s8.heap.get? b=some o:=fun b hb o e=>(I8.pin (b,o) (List.mem_append_right _ (List.mem_append_right _ (dC hb e)))).1;refine ⟨I8.pins_of fun p hp=>absurd hp (by simp),T.keep _ _ _ iP pf,fun b hb=>?_,pD.2.1,pD.1,pf⟩;obtain ⟨o,e,d⟩:=T.obj _ _ iP b hb;exact (I8.pin (b,o) (List.mem_append_right _ (List.mem_append_right _ (dC hb e)))).2.1
   cases okb with
   | false =>
    obtain ⟨b1,b2,b3,b4,b5,_⟩:=back I7;obtain ⟨m',hm,w7⟩:=q7;exact ⟨m',hm,i+1,ys,us,k,fA,H7,b1,b2,b3,b4,b5,lP,w7⟩
   | true =>
    have lS:=he _ s7 fA H7 _ I7 q7;rw [eP,ew,eA,eE,eN] at lS;show wpAny _ _ (eval elt _) _ _ s7;refine thn lS fun xv s8 ⟨y,H8,I8,r8,m',hm,w8⟩=>?_;obtain ⟨b1,b2,b3,b4,b5,b6⟩:=back I8;refine append_at (hsz:=by rw [zA8,<- lP.length];exact Nat.le_of_lt hsz) b5 fun h9 wo CS=>?_
    have I9:Inv X' [] fA H8 { s8 with heap:=h9 }:=b1.turned (t':=s8.toks) (fun b o hb e=>wo.extBut b o hb e) b4 (by rw [eL];exact nh) (.inr (by rw [eS,fk];exact zA3 _)) jv fun p hp=>by
     rw [zAn] at hp;exact CM p hp
    refine ⟨m',hm,i+1,ys++[y],us++[xv],k+1,fA,H8,I9,T.keep _ _ _ b2 fun b hb o e=>wo.extBut b o (lI b hb).2 e,b3,b4,?_,lP.append (.cons r8 .nil),w8⟩;show h9.get? D=_;rw [CS,List.push_toArray]
 refine codeAny_compStart_list (loop _ rfl) ?_;exact T.self _ 0 _ _ _ (T.keep _ _ _ st fun b _ o e=>old b o e) (loop _ rfl)
section
variable {X:Cx}{tg iter elt:Expr}{ifs:List Expr}{scope:Scope}{pos:Pos}{Nc:List Str}{wi:TI}{g:TG}{tt:TT}{te:TE}
theorem rA {x₀:Str}(Nc:List Str)(src:List (Option Nat))(hc:X.calm=true)(hi:PI X tg iter wi)
  (hb:∀ C fp pins s₂ H₂,PG (cxD X scope x₀ Nc C fp pins s₂ H₂) tg g/\PTs (cxD X scope x₀ Nc C fp pins s₂ H₂) ifs tt/\PE (cxD X scope x₀ Nc C fp pins s₂ H₂) elt te)
  (bE:∀ C,Caps X (compEnvC scope ((x₀,C+1)::cW X.env.cells scope.names []) C X.env) Nc src) (S:CScopeD X scope x₀)
  (hs:∀ x,foldedSetIterable iter X.env x=pure x:=by intro _;rfl):PE X (.ListComp elt [⟨tg,iter,ifs,0⟩] scope pos) (uC wi src g tt te):=by
 intro pins s σ H Q I h;rw [eval_ListComp];refine wpAny_comprehension_free (use:=none) rfl hs (pQ S.hfree) S.kind S.hnames ?_;refine thn (hi pins s σ H _ I h) fun v s1 h1=>thn h1 fun vb s2 h2=>?_;obtain ⟨it,fp,tn,J,H2,e,I2,T,st2,f2,hW⟩:=h2;subst e;refine tR (RR:=fun acc C=>compPost (model X.prog X.w) X.A X.xe none (EP X pins σ Q) acc C) hc S bE hb I2 T st2 f2 hW ?_;intro D C s' ys H' m fin nD J' hn fC;obtain ⟨f0,f1,_,f3,f4,f5⟩:=fC;refine ⟨m,hn,fun ID jI=>?_⟩;exact ⟨.ref D,_,J'.turned (t':=s'.toks) (fun b o hb e=>jI.extBut b o hb e) f0 f1 f3 f4 f5,rfl,fin D nD⟩
end
end L2
namespace Srt
open PySem PyProof.Rows
def fc:Bool->Keyed->Array Keyed->Nat->Nat->Nat->StateT SortSt Sem (Option Nat):=sortPriv% PySem.Builtin.gallop
section
variable {prog:Program}{w:World}{A:Around}{E:Value->Shared->Prop}{s:Shared}{κ:PyProof.Rows.KeyKind}
def FW (prog:Program)(w:World)(A:Around)(E:Value->Shared->Prop)(s:Shared)(κ:PyProof.Rows.KeyKind)(st:SortSt):Prop :=
 ∀ (x y:Keyed) (a b:κ.α) (Q:Option Bool->SortSt->Prop),κ.keyOf x.1=some a->κ.keyOf y.1=some b->Q (some (κ.blt a b)) st->wpS (model prog w) A E s (lt' x y) Q st
theorem bj {arr:Array Keyed}{i:Nat}{p:Keyed}{Q:Keyed->SortSt->Prop}{st:SortSt}(e:arr[i]?=some p)(h:Q p st):wpS (model prog w) A E s (elem' arr i) Q st:=by
 rw [elem'_eq,e];exact wpS_pure h
def bey (κ:PyProof.Rows.KeyKind)(left:Bool)(k:κ.α)(x:κ.α):Bool:=if left then κ.blt x k else !(κ.blt k x)
theorem dD {left:Bool}{key:Keyed}{arr:Array Keyed}{b n h:Nat}{Q:Option Nat->SortSt->Prop}{st:SortSt}{kk:κ.α}(hL:FW prog w A E s κ st)(hk:κ.keyOf key.1=some kk)(hn:h < n)
  (nB:∀ i,i < n->∃ p a,arr[b+i]?=some p/\κ.keyOf p.1=some a/\KK κ arr (b+i)=a) (hm:∀ i j,i<=j->j < n->bey κ left kk (KK κ arr (b+j))=true->bey κ left kk (KK κ arr (b+i))=true)
  (q:∀ k,k<=n->(∀ i,i < k->bey κ left kk (KK κ arr (b+i))=true)->(∀ i,k<=i->i < n->bey κ left kk (KK κ arr (b+i))=false)->Q (some k) st) :
  wpS (model prog w) A E s (fc left key arr b n h) Q st:=by
 have iq:∀ (i:Nat) (R:Option Bool->SortSt->Prop),i < n->R (some (bey κ left kk (KK κ arr (b+i)))) st->wpS (model prog w) A E s (do
   let x <- elem' arr (b+i)
   if left=true then lt' x key else do
    let r <- lt' key x
    pure (Option.map (fun x=>!x) r)) R st:=fun i R hi hR=>by
  obtain ⟨p,a,e1,e2,e3⟩:=nB i hi;refine wpS_bind (bj e1 ?_);unfold bey at hR;rw [e3] at hR
  cases left with
  | true =>
   rw [zAx rfl];exact hL _ _ _ _ _ e2 hk hR
  | false =>
   rw [zAu (by decide)];exact wpS_bind (hL _ _ _ _ _ hk e2 (wpS_pure hR))
 generalize K2:(fun i=>bey κ left kk (KK κ arr (b+i)))=β
 have C5:∀ i,bey κ left kk (KK κ arr (b+i))=β i:=fun i=>by rw [<- K2]
 simp only [C5] at iq hm q
 delta fc
 refine wpS_bind (iq h _ hn ?_)
 cases e0:β h with
 | true =>
  dsimp only;rw [if_pos rfl]
  refine wpS_bind (wpS_mono (wpS_forRange (I:=fun x c st'=>st'=st/\c.1=none/\c.2.1 < c.2.2/\c.2.1 < n - h/\x < c.2.2/\β (h+c.2.1)=true)
   (Q:=fun c st'=>st'=st/\c.1=none/\c.2.1 < c.2.2/\c.2.1 < n - h/\β (h+c.2.1)=true/\(c.2.2 ≥ n - h\/(c.2.2 < n - h/\β (h+c.2.2)=false))) ?_ ?_ ⟨rfl,rfl,(by show 0 < 1;decide),(by show 0 < n - h;lia),(by show 0 < 1;decide),(show β (h+0)=true from e0)⟩) ?_)
  ·rintro x ⟨c0,l,o⟩ st' _ hx ⟨rfl,rfl,g1,g2,g3,g4⟩;dsimp only at g1 g2 g3 g4 ⊢;by_cases ho:o ≥ n - h
   ·rw [zAx ho];exact wpS_pure ⟨rfl,rfl,g1,g2,g4,.inl ho⟩
   ·rw [zAu ho];refine wpS_bind (iq (h+o) _ (by lia) ?_)
    cases eb:β (h+o) with
    | true =>
     dsimp only;rw [if_neg (by decide)];exact wpS_pure ⟨rfl,rfl,by dsimp only;lia,by dsimp only;lia,by dsimp only;lia,eb⟩
    | false =>
     dsimp only;rw [if_pos (by decide)];exact wpS_pure ⟨rfl,rfl,g1,g2,g4,.inr ⟨by dsimp only;lia,eb⟩⟩
  ·rintro ⟨c0,l,o⟩ st' ⟨rfl,rfl,g1,g2,g3,g4⟩;dsimp only at g1 g2 g3 g4 ⊢;exact ⟨rfl,rfl,g1,g2,g4,.inl (by lia)⟩
  ·rintro ⟨c0,l,o⟩ st' ⟨rfl,rfl,g1,g2,g4,g5⟩;dsimp only at g1 g2 g4 g5 ⊢
   have w4:∀ i,h+min o (n - h)<=i->i < n->β i=false:=fun i hi gy=>by
    rcases g5 with g5 | ⟨g5,g6⟩
    ·lia
    ·cases e2:β i with
     | false=>rfl
     | true =>
      have:=hm (h+o) i (by lia) gy e2;rw [g6] at this;cases this
   obtain ⟨lo,dE⟩:∃ lo,lo=h+l+1:=⟨_,rfl⟩
   obtain ⟨hi,iF⟩:∃ hi,hi=h+min o (n - h):=⟨_,rfl⟩
   have w1:lo<=hi:=by lia
   have w2:hi<=n:=by lia
   have w3:∀ i,i < lo->β i=true:=fun i hi=>hm i (h+l) (by lia) (by lia) g4;have w4:∀ i,hi<=i->i < n->β i=false:=by rw [iF];exact w4
   rw [<- dE,<- iF]
   refine wpS_bind (wpS_mono (wpS_forRange (I:=fun x c cw=>cw=st'/\c.1=none/\c.2.1<=c.2.2/\c.2.2<=n/\c.2.2 - c.2.1<=n - x/\(∀ i,i < c.2.1->β i=true)/\(∀ i,c.2.2<=i->i < n->β i=false))
    (Q:=fun c cw=>cw=st'/\c.1=none/\c.2.2<=n/\(∀ i,i < c.2.2->β i=true)/\(∀ i,c.2.2<=i->i < n->β i=false)) ?_ ?_ ⟨rfl,rfl,w1,w2,(by show hi - lo<=n - 0;lia),w3,w4⟩) ?_)
   ·rintro x ⟨c0,l,r⟩ cw _ hx ⟨rfl,rfl,g1,g2,g3,g4,g5⟩;dsimp only at g1 g2 g3 g4 g5 ⊢;by_cases ix:l ≥ r
    ·rw [zAx ix];have e:l=r:=by lia
     exact wpS_pure ⟨rfl,rfl,g2,by rw [<- e];exact g4,g5⟩
    ·rw [zAu ix];refine wpS_bind (iq (l+(r - l) / 2) _ (by lia) ?_)
     cases eb:β (l+(r - l) / 2) with
     | true =>
      dsimp only;rw [if_pos rfl];exact wpS_pure ⟨rfl,rfl,by dsimp only;lia,g2,by dsimp only;lia,fun i hi=>hm i _ (by dsimp only at hi;lia) (by lia) eb,g5⟩
     | false =>
      dsimp only;rw [if_neg (by decide)];refine wpS_pure ⟨rfl,rfl,by dsimp only;lia,by dsimp only;lia,by dsimp only;lia,g4,fun i hi gy=>?_⟩
      cases e2:β i with
      | false=>rfl
      | true =>
       have:=hm (l+(r - l) / 2) i hi gy e2;rw [eb] at this;cases this
   ·rintro ⟨c0,l,r⟩ cw ⟨rfl,rfl,g1,g2,g3,g4,g5⟩;dsimp only at g1 g2 g3 g4 g5 ⊢;have e:l=r:=by lia
    exact ⟨rfl,rfl,g2,by rw [<- e];exact g4,g5⟩
   ·rintro ⟨c0,l,r⟩ cw ⟨rfl,rfl,g1,g2,g3⟩;exact wpS_pure (q _ g1 g2 g3)
 | false =>
  dsimp only;rw [if_neg (by decide)]
  refine wpS_bind (wpS_mono (wpS_forRange (I:=fun x c st'=>st'=st/\c.1=none/\c.2.1 < c.2.2/\c.2.1 < h+1/\x < c.2.2/\β (h - c.2.1)=false)
   (Q:=fun c st'=>st'=st/\c.1=none/\c.2.1 < c.2.2/\c.2.1 < h+1/\β (h - c.2.1)=false/\(c.2.2 ≥ h+1\/(c.2.2 < h+1/\β (h - c.2.2)=true))) ?_ ?_ ⟨rfl,rfl,(by show 0 < 1;decide),(by show 0 < h+1;lia),(by show 0 < 1;decide),(show β (h - 0)=false from e0)⟩) ?_)
  ·rintro x ⟨c0,l,o⟩ st' _ hx ⟨rfl,rfl,g1,g2,g3,g4⟩;dsimp only at g1 g2 g3 g4 ⊢;by_cases ho:o ≥ h+1
   ·rw [zAx ho];exact wpS_pure ⟨rfl,rfl,g1,g2,g4,.inl ho⟩
   ·rw [zAu ho];refine wpS_bind (iq (h - o) _ (by lia) ?_)
    cases eb:β (h - o) with
    | false =>
     dsimp only;rw [if_neg (by decide)];exact wpS_pure ⟨rfl,rfl,by dsimp only;lia,by dsimp only;lia,by dsimp only;lia,eb⟩
    | true =>
     dsimp only;rw [if_pos rfl];exact wpS_pure ⟨rfl,rfl,g1,g2,g4,.inr ⟨by dsimp only;lia,eb⟩⟩
  ·rintro ⟨c0,l,o⟩ st' ⟨rfl,rfl,g1,g2,g3,g4⟩;dsimp only at g1 g2 g3 g4 ⊢;exact ⟨rfl,rfl,g1,g2,g4,.inl (by lia)⟩
  ·rintro ⟨c0,l,o⟩ st' ⟨rfl,rfl,g1,g2,g4,g5⟩;dsimp only at g1 g2 g4 g5 ⊢
   have w3:∀ i,i < h+1 - min o (h+1)->β i=true:=fun i hi=>by
    rcases g5 with g5 | ⟨g5,g6⟩
    ·lia
    ·exact hm i (h - o) (by lia) (by lia) g6
   have w4:∀ i,h - l<=i->i < n->β i=false:=fun i hi gy=>by
    cases e2:β i with
    | false=>rfl
    | true =>
     have:=hm (h - l) i hi gy e2;rw [g4] at this;cases this
   obtain ⟨lo,dE⟩:∃ lo,lo=h+1 - min o (h+1):=⟨_,rfl⟩
   obtain ⟨hi,iF⟩:∃ hi,hi=h - l:=⟨_,rfl⟩
   have w1:lo<=hi:=by lia
   have w2:hi<=n:=by lia
   have w3:∀ i,i < lo->β i=true:=by rw [dE];exact w3
   have w4:∀ i,hi<=i->i < n->β i=false:=by rw [iF];exact w4
   rw [<- dE,<- iF]
   refine wpS_bind (wpS_mono (wpS_forRange (I:=fun x c cw=>cw=st'/\c.1=none/\c.2.1<=c.2.2/\c.2.2<=n/\c.2.2 - c.2.1<=n - x/\(∀ i,i < c.2.1->β i=true)/\(∀ i,c.2.2<=i->i < n->β i=false))
    (Q:=fun c cw=>cw=st'/\c.1=none/\c.2.2<=n/\(∀ i,i < c.2.2->β i=true)/\(∀ i,c.2.2<=i->i < n->β i=false)) ?_ ?_ ⟨rfl,rfl,w1,w2,(by show hi - lo<=n - 0;lia),w3,w4⟩) ?_)
   ·rintro x ⟨c0,l,r⟩ cw _ hx ⟨rfl,rfl,g1,g2,g3,g4,g5⟩;dsimp only at g1 g2 g3 g4 g5 ⊢;by_cases ix:l ≥ r
    ·rw [zAx ix];have e:l=r:=by lia
     exact wpS_pure ⟨rfl,rfl,g2,by rw [<- e];exact g4,g5⟩
    ·rw [zAu ix];refine wpS_bind (iq (l+(r - l) / 2) _ (by lia) ?_)
     cases eb:β (l+(r - l) / 2) with
     | true =>
      dsimp only;rw [if_pos rfl];exact wpS_pure ⟨rfl,rfl,by dsimp only;lia,g2,by dsimp only;lia,fun i hi=>hm i _ (by dsimp only at hi;lia) (by lia) eb,g5⟩
     | false =>
      dsimp only;rw [if_neg (by decide)];refine wpS_pure ⟨rfl,rfl,by dsimp only;lia,by dsimp only;lia,by dsimp only;lia,g4,fun i hi gy=>?_⟩
      cases e2:β i with
      | false=>rfl
      | true =>
       have:=hm (l+(r - l) / 2) i hi gy e2;rw [eb] at this;cases this
   ·rintro ⟨c0,l,r⟩ cw ⟨rfl,rfl,g1,g2,g3,g4,g5⟩;dsimp only at g1 g2 g3 g4 g5 ⊢;have e:l=r:=by lia
    exact ⟨rfl,rfl,g2,by rw [<- e];exact g4,g5⟩
   ·rintro ⟨c0,l,r⟩ cw ⟨rfl,rfl,g1,g2,g3⟩;exact wpS_pure (q _ g1 g2 g3)
end
abbrev Sm:=StateT SortSt Sem
def wB (lo a m:Nat):Sm AscSt :=
 forIn [a:m] ((none,a):AscSt) fun _ c=>do
  let x <- ltAt' (lo+c.snd) (lo+c.snd - 1)
  match x with
  | some b=>if b=true then pure (ForInStep.done (none,c.snd)) else pure (ForInStep.yield (none,c.snd+1))
  | _=>pure (ForInStep.done (some none,c.snd))
def oH (lo n m:Nat):Sm (Option Nat):=do
 reverseSlice' lo (lo+n)
 let c <- wB lo n m
 match c.fst with
 | some r=>pure r
 | none=>pure (some c.snd)
def uK (lo n m:Nat):Sm DescSt :=
 forIn [n:m] ((none,n,0):DescSt) fun _ c=>do
  let x <- ltAt' (lo+c.snd.fst) (lo+c.snd.fst - 1)
  match x with
  | some b =>
   if b=true then
    if c.snd.snd > 0 then do
     reverseSlice' (lo+c.snd.fst - (c.snd.snd+1)) (lo+c.snd.fst)
     pure (ForInStep.yield (none,c.snd.fst+1,0))
    else pure (ForInStep.yield (none,c.snd.fst+1,0))
   else do
    let y <- ltAt' (lo+c.snd.fst - 1) (lo+c.snd.fst)
    match y with
    | some d =>
     if d=true then pure (ForInStep.done (none,c.snd.fst,c.snd.snd))
     else pure (ForInStep.yield (none,c.snd.fst+1,c.snd.snd+1))
    | _=>pure (ForInStep.done (some none,c.snd.fst,c.snd.snd))
  | _=>pure (ForInStep.done (some none,c.snd.fst,c.snd.snd))
def oJ (lo n m:Nat):Sm (Option Nat):=do
 liftM (rule "list.sort.descending-run")
 let c <- uK lo (n+1) m
 match c.fst with
 | some r=>pure r
 | none =>
  if c.snd.snd > 0 then do
   reverseSlice' (lo+c.snd.fst - (c.snd.snd+1)) (lo+c.snd.fst)
   oH lo c.snd.fst m
  else oH lo c.snd.fst m
theorem bc {α β:Type}{m m':Sm α}{f f':α->Sm β}(h:m=m')(h':f=f'):(m >>= f)=(m' >>= f'):=by rw [h,h']
theorem wC (lo m:Nat):countRun' lo m=(do
  let c <- wB lo 1 m
  match c.fst with
  | some r=>pure r
  | none =>
   if (c.snd == m)=true then pure (some c.snd)
   else if c.snd > 1 then do
    let x <- ltAt' lo (lo+c.snd - 1)
    match x with
    | some b=>if b=true then pure (some c.snd) else do
      reverseSlice' lo (lo+c.snd)
      oJ lo c.snd m
    | _=>pure none
   else oJ lo c.snd m):=by
 rw [countRun'_eq]
 have tl:∀ n:Nat,((do
   reverseSlice' lo (lo+n)
   let mut n:=n
   for _ in [n:m] do
    let some smaller <- ltAt' (lo+n) (lo+n - 1) | return none
    if smaller then break
    n:=n+1
   return some n):Sm (Option Nat))=oH lo n m:=fun n=>by
  unfold oH wB;refine bc rfl (funext fun u=>bc rfl (funext fun c=>?_));obtain ⟨r,n⟩:=c;cases r <;> rfl
 have pl:∀ n:Nat,((do
   rule "list.sort.descending-run"
   let mut n:=n+1
   let mut neq:=0
   for _ in [n:m] do
    let some smaller <- ltAt' (lo+n) (lo+n - 1) | return none
    if smaller then
     if neq > 0 then reverseSlice' (lo+n - (neq+1)) (lo+n)
     neq:=0
    else
     let some larger <- ltAt' (lo+n - 1) (lo+n) | return none
     if larger then break
     neq:=neq+1
    n:=n+1
   if neq > 0 then reverseSlice' (lo+n - (neq+1)) (lo+n)
   reverseSlice' lo (lo+n)
   for _ in [n:m] do
    let some smaller <- ltAt' (lo+n) (lo+n - 1) | return none
    if smaller then break
    n:=n+1
   return some n):Sm (Option Nat))=oJ lo n m:=fun n=>by
  unfold oJ uK;refine bc rfl (funext fun u=>bc rfl (funext fun c=>?_));obtain ⟨r,n2,q2⟩:=c
  cases r with
  | some r=>rfl
  | none =>
   dsimp only;split
   ·exact bc rfl (funext fun u=>tl n2)
   ·exact tl n2
 unfold wB;refine bc rfl (funext fun c=>?_);obtain ⟨r,n⟩:=c
 cases r with
 | some r=>rfl
 | none =>
  dsimp only;split
  ·rfl
  ·split
   ·refine bc rfl (funext fun x=>?_)
    cases x with
    | none=>rfl
    | some b =>
     dsimp only;split
     ·rfl
     ·exact bc rfl (funext fun u=>pl n)
   ·exact pl n
structure SB (ks:SortKind)(ab:Array Keyed)(st:SortSt):Prop where
 kind:kindOf st=ks
 ok:failedOf st=none
 pm:(arrOf st).Perm ab
def Seg (κ:PyProof.Rows.KeyKind)(xs:Array Keyed)(a b:Nat):Prop:=∀ i j,a<=i->i<=j->j < b->κ.kle (KK κ xs i) (KK κ xs j)
def Non (κ:PyProof.Rows.KeyKind)(xs:Array Keyed)(a b:Nat):Prop:=∀ i j,a<=i->i<=j->j < b->κ.kle (KK κ xs j) (KK κ xs i)
structure Out (st st':SortSt)(a b:Nat):Prop where
 out:∀ k,(k < a\/b<=k)->(arrOf st')[k]?=(arrOf st)[k]?
 pend:pendingOf st'=pendingOf st
theorem Out.refl (st:SortSt)(a b:Nat):Out st st a b:=⟨fun _ _=>rfl,rfl⟩
theorem Out.trans {st fR st2:SortSt}{a b:Nat}(h:Out st fR a b)(h':Out fR st2 a b):Out st st2 a b:=⟨fun k hk=>(h'.out k hk).trans (h.out k hk),h'.pend.trans h.pend⟩
section
variable {prog:Program}{w:World}{A:Around}{E:Value->Shared->Prop}{s:Shared}{κ:PyProof.Rows.KeyKind}{ks:SortKind}{ab:Array Keyed}
def LtAll (prog:Program)(w:World)(A:Around)(E:Value->Shared->Prop)(s:Shared)(κ:PyProof.Rows.KeyKind)(ks:SortKind):Prop:=∀ st,kindOf st=ks->FW prog w A E s κ st
theorem SB.size {st:SortSt}(B:SB ks ab st):(arrOf st).size=ab.size:=B.pm.size_eq
theorem SB.item {st:SortSt}(B:SB ks ab st)(h0:KeysOf κ ab){i:Nat}(hi:i < ab.size):∃ p a,(arrOf st)[i]?=some p/\κ.keyOf p.1=some a/\KK κ (arrOf st) i=a:=by
 have hG:i < (arrOf st).size:=by rw [B.size];exact hi
 have e:(arrOf st)[i]?=some (arrOf st)[i]:=Array.getElem?_eq_getElem hG;have hm:(arrOf st)[i]∈ab.toList:=(Array.perm_iff_toList_perm.mp B.pm).mem_iff.mp (Array.mem_toList_iff.mpr (Array.getElem_mem hG));obtain ⟨a,ha⟩:=h0 _ hm;refine ⟨_,a,e,ha,?_⟩;unfold KK;rw [e];dsimp only;rw [ha];rfl
theorem SB.arr {st:SortSt}(B:SB ks ab st){xs:Array Keyed}(h:xs.Perm (arrOf st)):SB ks ab (setArr st xs):=⟨B.kind,B.ok,h.trans B.pm⟩
theorem ltA (hL:LtAll prog w A E s κ ks){st:SortSt}{i j:Nat}{Q:Option Bool->SortSt->Prop}(B:SB ks ab st)(h0:KeysOf κ ab)(hi:i < ab.size)(hj:j < ab.size)(h:Q (some (κ.blt (KK κ (arrOf st) i) (KK κ (arrOf st) j))) st) :
  wpS (model prog w) A E s (ltAt' i j) Q st:=by
 obtain ⟨p,a,e1,ka,ea⟩:=B.item (κ:=κ) h0 hi;obtain ⟨q,b,e2,kb,eb⟩:=B.item (κ:=κ) h0 hj;rw [ea,eb] at h;rw [ltAt'_eq];refine wpS_bind (wpS_get (wpS_bind (bj e1 (wpS_bind (bj e2 ?_)))));exact hL st B.kind p q a b Q ka kb h
theorem qi {st:SortSt}{i j:Nat}{Q:Unit->SortSt->Prop}(h:Q () (setArr st (mirror (arrOf st) i j ((j - i) / 2)))):wpS (model prog w) A E s (reverseSlice' i j) Q st:=wpS_reverse h
theorem Out.rev {st:SortSt}{i j a b:Nat}(hj:j<=(arrOf st).size)(h1:a<=i)(h2:j<=b):Out st (setArr st (mirror (arrOf st) i j ((j - i) / 2))) a b:=by
 refine ⟨fun k hk=>?_,rfl⟩;show (mirror (arrOf st) i j ((j - i) / 2))[k]?=_;rw [getElem?_mirror_all hj,zAu (by lia)]
theorem uL (hL:LtAll prog w A E s κ ks)(h0:KeysOf κ ab){st:SortSt}{lo a m:Nat}{Q:AscSt->SortSt->Prop}(hn:lo+m<=ab.size)(ha:1<=a)(K3:a<=m)(B:SB ks ab st)(hs:Seg κ (arrOf st) lo (lo+a))
  (h:∀ n,a<=n->n<=m->Seg κ (arrOf st) lo (lo+n)->(n=m\/κ.klt (KK κ (arrOf st) (lo+n)) (KK κ (arrOf st) (lo+n - 1)))->Q (none,n) st):wpS (model prog w) A E s (wB lo a m) Q st:=by
 unfold wB;refine wpS_forRange (I:=fun x c st'=>st'=st/\c=(none,x)/\Seg κ (arrOf st) lo (lo+x)) ?_ ?_ ⟨rfl,rfl,hs⟩
 ·rintro x c st' C6 K4 ⟨rfl,rfl,cb⟩;dsimp only;refine wpS_bind (ltA hL B h0 (by lia) (by lia) ?_)
  cases e:κ.blt (KK κ (arrOf st') (lo+x)) (KK κ (arrOf st') (lo+x - 1)) with
  | true =>
   dsimp only;rw [if_pos rfl];exact wpS_pure (h x C6 (by lia) cb (.inr e))
  | false =>
   dsimp only;rw [if_neg (by decide)];refine wpS_pure ⟨rfl,rfl,fun i j hi ck hj=>?_⟩;by_cases xh:j < lo+x
   ·exact cb i j hi ck xh
   ·have ej:j=lo+x:=by lia
    subst ej;by_cases ei:i=lo+x
    ·rw [ei];exact KeyOrd.kle_refl _
    ·exact KeyOrd.kle_trans (cb i (lo+x - 1) hi (by lia) (by lia)) e
 ·rintro c st' ⟨rfl,rfl,cb⟩;rw [show max a m=m by lia] at cb ⊢;exact h m K3 (zA3 _) cb (.inl rfl)
theorem rB (hL:LtAll prog w A E s κ ks)(h0:KeysOf κ ab){st:SortSt}{lo n m:Nat}{Q:Option Nat->SortSt->Prop}(hn:lo+m<=ab.size)(h1:1<=n)(lT:n<=m)(B:SB ks ab st)(hs:Non κ (arrOf st) lo (lo+n))
  (h:∀ k st',SB ks ab st'->Out st st' lo (lo+m)->1<=k->k<=m->Seg κ (arrOf st') lo (lo+k)->Q (some k) st'):wpS (model prog w) A E s (oH lo n m) Q st:=by
 unfold oH;have hsz:lo+n<=(arrOf st).size:=by rw [B.size];lia
 refine wpS_bind (qi ?_);have B':=B.arr (mirror_perm (arrOf st) lo (lo+n) ((lo+n - lo) / 2));refine wpS_bind (uL hL h0 hn h1 lT B' ?_ fun k QI xi K5 _=>wpS_pure (h k _ B' (Out.rev hsz (zA3 _) (by lia)) (by lia) xi K5));intro i j hi ck hj;show κ.kle (KK κ (mirror (arrOf st) lo (lo+n) ((lo+n - lo) / 2)) i) (KK κ (mirror (arrOf st) lo (lo+n) ((lo+n - lo) / 2)) j);rw [KK_mirror hsz,KK_mirror hsz,zAx (by lia),zAx (by lia)];exact hs _ _ (by lia) (by lia) (by lia)
theorem yh (hL:LtAll prog w A E s κ ks)(h0:KeysOf κ ab){st:SortSt}{lo n m:Nat}{Q:DescSt->SortSt->Prop}(hn:lo+m<=ab.size)(h1:1<=n)(lT:n<=m)(B:SB ks ab st)(hs:Non κ (arrOf st) lo (lo+n))
  (h:∀ k q st',SB ks ab st'->Out st st' lo (lo+m)->n<=k->k<=m->Non κ (arrOf st') lo (lo+k)->q+1<=k->(∀ i,lo+k - (q+1)<=i->i < lo+k->KK κ (arrOf st') i=KK κ (arrOf st') (lo+k - 1))->Q (none,k,q) st') :
  wpS (model prog w) A E s (uK lo n m) Q st:=by
 unfold uK
 refine wpS_forRange (I:=fun x c st'=>∃ q,c=(none,x,q)/\SB ks ab st'/\Out st st' lo (lo+m)/\Non κ (arrOf st') lo (lo+x)/\q+1<=x/\(∀ i,lo+x - (q+1)<=i->i < lo+x->KK κ (arrOf st') i=KK κ (arrOf st') (lo+x - 1))) ?_ ?_
  ⟨0,rfl,B,Out.refl _ _ _,hs,by lia,fun i z1 z2=>by congr 1;lia⟩
 ·rintro x c st' C6 K4 ⟨q,rfl,B',O',cb,hq,he⟩;dsimp only;have hsz:lo+x<=(arrOf st').size:=by rw [B'.size];lia
  refine wpS_bind (ltA hL B' h0 (by lia) (by lia) ?_)
  cases e:κ.blt (KK κ (arrOf st') (lo+x)) (KK κ (arrOf st') (lo+x - 1)) with
  | true =>
   dsimp only;rw [if_pos rfl]
   have more:∀ xs:Array Keyed,(∀ k,KK κ xs k=KK κ (arrOf st') k)->Non κ xs lo (lo+(x+1)):=fun xs hk i j hi ck hj=>by
    rw [hk,hk];by_cases xh:j < lo+x
    ·exact cb i j hi ck xh
    ·have ej:j=lo+x:=by lia
     subst ej;by_cases ei:i=lo+x
     ·rw [ei];exact KeyOrd.kle_refl _
     ·exact KeyOrd.kle_trans (KeyOrd.kle_of_klt e) (cb i (lo+x - 1) hi (by lia) (by lia))
   by_cases xt:q > 0
   ·rw [zAx xt];refine wpS_bind (qi (wpS_pure ⟨0,rfl,B'.arr (mirror_perm _ _ _ _),O'.trans (Out.rev hsz (by lia) (by lia)),more _ (KK_mirror_equal hsz he),by lia,fun i z1 z2=>by congr 1;lia⟩))
   ·rw [zAu xt];exact wpS_pure ⟨0,rfl,B',O',more _ (fun _=>rfl),by lia,fun i z1 z2=>by congr 1;lia⟩
  | false =>
   dsimp only;rw [if_neg (by decide)];refine wpS_bind (ltA hL B' h0 (by lia) (by lia) ?_)
   cases e2:κ.blt (KK κ (arrOf st') (lo+x - 1)) (KK κ (arrOf st') (lo+x)) with
   | true =>
    dsimp only;rw [if_pos rfl];exact wpS_pure (h x q st' B' O' C6 (by lia) cb hq he)
   | false =>
    dsimp only;rw [if_neg (by decide)];have ex:KK κ (arrOf st') (lo+x)=KK κ (arrOf st') (lo+x - 1):=KeyOrd.kle_antisymm e2 e;refine wpS_pure ⟨q+1,rfl,B',O',fun i j hi ck hj=>?_,by lia,fun i z1 z2=>?_⟩
    ·by_cases xh:j < lo+x
     ·exact cb i j hi ck xh
     ·have ej:j=lo+x:=by lia
      subst ej;by_cases ei:i=lo+x
      ·rw [ei];exact KeyOrd.kle_refl _
      ·rw [ex];exact cb i (lo+x - 1) hi (by lia) (by lia)
    ·rw [show lo+(x+1) - 1=lo+x by lia];by_cases ei:i=lo+x
     ·rw [ei]
     ·rw [ex];exact he i (by lia) (by lia)
 ·rintro c st' ⟨q,rfl,B',O',cb,hq,he⟩;rw [show max n m=m by lia] at cb hq he ⊢;exact h m q st' B' O' lT (zA3 _) cb hq he
theorem rD (hL:LtAll prog w A E s κ ks)(h0:KeysOf κ ab){st:SortSt}{lo n m:Nat}{Q:Option Nat->SortSt->Prop}(hn:lo+m<=ab.size)(lT:n+1<=m)(B:SB ks ab st)(hs:Non κ (arrOf st) lo (lo+(n+1)))
  (h:∀ k st',SB ks ab st'->Out st st' lo (lo+m)->1<=k->k<=m->Seg κ (arrOf st') lo (lo+k)->Q (some k) st'):wpS (model prog w) A E s (oJ lo n m) Q st:=by
 unfold oJ;refine wpS_bind (wpS_lift (wpAny_rule ⟨rfl,?_⟩));refine wpS_bind (yh hL h0 hn (by lia) lT B hs fun k q st' B' O' k1 k2 cb hq he=>?_);dsimp only;have hsz:lo+k<=(arrOf st').size:=by rw [B'.size];lia
 by_cases xt:q > 0
 ·rw [zAx xt];refine wpS_bind (qi (rB hL h0 hn (by lia) k2 (B'.arr (mirror_perm _ _ _ _)) ?_ fun k' st2 B2 O2=>h k' st2 B2 ((O'.trans (Out.rev hsz (by lia) (by lia))).trans O2)));intro i j hi ck hj;show κ.kle (KK κ (mirror (arrOf st') _ _ _) j) (KK κ (mirror (arrOf st') _ _ _) i);rw [KK_mirror_equal hsz he,KK_mirror_equal hsz he];exact cb i j hi ck hj
 ·rw [zAu xt];exact rB hL h0 hn (by lia) k2 B' cb fun k' st2 B2 O2=>h k' st2 B2 (O'.trans O2)
theorem yj (hL:LtAll prog w A E s κ ks)(h0:KeysOf κ ab){st:SortSt}{lo m:Nat}{Q:Option Nat->SortSt->Prop}(hn:lo+m<=ab.size)(h1:1<=m)(B:SB ks ab st)
  (h:∀ k st',SB ks ab st'->Out st st' lo (lo+m)->1<=k->k<=m->Seg κ (arrOf st') lo (lo+k)->Q (some k) st'):wpS (model prog w) A E s (countRun' lo m) Q st:=by
 rw [wC];refine wpS_bind (uL hL h0 hn (zA3 1) h1 B (fun i j hi ck hj=>by have:i=j:=(by lia);rw [this];exact KeyOrd.kle_refl _) fun n n1 n2 A5 K6=>?_);dsimp only;by_cases lT:n=m
 ·rw [if_pos (by simpa using lT)];exact wpS_pure (h n st B (Out.refl _ _ _) n1 n2 A5)
 ·rw [if_neg (by simpa using lT)];have aT:=K6.resolve_left lT;by_cases IG:n > 1
  ·rw [zAx IG];refine wpS_bind (ltA hL B h0 (by lia) (by lia) ?_)
   cases e:κ.blt (KK κ (arrOf st) lo) (KK κ (arrOf st) (lo+n - 1)) with
   | true =>
    dsimp only;rw [if_pos rfl];exact wpS_pure (h n st B (Out.refl _ _ _) n1 n2 A5)
   | false =>
    dsimp only;rw [if_neg (by decide)];have hsz:lo+n<=(arrOf st).size:=by rw [B.size];lia
    have gs:∀ k,lo<=k->k < lo+n->KK κ (arrOf st) k=KK κ (arrOf st) (lo+n - 1):=fun k sP hk=>by
     have a1:=A5 lo k (zA3 _) sP hk;have a2:=A5 k (lo+n - 1) sP (by lia) (by lia);exact KeyOrd.kle_antisymm a2 (KeyOrd.kle_trans e a1)
    refine wpS_bind (qi (rD hL h0 hn (by lia) (B.arr (mirror_perm _ _ _ _)) ?_ fun k st2 B2 O2=>h k st2 B2 ((Out.rev hsz (zA3 _) (by lia)).trans O2)));intro i j hi ck hj;show κ.kle (KK κ (mirror (arrOf st) _ _ _) j) (KK κ (mirror (arrOf st) _ _ _) i);rw [KK_mirror_equal hsz gs,KK_mirror_equal hsz gs];by_cases K7:j < lo+n
    ·rw [gs i hi (by lia),gs j (by lia) K7];exact KeyOrd.kle_refl _
    ·have ej:j=lo+n:=by lia
     subst ej;by_cases ei:i=lo+n
     ·rw [ei];exact KeyOrd.kle_refl _
     ·rw [gs i hi (by lia)];exact KeyOrd.kle_of_klt aT
  ·rw [zAu IG];have e1:n=1:=by lia
   subst e1;refine rD hL h0 hn (by lia) B ?_ h;intro i j hi ck hj;by_cases ei:i=j
   ·rw [ei];exact KeyOrd.kle_refl _
   ·have i0:i=lo:=by lia
    have j1:j=lo+1:=by lia
    rw [i0,j1];exact KeyOrd.kle_of_klt aT
theorem DW (hL:LtAll prog w A E s κ ks)(h0:KeysOf κ ab){st:SortSt}{lo n ok:Nat}{Q:Bool->SortSt->Prop}(hn:lo+n<=ab.size)(hok:ok<=n)(B:SB ks ab st)(hs:Seg κ (arrOf st) lo (lo+ok))
  (h:∀ st',SB ks ab st'->Out st st' lo (lo+n)->Seg κ (arrOf st') lo (lo+n)->Q true st'):wpS (model prog w) A E s (binarySort' lo n ok) Q st:=by
 rw [binarySort'_eq]
 refine wpS_bind (wpS_mono (wpS_forRange (I:=fun k c st'=>c=(none,())/\SB ks ab st'/\Out st st' lo (lo+n)/\Seg κ (arrOf st') lo (lo+min k n))
  (Q:=fun c st'=>c=(none,())/\SB ks ab st'/\Out st st' lo (lo+n)/\Seg κ (arrOf st') lo (lo+n)) ?_ ?_ ?_) ?_)
 ·rintro k c st' sP QJ ⟨rfl,B',O',cb⟩;rw [show min k n=k by lia] at cb
  refine wpS_bind (wpS_mono (wpS_forRange (I:=fun x c st2=>st2=st'/\∃ l r,c=(none,l,r)/\l<=r/\r<=k/\r - l<=k - x/\(∀ i,i < l->κ.kle (KK κ (arrOf st') (lo+i)) (KK κ (arrOf st') (lo+k)))/\(∀ i,r<=i->i < k->κ.klt (KK κ (arrOf st') (lo+k)) (KK κ (arrOf st') (lo+i))))
   (Q:=fun c st2=>st2=st'/\∃ l r,c=(none,l,r)/\l<=k/\(∀ i,i < l->κ.kle (KK κ (arrOf st') (lo+i)) (KK κ (arrOf st') (lo+k)))/\(∀ i,l<=i->i < k->κ.klt (KK κ (arrOf st') (lo+k)) (KK κ (arrOf st') (lo+i)))) ?_ ?_ ?_) ?_)
  ·rintro x c st2 _ QK ⟨rfl,l,r,rfl,ix,sQ,hm,dE,iF⟩;dsimp only;by_cases qf:l ≥ r
   ·rw [zAx qf];have e:l=r:=by lia
    subst e;exact wpS_pure ⟨rfl,l,l,rfl,sQ,dE,iF⟩
   ·rw [zAu qf];refine wpS_bind (ltA hL B' h0 (by lia) (by lia) ?_)
    cases e:κ.blt (KK κ (arrOf st2) (lo+k)) (KK κ (arrOf st2) (lo+(l+r) / 2)) with
    | true =>
     dsimp only;rw [if_pos rfl];exact wpS_pure ⟨rfl,l,(l+r) / 2,rfl,by lia,by lia,by lia,dE,fun i z1 z2=>KeyOrd.klt_of_klt_of_kle e (cb (lo+(l+r) / 2) (lo+i) (by lia) (by lia) (by lia))⟩
    | false =>
     dsimp only;rw [if_neg (by decide)];exact wpS_pure ⟨rfl,(l+r) / 2+1,r,rfl,by lia,by lia,by lia,fun i z1=>KeyOrd.kle_trans (cb (lo+i) (lo+(l+r) / 2) (by lia) (by lia) (by lia)) (show κ.kle _ _ from e),iF⟩
  ·rintro c st2 ⟨rfl,l,r,rfl,ix,sQ,hm,dE,iF⟩;have e:l=r:=by lia
   subst e;exact ⟨rfl,l,l,rfl,sQ,dE,iF⟩
  ·exact ⟨rfl,0,k,rfl,by lia,by lia,by lia,fun i hi=>by lia,fun i z1 z2=>by lia⟩
  ·rintro c st2 ⟨rfl,l,r,rfl,sR,dE,iF⟩;show wpS _ _ _ _ (do moveDown' (lo+k) (lo+l);pure (ForInStep.yield (none,()))) _ _;rw [moveDown'_eq];have C7:lo+k < (arrOf st2).size:=by rw [B'.size];lia
   refine wpS_bind (wpS_modify (wpS_pure ⟨rfl,B'.arr (bubble_perm _ _ _),O'.trans ⟨fun z hz=>?_,rfl⟩,?_⟩))
   ·show (bubble (arrOf st2) (lo+k) (lo+k - (lo+l)))[z]?=_;rw [getElem?_bubble C7 _ (by lia),zAu (by lia),zAu (by lia)]
   ·rw [show min (k+1) n=k+1 by lia];intro i j hi ck hj;show κ.kle (KK κ (bubble (arrOf st2) (lo+k) (lo+k - (lo+l))) i) (KK κ (bubble (arrOf st2) (lo+k) (lo+k - (lo+l))) j);rw [KK_bubble C7 (by lia),KK_bubble C7 (by lia),show lo+k - (lo+k - (lo+l))=lo+l by lia]
    have C8:∀ z,lo<=z->z < lo+l->κ.kle (KK κ (arrOf st2) z) (KK κ (arrOf st2) (lo+k)):=fun z z1 z2=>by
     have:=dE (z - lo) (by lia);rw [show lo+(z - lo)=z by lia] at this;exact this
    have C9:∀ z,lo+l<=z->z < lo+k->κ.kle (KK κ (arrOf st2) (lo+k)) (KK κ (arrOf st2) z):=fun z z1 z2=>by
     have:=iF (z - lo) (by lia) (by lia);rw [show lo+(z - lo)=z by lia] at this;exact KeyOrd.kle_of_klt this
    repeat' split
    all_goals first
     | (exfalso;lia)
     | exact KeyOrd.kle_refl _
     | exact C8 _ (by lia) (by lia)
     | exact C9 _ (by lia) (by lia)
     | exact cb _ _ (by lia) (by lia) (by lia)
 ·rintro c st' ⟨hc,B',O',cb⟩;refine ⟨hc,B',O',?_⟩
  rwa [show min (max (max ok 1) n) n=n by lia] at cb
 ·refine ⟨rfl,B,Out.refl _ _ _,fun i j hi ck hj=>?_⟩;by_cases z:ok=0
  ·have e:i=j:=by lia
   rw [e];exact KeyOrd.kle_refl _
  ·exact hs i j hi ck (by lia)
 ·rintro c st' ⟨rfl,B',O',cb⟩;exact wpS_pure (h st' B' O' cb)
end
section
variable {α:Type}{le:α->α->Prop}
structure MI (le:α->α->Prop)(la lb lo:List α)(ia ib:Nat):Prop where
 pm:lo.Perm (la.take ia++lb.take ib)
 sr:lo.Pairwise le
 be:∀ x∈lo,∀ y,y∈la.drop ia\/y∈lb.drop ib->le x y
theorem gw {l:List α}{i j:Nat}{y:α}(ck:i<=j)(h:y∈l.drop j):y∈l.drop i:=by
 have:l.drop j=(l.drop i).drop (j - i):=by rw [List.drop_drop];congr 1;lia
 rw [this] at h;exact List.mem_of_mem_drop h
theorem uM {l:List α}(h:l.Pairwise le){i j:Nat}(ck:i<=j):∀ x∈(l.drop i).take (j - i),∀ y∈l.drop j,le x y:=by
 have e:l.drop i=(l.drop i).take (j - i)++l.drop j:=by
  have:=zB9 (j - i) (l.drop i);rw [List.drop_drop] at this;rw [show i+(j - i)=j by lia] at this;exact this.symm
 have hp:(l.drop i).Pairwise le:=h.sublist (List.drop_sublist _ _);rw [e] at hp;exact fun x hx y hy=>(List.pairwise_append.mp hp).2.2 x hx y hy
theorem oK (l:List α)(i k:Nat):l.take (i+k)=l.take i++(l.drop i).take k:=List.take_add
theorem MI.segA {la lb lo:List α}{ia ib k:Nat}(m:MI le la lb lo ia ib)(sa:la.Pairwise le)(h:∀ x∈(la.drop ia).take k,∀ y∈lb.drop ib,le x y):MI le la lb (lo++(la.drop ia).take k) (ia+k) ib:=by
 refine ⟨?_,List.pairwise_append.mpr ⟨m.sr,(sa.sublist (List.drop_sublist _ _)).sublist (List.take_sublist _ _),fun x hx y hy=>m.be x hx y (.inl (List.mem_of_mem_take hy))⟩,fun x hx y hy=>?_⟩
 ·rw [oK];refine (m.pm.append_right _).trans ?_;rw [zAf,zAf];exact List.Perm.append_left _ (List.perm_append_comm)
 ·rcases zA6.mp hx with z | z
  ·exact m.be x z y (hy.imp (gw (by lia)) id)
  ·rcases hy with hy | hy
   ·have:=uM sa (i:=ia) (j:=ia+k) (by lia) x (by rw [show ia+k - ia=k by lia];exact z) y hy;exact this
   ·exact h x z y hy
theorem MI.segB {la lb lo:List α}{ia ib k:Nat}(m:MI le la lb lo ia ib)(sb:lb.Pairwise le)(h:∀ x∈(lb.drop ib).take k,∀ y∈la.drop ia,le x y):MI le la lb (lo++(lb.drop ib).take k) ia (ib+k):=by
 refine ⟨?_,List.pairwise_append.mpr ⟨m.sr,(sb.sublist (List.drop_sublist _ _)).sublist (List.take_sublist _ _),fun x hx y hy=>m.be x hx y (.inr (List.mem_of_mem_take hy))⟩,fun x hx y hy=>?_⟩
 ·rw [oK];refine (m.pm.append_right _).trans ?_;rw [zAf]
 ·rcases zA6.mp hx with z | z
  ·exact m.be x z y (hy.imp id (gw (by lia)))
  ·rcases hy with hy | hy
   ·exact h x z y hy
   ·have:=uM sb (i:=ib) (j:=ib+k) (by lia) x (by rw [show ib+k - ib=k by lia];exact z) y hy;exact this
structure Done (le:α->α->Prop)(la lb lo:List α):Prop where
 pm:lo.Perm (la++lb)
 sr:lo.Pairwise le
theorem MI.endB {la lb lo:List α}{ia ib:Nat}(m:MI le la lb lo ia ib)(sa:la.Pairwise le)(hb:lb.length<=ib):Done le la lb (lo++la.drop ia++lb.drop ib):=by
 have e:lb.drop ib=[]:=List.drop_of_length_le hb;have e2:lb.take ib=lb:=List.take_of_length_le hb;rw [e,zAn];refine ⟨?_,List.pairwise_append.mpr ⟨m.sr,sa.sublist (List.drop_sublist _ _),fun x hx y hy=>m.be x hx y (.inl hy)⟩⟩;have:=m.pm;rw [e2] at this;refine (this.append_right _).trans ?_;rw [zAf];refine (List.Perm.append_left _ List.perm_append_comm).trans ?_;rw [<- zAf,zB9]
theorem MI.endA {la lb lo:List α}{ia ib:Nat}(m:MI le la lb lo ia ib)(sb:lb.Pairwise le)(ha:la.length<=ia):Done le la lb (lo++la.drop ia++lb.drop ib):=by
 have e:la.drop ia=[]:=List.drop_of_length_le ha;have e2:la.take ia=la:=List.take_of_length_le ha;rw [e,zAn];refine ⟨?_,List.pairwise_append.mpr ⟨m.sr,sb.sublist (List.drop_sublist _ _),fun x hx y hy=>m.be x hx y (.inr hy)⟩⟩;have:=m.pm;rw [e2] at this;refine (this.append_right _).trans ?_;rw [zAf,zB9]
theorem MI.last {la lb lo:List α}{ia ib:Nat}(m:MI le la lb lo ia ib)(sa:la.Pairwise le)(sb:lb.Pairwise le)(h:∀ y∈lb.drop ib,∀ x∈la.drop ia,le y x):Done le la lb (lo++lb.drop ib++la.drop ia):=by
 refine ⟨?_,List.pairwise_append.mpr ⟨List.pairwise_append.mpr ⟨m.sr,sb.sublist (List.drop_sublist _ _),fun x hx y hy=>m.be x hx y (.inr hy)⟩,sa.sublist (List.drop_sublist _ _),fun x hx y hy=>?_⟩⟩
 ·refine ((m.pm.append_right _).append_right _).trans ?_
  have e:(la.take ia++lb.take ib++lb.drop ib++la.drop ia)=la.take ia++(lb++la.drop ia):=by
   rw [zAf (la.take ia),zB9,zAf]
  rw [e];refine (List.Perm.append_left _ List.perm_append_comm).trans ?_;rw [<- zAf,zB9]
 ·rcases zA6.mp hx with z | z
  ·exact m.be x z y (.inl hy)
  ·exact h x z y hy
end
def iV:Array Keyed->Array Keyed->Sm (Array Keyed):=sortPriv% PySem.Builtin.mergeLo
def iW:Nat->Sm Unit:=sortPriv% PySem.Builtin.setMinGallop
abbrev C1:=Option (Array Keyed)×Array Keyed×Nat×Nat×Nat×Nat
abbrev C2:=Option (Array Keyed)×Array Keyed×Nat×Nat×Nat×Nat×Nat
abbrev C0:=Option (Array Keyed)×Array Keyed×Nat×Nat×Nat
def one (a b:Array Keyed)(g:Nat)(out:Array Keyed)(ia ib ac bc:Nat):Sm (ForInStep C1):=do
 let y <- elem' b ib
 let x <- elem' a ia
 let r <- lt' y x
 match r with
 | some w =>
  if w=true then do
   let y <- elem' b ib
   if (ib+1 == b.size)=true then pure (ForInStep.done (some (out.push y++a.extract ia a.size++b.extract (ib+1) b.size),out.push y,ia,ib+1,0,bc+1))
   else if bc+1 ≥ g then pure (ForInStep.done (none,out.push y,ia,ib+1,0,bc+1)) else pure (ForInStep.yield (none,out.push y,ia,ib+1,0,bc+1))
  else do
   let x <- elem' a ia
   if (ia+1+1 == a.size)=true then pure (ForInStep.done (some (out.push x++b.extract ib b.size++a.extract (ia+1) a.size),out.push x,ia+1,ib,ac+1,0))
   else if ac+1 ≥ g then pure (ForInStep.done (none,out.push x,ia+1,ib,ac+1,0)) else pure (ForInStep.yield (none,out.push x,ia+1,ib,ac+1,0))
 | _=>pure (ForInStep.done (some (out++a.extract ia a.size++b.extract ib b.size),out,ia,ib,ac,bc))
def gl4 (a b:Array Keyed)(out:Array Keyed)(ia ib g k k1:Nat):Sm (ForInStep C2):=do
 let x <- elem' a ia
 if (ia+1+1 == a.size)=true then pure (ForInStep.done (some (out.push x++b.extract ib b.size++a.extract (ia+1) a.size),out.push x,ia+1,ib,g,k,k1))
 else if (decide (k < 7) && decide (k1 < 7))=true then pure (ForInStep.done (none,out.push x,ia+1,ib,g,k,k1)) else pure (ForInStep.yield (none,out.push x,ia+1,ib,g,k,k1))
def gl3 (a b:Array Keyed)(out:Array Keyed)(ia ib g k bc:Nat):Sm (ForInStep C2):=do
 let x <- elem' a ia
 let r <- fc true x b ib (b.size - ib) 0
 match r with
 | some k1 =>
  if k1 > 0 then
   if (ib+k1 == b.size)=true then pure (ForInStep.done (some (out++b.extract ib (ib+k1)++a.extract ia a.size++b.extract (ib+k1) b.size),out++b.extract ib (ib+k1),ia,ib+k1,g,k,k1))
   else gl4 a b (out++b.extract ib (ib+k1)) ia (ib+k1) g k k1
  else gl4 a b out ia ib g k k1
 | _=>pure (ForInStep.done (some (out++a.extract ia a.size++b.extract ib b.size),out,ia,ib,g,k,bc))
def gl2 (a b:Array Keyed)(out:Array Keyed)(ia ib g k bc:Nat):Sm (ForInStep C2):=do
 let y <- elem' b ib
 if (ib+1 == b.size)=true then pure (ForInStep.done (some (out.push y++a.extract ia a.size++b.extract (ib+1) b.size),out.push y,ia,ib+1,g,k,bc))
 else gl3 a b (out.push y) ia (ib+1) g k bc
def gl1 (a b:Array Keyed)(out:Array Keyed)(ia ib g ac bc:Nat):Sm (ForInStep C2):=do
 iW g
 let y <- elem' b ib
 let r <- fc false y a ia (a.size - ia) 0
 match r with
 | some k =>
  if k > 0 then
   if (ia+k+1 == a.size)=true then pure (ForInStep.done (some (out++a.extract ia (ia+k)++b.extract ib b.size++a.extract (ia+k) a.size),out++a.extract ia (ia+k),ia+k,ib,g,k,bc))
   else if (ia+k == a.size)=true then pure (ForInStep.done (some (out++a.extract ia (ia+k)++a.extract (ia+k) a.size++b.extract ib b.size),out++a.extract ia (ia+k),ia+k,ib,g,k,bc))
   else gl2 a b (out++a.extract ia (ia+k)) (ia+k) ib g k bc
  else gl2 a b out ia ib g k bc
 | _=>pure (ForInStep.done (some (out++a.extract ia a.size++b.extract ib b.size),out,ia,ib,g,ac,bc))
def gal (a b:Array Keyed)(out:Array Keyed)(ia ib g ac bc:Nat):Sm (ForInStep C2):=if g > 1 then gl1 a b out ia ib (g - 1) ac bc else gl1 a b out ia ib g ac bc
def round (a b:Array Keyed)(out:Array Keyed)(ia ib g:Nat):Sm (ForInStep C0):=do
 let c <- forIn [0:a.size+b.size] ((none,out,ia,ib,0,0):C1) fun _ c=>one a b g c.2.1 c.2.2.1 c.2.2.2.1 c.2.2.2.2.1 c.2.2.2.2.2
 match c.1 with
 | some r=>pure (ForInStep.done (some r,c.2.1,c.2.2.1,c.2.2.2.1,g))
 | none=>do
  liftM (rule "list.sort.gallop")
  let d <- forIn [0:a.size+b.size] ((none,c.2.1,c.2.2.1,c.2.2.2.1,g+1,c.2.2.2.2.1,c.2.2.2.2.2):C2) fun _ d=>gal a b d.2.1 d.2.2.1 d.2.2.2.1 d.2.2.2.2.1 d.2.2.2.2.2.1 d.2.2.2.2.2.2
  match d.1 with
  | some r=>pure (ForInStep.done (some r,d.2.1,d.2.2.1,d.2.2.2.1,d.2.2.2.2.1))
  | none=>do
   iW (d.2.2.2.2.1+1)
   pure (ForInStep.yield (none,d.2.1,d.2.2.1,d.2.2.2.1,d.2.2.2.2.1+1))
theorem fi {β:Type}{r:Std.Legacy.Range}{c:β}{f f':Nat->β->Sm (ForInStep β)}(h:f=f'):(forIn r c f:Sm β)=forIn r c f':=by rw [h]
theorem ic {α:Type}{c:Prop}[Decidable c]{x x' y y':α}(h:x=x')(h':y=y'):(if c then x else y)=if c then x' else y':=by rw [h,h']
theorem FZ (a b:Array Keyed):iV a b=(do
  liftM (rule "list.sort.merge-lo")
  let e <- elem' b 0
  if (1 == b.size)=true then pure (#[e]++a.extract 0 a.size++b.extract 1 b.size)
  else if (0+1 == a.size)=true then pure (#[e]++b.extract 1 b.size++a.extract 0 a.size)
  else do
   let s <- get
   let c <- forIn [0:a.size+b.size] ((none,#[e],0,1,gallopOf s):C0) fun _ c=>round a b c.2.1 c.2.2.1 c.2.2.2.1 c.2.2.2.2
   match c.1 with
   | some r=>pure r
   | none=>liftM (unsupported "internal:list.sort.merge-bound")):=by
 delta iV
 refine bc rfl (funext fun u=>bc rfl (funext fun e=>ic rfl (ic rfl (bc rfl (funext fun s=>bc (fi (funext fun x=>funext fun c=>?_)) (funext fun c=>?_))))))
 ·unfold round;refine bc (fi (funext fun x=>funext fun c1=>?_)) (funext fun c1=>?_)
  ·unfold one;refine bc rfl (funext fun y=>bc rfl (funext fun x=>bc rfl (funext fun r=>?_)))
   cases r with
   | none=>rfl
   | some w=>exact ic (bc rfl (funext fun y=>ic rfl (ic rfl rfl))) (bc rfl (funext fun y=>ic rfl (ic rfl rfl)))
  ·obtain ⟨r,c1⟩:=c1
   cases r with
   | some r=>rfl
   | none =>
    refine bc rfl (funext fun u=>bc (fi (funext fun x=>funext fun d=>?_)) (funext fun d=>?_))
    ·unfold gal;refine ic ?_ ?_
     ·unfold gl1;exact bc rfl (funext fun u=>bc rfl (funext fun y=>bc rfl (funext fun r=>by cases r with | none=>rfl | some k=>exact ic (ic rfl (ic rfl (by unfold gl2;exact bc rfl (funext fun y=>ic rfl (by unfold gl3;exact bc rfl (funext fun x=>bc rfl (funext fun r=>by cases r with | none=>rfl | some k1=>exact ic (ic rfl (by unfold gl4;exact bc rfl (funext fun x=>ic rfl (ic rfl rfl)))) (by unfold gl4;exact bc rfl (funext fun x=>ic rfl (ic rfl rfl)))))))))) (by unfold gl2;exact bc rfl (funext fun y=>ic rfl (by unfold gl3;exact bc rfl (funext fun x=>bc rfl (funext fun r=>by cases r with | none=>rfl | some k1=>exact ic (ic rfl (by unfold gl4;exact bc rfl (funext fun x=>ic rfl (ic rfl rfl)))) (by unfold gl4;exact bc rfl (funext fun x=>ic rfl (ic rfl rfl)))))))))))
     ·unfold gl1;exact bc rfl (funext fun u=>bc rfl (funext fun y=>bc rfl (funext fun r=>by cases r with | none=>rfl | some k=>exact ic (ic rfl (ic rfl (by unfold gl2;exact bc rfl (funext fun y=>ic rfl (by unfold gl3;exact bc rfl (funext fun x=>bc rfl (funext fun r=>by cases r with | none=>rfl | some k1=>exact ic (ic rfl (by unfold gl4;exact bc rfl (funext fun x=>ic rfl (ic rfl rfl)))) (by unfold gl4;exact bc rfl (funext fun x=>ic rfl (ic rfl rfl)))))))))) (by unfold gl2;exact bc rfl (funext fun y=>ic rfl (by unfold gl3;exact bc rfl (funext fun x=>bc rfl (funext fun r=>by cases r with | none=>rfl | some k1=>exact ic (ic rfl (by unfold gl4;exact bc rfl (funext fun x=>ic rfl (ic rfl rfl)))) (by unfold gl4;exact bc rfl (funext fun x=>ic rfl (ic rfl rfl)))))))))))
    ·obtain ⟨r,d⟩:=d;cases r <;> rfl
 ·obtain ⟨r,c⟩:=c;cases r <;> rfl
def key (κ:PyProof.Rows.KeyKind)(p:Keyed):κ.α:=(κ.keyOf p.1).getD κ.dflt
def leK (κ:PyProof.Rows.KeyKind)(x y:Keyed):Prop:=κ.kle (key κ x) (key κ y)
theorem dh {κ:PyProof.Rows.KeyKind}{x y z:Keyed}(h:leK κ x y)(h':leK κ y z):leK κ x z:=KeyOrd.kle_trans h h'
structure SG (st st':SortSt):Prop where
 kind:kindOf st'=kindOf st
 arr:arrOf st'=arrOf st
 pend:pendingOf st'=pendingOf st
 fail:failedOf st'=failedOf st
theorem SG.refl (st:SortSt):SG st st:=⟨rfl,rfl,rfl,rfl⟩
structure Two (κ:PyProof.Rows.KeyKind)(a b:Array Keyed):Prop where
 ka:KeysOf κ a
 kb:KeysOf κ b
 sa:a.toList.Pairwise (leK κ)
 sb:b.toList.Pairwise (leK κ)
theorem item {κ:PyProof.Rows.KeyKind}{a:Array Keyed}(ka:KeysOf κ a){i:Nat}(hi:i < a.size):∃ p,a[i]?=some p/\κ.keyOf p.1=some (key κ p)/\KK κ a i=key κ p/\a.toList.drop i=p::a.toList.drop (i+1):=by
 have e:a[i]?=some a[i]:=Array.getElem?_eq_getElem hi;obtain ⟨k,hk⟩:=ka a[i] (Array.mem_toList_iff.mpr (Array.getElem_mem hi))
 have ek:key κ a[i]=k:=by
  unfold key;rw [hk];rfl
 refine ⟨a[i],e,by rw [ek];exact hk,?_,?_⟩
 ·unfold KK;rw [e,ek];dsimp only;rw [hk];rfl
 ·have:=List.drop_eq_getElem_cons (l:=a.toList) (i:=i) (by simpa using hi);rw [this];simp
theorem iY {κ:PyProof.Rows.KeyKind}{l r:List Keyed}{p:Keyed}{i:Nat}(h:l.Pairwise (leK κ))(e:l.drop i=p::r):∀ y∈l.drop i,leK κ p y:=by
 have hp:=h.sublist (List.drop_sublist i l);rw [e] at hp ⊢;intro y hy;rcases zAo.mp hy with z | z
 ·rw [z];exact KeyOrd.kle_refl _
 ·exact (List.pairwise_cons.mp hp).1 y z
theorem fG (a:Array Keyed)(i j:Nat):(a.extract i j).toList=(a.toList.drop i).take (j - i):=by
 rw [Array.toList_extract]
theorem gM (a:Array Keyed)(i:Nat):(a.extract i a.size).toList=a.toList.drop i:=by
 rw [fG];refine List.take_of_length_le ?_;rw [List.length_drop,zA9];exact zA3 _
theorem iZ {κ:PyProof.Rows.KeyKind}{a:Array Keyed}(ka:KeysOf κ a){i k:Nat}{x:Keyed}(h:x∈(a.toList.drop i).take k):∃ j,j < k/\i+j < a.size/\KK κ a (i+j)=key κ x:=by
 obtain ⟨j,hj,rfl⟩:=List.getElem_of_mem h;rw [zAd,List.length_drop,zA9] at hj;refine ⟨j,by lia,by lia,?_⟩;obtain ⟨p,e1,e2,e3,e4⟩:=item ka (i:=i+j) (by lia);rw [e3,List.getElem_take,List.getElem_drop]
 have:a.toList[i+j]?=some p:=by
  rw [Array.getElem?_toList];exact e1
 rw [zA0 (by rw [zA9];lia)] at this;rw [zAl this]
theorem mj {κ:PyProof.Rows.KeyKind}{a:Array Keyed}(ka:KeysOf κ a){i:Nat}{x:Keyed}(h:x∈a.toList.drop i):∃ j,i<=j/\j < a.size/\KK κ a j=key κ x:=by
 have h':x∈(a.toList.drop i).take (a.toList.drop i).length:=by rw [zAm];exact h
 obtain ⟨j,_,h2,h3⟩:=iZ ka h';exact ⟨i+j,by lia,h2,h3⟩
theorem j5 {κ:PyProof.Rows.KeyKind}{a:Array Keyed}(ka:KeysOf κ a)(sa:a.toList.Pairwise (leK κ)){i j:Nat}(ck:i<=j)(hj:j < a.size):κ.kle (KK κ a i) (KK κ a j):=by
 obtain ⟨p,_,_,e3,e4⟩:=item ka (i:=i) (by lia);obtain ⟨q,_,_,f3,f4⟩:=item ka (i:=j) hj;rw [e3,f3];refine iY sa e4 q ?_;have:q∈a.toList.drop j:=by rw [f4];exact List.mem_cons_self
 exact gw ck this
section
variable {prog:Program}{w:World}{A:Around}{E:Value->Shared->Prop}{s:Shared}{κ:PyProof.Rows.KeyKind}{ks:SortKind}{a b:Array Keyed}
theorem gO {g:Nat}{Q:Unit->SortSt->Prop}{st:SortSt}(h:∀ st',SG st st'->Q () st'):wpS (model prog w) A E s (iW g) Q st:=wpS_modify (h _ ⟨rfl,rfl,rfl,rfl⟩)
structure At (κ:PyProof.Rows.KeyKind)(a b out:Array Keyed)(ia ib:Nat):Prop where
 mi:MI (leK κ) a.toList b.toList out.toList ia ib
 ha:ia+1 < a.size
 hb:ib < b.size
theorem At.pushA {out:Array Keyed}{ia ib:Nat}{x:Keyed}(T:Two κ a b)(m:MI (leK κ) a.toList b.toList out.toList ia ib)(e:a.toList.drop ia=x::a.toList.drop (ia+1))(h:∀ y∈b.toList.drop ib,leK κ x y) :
  MI (leK κ) a.toList b.toList (out.push x).toList (ia+1) ib:=by
 have:=m.segA (k:=1) T.sa fun z hz y hy=>by
  rw [e] at hz;have:z=x:=by simpa using hz
  rw [this];exact h y hy
 rw [e] at this;rw [Array.toList_push];exact this
theorem At.pushB {out:Array Keyed}{ia ib:Nat}{x:Keyed}(T:Two κ a b)(m:MI (leK κ) a.toList b.toList out.toList ia ib)(e:b.toList.drop ib=x::b.toList.drop (ib+1))(h:∀ y∈a.toList.drop ia,leK κ x y) :
  MI (leK κ) a.toList b.toList (out.push x).toList ia (ib+1):=by
 have:=m.segB (k:=1) T.sb fun z hz y hy=>by
  rw [e] at hz;have:z=x:=by simpa using hz
  rw [this];exact h y hy
 rw [e] at this;rw [Array.toList_push];exact this
theorem At.segA {out:Array Keyed}{ia ib k:Nat}(T:Two κ a b)(m:MI (leK κ) a.toList b.toList out.toList ia ib)(h:∀ x∈(a.toList.drop ia).take k,∀ y∈b.toList.drop ib,leK κ x y):MI (leK κ) a.toList b.toList (out++a.extract ia (ia+k)).toList (ia+k) ib:=by
 have:=m.segA (k:=k) T.sa h;rw [Array.toList_append,fG,show ia+k - ia=k by lia];exact this
theorem At.segB {out:Array Keyed}{ia ib k:Nat}(T:Two κ a b)(m:MI (leK κ) a.toList b.toList out.toList ia ib)(h:∀ x∈(b.toList.drop ib).take k,∀ y∈a.toList.drop ia,leK κ x y):MI (leK κ) a.toList b.toList (out++b.extract ib (ib+k)).toList ia (ib+k):=by
 have:=m.segB (k:=k) T.sb h;rw [Array.toList_append,fG,show ib+k - ib=k by lia];exact this
abbrev Rs (κ:PyProof.Rows.KeyKind)(a b:Array Keyed)(r:Array Keyed):Prop:=Done (leK κ) a.toList b.toList r.toList
def gY (κ:PyProof.Rows.KeyKind)(a b:Array Keyed):Prop:=∀ y∈b.toList,∀ x∈a.toList.drop (a.size - 1),leK κ y x
theorem uN {out:Array Keyed}{ia ib:Nat}(T:Two κ a b)(m:MI (leK κ) a.toList b.toList out.toList ia ib)(h:ib=b.size):Rs κ a b (out++a.extract ia a.size++b.extract ib b.size):=by
 have:=m.endB T.sa (by rw [zA9];lia);unfold Rs;rw [Array.toList_append,Array.toList_append,gM,gM];exact this
theorem G3 {out:Array Keyed}{ia ib:Nat}(T:Two κ a b)(m:MI (leK κ) a.toList b.toList out.toList ia ib)(h:ia=a.size):Rs κ a b (out++a.extract ia a.size++b.extract ib b.size):=by
 have:=m.endA T.sb (by rw [zA9];lia);unfold Rs;rw [Array.toList_append,Array.toList_append,gM,gM];exact this
theorem uO {out:Array Keyed}{ia ib:Nat}(T:Two κ a b)(L:gY κ a b)(m:MI (leK κ) a.toList b.toList out.toList ia ib)(h:ia+1=a.size):Rs κ a b (out++b.extract ib b.size++a.extract ia a.size):=by
 have:=m.last T.sa T.sb fun y hy x hx=>L y (List.mem_of_mem_drop hy) x (by rw [show a.size - 1=ia by lia];exact hx);unfold Rs;rw [Array.toList_append,Array.toList_append,gM,gM];exact this
theorem tU (hL:LtAll prog w A E s κ ks)(T:Two κ a b)(L:gY κ a b){g ia ib ac bc:Nat}{out:Array Keyed}{st:SortSt}(hk:kindOf st=ks)(m:At κ a b out ia ib) :
  wpS (model prog w) A E s (one a b g out ia ib ac bc) (fun r st'=>st'=st/\match r with
   | .done c=>(∃ z,c.1=some z/\Rs κ a b z)\/(c.1=none/\At κ a b c.2.1 c.2.2.1 c.2.2.2.1/\ia+ib+1=c.2.2.1+c.2.2.2.1)
   | .yield c=>c.1=none/\At κ a b c.2.1 c.2.2.1 c.2.2.2.1/\ia+ib+1=c.2.2.1+c.2.2.2.1) st:=by
 obtain ⟨x,x1,x2,x3,x4⟩:=item T.ka (i:=ia) (by have:=m.ha;lia);obtain ⟨y,y1,y2,y3,y4⟩:=item T.kb m.hb;unfold one;refine wpS_bind (bj y1 (wpS_bind (bj x1 (wpS_bind (hL st hk _ _ _ _ _ y2 x2 ?_)))))
 cases e:κ.blt (key κ y) (key κ x) with
 | true =>
  dsimp only;rw [if_pos rfl];refine wpS_bind (bj y1 ?_);have m':=At.pushB T m.mi y4 fun z hz=>dh (KeyOrd.kle_of_klt e) (iY T.sa x4 z hz);by_cases hb:ib+1=b.size
  ·rw [if_pos (by simpa using hb)];exact wpS_pure ⟨rfl,.inl ⟨_,rfl,uN T m' hb⟩⟩
  ·rw [if_neg (by simpa using hb)]
   have at':At κ a b (out.push y) ia (ib+1):=⟨m',m.ha,by have:=m.hb;lia⟩
   split
   ·exact wpS_pure ⟨rfl,.inr ⟨rfl,at',by dsimp only;lia⟩⟩
   ·exact wpS_pure ⟨rfl,rfl,at',by dsimp only;lia⟩
 | false =>
  dsimp only;rw [if_neg (by decide)];refine wpS_bind (bj x1 ?_);have m':=At.pushA T m.mi x4 fun z hz=>dh (show leK κ x y from e) (iY T.sb y4 z hz);by_cases ha:ia+1+1=a.size
  ·rw [if_pos (by simpa using ha)];exact wpS_pure ⟨rfl,.inl ⟨_,rfl,uO T L m' ha⟩⟩
  ·rw [if_neg (by simpa using ha)]
   have at':At κ a b (out.push x) (ia+1) ib:=⟨m',by have:=m.ha;lia,m.hb⟩
   split
   ·exact wpS_pure ⟨rfl,.inr ⟨rfl,at',by dsimp only;lia⟩⟩
   ·exact wpS_pure ⟨rfl,rfl,at',by dsimp only;lia⟩
def G2 (κ:PyProof.Rows.KeyKind)(a b:Array Keyed)(n:Nat)(st:SortSt)(r:ForInStep C2)(st':SortSt):Prop:=SG st st'/\match r with
 | .done c=>(∃ z,c.1=some z/\Rs κ a b z)\/(c.1=none/\At κ a b c.2.1 c.2.2.1 c.2.2.2.1/\n<=c.2.2.1+c.2.2.2.1)
 | .yield c=>c.1=none/\At κ a b c.2.1 c.2.2.1 c.2.2.2.1/\n<=c.2.2.1+c.2.2.2.1
theorem mq (T:Two κ a b)(L:gY κ a b){g ia ib k k1 n:Nat}{out:Array Keyed}{bp st:SortSt}(sg:SG bp st)(m:At κ a b out ia ib)(hn:n<=ia+ib+1)(h:∀ y∈b.toList.drop ib,∀ x,a[ia]?=some x->leK κ x y) :
  wpS (model prog w) A E s (gl4 a b out ia ib g k k1) (G2 κ a b n bp) st:=by
 obtain ⟨x,x1,x2,x3,x4⟩:=item T.ka (i:=ia) (by have:=m.ha;lia);unfold gl4;refine wpS_bind (bj x1 ?_);have m':=At.pushA T m.mi x4 fun z hz=>h z hz x x1;by_cases ha:ia+1+1=a.size
 ·rw [if_pos (by simpa using ha)];exact wpS_pure ⟨sg,.inl ⟨_,rfl,uO T L m' ha⟩⟩
 ·rw [if_neg (by simpa using ha)]
  have at':At κ a b (out.push x) (ia+1) ib:=⟨m',by have:=m.ha;lia,m.hb⟩
  split
  ·exact wpS_pure ⟨sg,.inr ⟨rfl,at',by dsimp only;lia⟩⟩
  ·exact wpS_pure ⟨sg,rfl,at',by dsimp only;lia⟩
theorem tV (hL:LtAll prog w A E s κ ks)(T:Two κ a b)(L:gY κ a b){g ia ib k bc n:Nat}{out:Array Keyed}{bp st:SortSt}(hk:kindOf st=ks)(sg:SG bp st)(m:At κ a b out ia ib)(hn:n<=ia+ib+1) :
  wpS (model prog w) A E s (gl3 a b out ia ib g k bc) (G2 κ a b n bp) st:=by
 obtain ⟨x,x1,x2,x3,x4⟩:=item T.ka (i:=ia) (by have:=m.ha;lia);have hb:=m.hb;unfold gl3;refine wpS_bind (bj x1 ?_);refine wpS_bind (dD (κ:=κ) (kk:=key κ x) (hL st hk) x2 (by lia) (fun i hi=>?_) (fun i j ck hj iA=>?_) fun k1 kn kt kf=>?_)
 ·obtain ⟨p,p1,p2,p3,_⟩:=item T.kb (i:=ib+i) (by lia);exact ⟨p,_,p1,p2,p3⟩
 ·have mono:=j5 T.kb T.sb (i:=ib+i) (j:=ib+j) (by lia) (by lia);exact KeyOrd.klt_of_kle_of_klt mono iA
 ·have gz:∀ y∈b.toList.drop (ib+k1),∀ z,a[ia]?=some z->leK κ z y:=fun y hy z hz=>by
   rw [x1] at hz;cases hz;obtain ⟨j,j1,j2,j3⟩:=mj T.kb hy;have:=kf (j - ib) (by lia) (by lia);rw [show ib+(j - ib)=j by lia,j3] at this;exact this
  by_cases h0:k1 > 0
  ·dsimp only;rw [if_pos h0]
   have m':=At.segB (k:=k1) T m.mi fun z hz y hy=>by
    obtain ⟨j,j1,j2,j3⟩:=iZ T.kb hz;have:=kt j j1;rw [j3] at this;exact dh (KeyOrd.kle_of_klt this) (iY T.sa x4 y hy)
   by_cases e:ib+k1=b.size
   ·rw [if_pos (by simpa using e)];exact wpS_pure ⟨sg,.inl ⟨_,rfl,uN T m' e⟩⟩
   ·rw [if_neg (by simpa using e)];exact mq T L sg ⟨m',m.ha,by lia⟩ (by lia) gz
  ·dsimp only;rw [if_neg h0];have e:k1=0:=by lia
   rw [e] at gz;exact mq T L sg m hn gz
theorem my (hL:LtAll prog w A E s κ ks)(T:Two κ a b)(L:gY κ a b){g ia ib k bc n:Nat}{out:Array Keyed}{bp st:SortSt}(hk:kindOf st=ks)(sg:SG bp st)(m:At κ a b out ia ib)(hn:n<=ia+ib+1)(h:∀ x∈a.toList.drop ia,∀ y,b[ib]?=some y->leK κ y x) :
  wpS (model prog w) A E s (gl2 a b out ia ib g k bc) (G2 κ a b n bp) st:=by
 obtain ⟨y,y1,y2,y3,y4⟩:=item T.kb m.hb;unfold gl2;refine wpS_bind (bj y1 ?_);have m':=At.pushB T m.mi y4 fun z hz=>h z hz y y1;by_cases hb:ib+1=b.size
 ·rw [if_pos (by simpa using hb)];exact wpS_pure ⟨sg,.inl ⟨_,rfl,uN T m' hb⟩⟩
 ·rw [if_neg (by simpa using hb)];exact tV hL T L hk sg ⟨m',m.ha,by have:=m.hb;lia⟩ (by lia)
theorem tX (hL:LtAll prog w A E s κ ks)(T:Two κ a b)(L:gY κ a b){g ia ib ac bc n:Nat}{out:Array Keyed}{bp st:SortSt}(hk:kindOf st=ks)(sg:SG bp st)(m:At κ a b out ia ib)(hn:n<=ia+ib+1) :
  wpS (model prog w) A E s (gl1 a b out ia ib g ac bc) (G2 κ a b n bp) st:=by
 obtain ⟨y,y1,y2,y3,y4⟩:=item T.kb m.hb;have ha:=m.ha;unfold gl1;refine wpS_bind (gO fun st' fT=>?_);have dQ:kindOf st'=ks:=fT.kind.trans hk
 have bS:SG bp st':=⟨fT.kind.trans sg.kind,fT.arr.trans sg.arr,fT.pend.trans sg.pend,fT.fail.trans sg.fail⟩
 refine wpS_bind (bj y1 ?_);refine wpS_bind (dD (κ:=κ) (kk:=key κ y) (hL st' dQ) y2 (by lia) (fun i hi=>?_) (fun i j ck hj iA=>?_) fun k kn kt kf=>?_)
 ·obtain ⟨p,p1,p2,p3,_⟩:=item T.ka (i:=ia+i) (by lia);exact ⟨p,_,p1,p2,p3⟩
 ·have mono:=j5 T.ka T.sa (i:=ia+i) (j:=ia+j) (by lia) (by lia);have iA:(!κ.blt (key κ y) (KK κ a (ia+j)))=true:=iA;show (!κ.blt (key κ y) (KK κ a (ia+i)))=true;rw [Bool.not_eq_true'] at iA ⊢;exact KeyOrd.kle_trans mono iA
 ·have gz:∀ x∈a.toList.drop (ia+k),∀ z,b[ib]?=some z->leK κ z x:=fun x hx z hz=>by
   rw [y1] at hz;cases hz;obtain ⟨j,j1,j2,j3⟩:=mj T.ka hx;have:=kf (j - ia) (by lia) (by lia);rw [show ia+(j - ia)=j by lia,j3] at this;have this:(!κ.blt (key κ y) (key κ x))=false:=this;rw [Bool.not_eq_false'] at this;exact KeyOrd.kle_of_klt this
  by_cases h0:k > 0
  ·dsimp only;rw [if_pos h0]
   have m':=At.segA (k:=k) T m.mi fun z hz x hx=>by
    obtain ⟨j,j1,j2,j3⟩:=iZ T.ka hz;have:=kt j j1;rw [j3] at this;have this:(!κ.blt (key κ y) (key κ z))=true:=this;rw [Bool.not_eq_true'] at this;exact dh (show leK κ z y from this) (iY T.sb y4 x hx)
   by_cases e:ia+k+1=a.size
   ·rw [if_pos (by simpa using e)];exact wpS_pure ⟨bS,.inl ⟨_,rfl,uO T L m' e⟩⟩
   ·rw [if_neg (by simpa using e)];by_cases e2:ia+k=a.size
    ·rw [if_pos (by simpa using e2)];exact wpS_pure ⟨bS,.inl ⟨_,rfl,G3 T m' e2⟩⟩
    ·rw [if_neg (by simpa using e2)];exact my hL T L dQ bS ⟨m',by lia,m.hb⟩ (by lia) gz
  ·dsimp only;rw [if_neg h0];have e:k=0:=by lia
   rw [e] at gz;exact my hL T L dQ bS m hn gz
theorem mz (hL:LtAll prog w A E s κ ks)(T:Two κ a b)(L:gY κ a b){g ia ib:Nat}{out:Array Keyed}{bp st:SortSt}(hk:kindOf st=ks)(sg:SG bp st)(m:At κ a b out ia ib) :
  wpS (model prog w) A E s (round a b out ia ib g) (fun r st'=>SG bp st'/\match r with
   | .done c=>∃ z,c.1=some z/\Rs κ a b z
   | .yield c=>c.1=none/\At κ a b c.2.1 c.2.2.1 c.2.2.2.1/\ia+ib+1<=c.2.2.1+c.2.2.2.1) st:=by
 unfold round;have K8:0 < a.size+b.size:=by have:=m.ha;lia
 refine wpS_bind (wpS_mono (wpS_forRange (I:=fun x c st'=>st'=st/\c.1=none/\At κ a b c.2.1 c.2.2.1 c.2.2.2.1/\ia+ib+x=c.2.2.1+c.2.2.2.1)
  (Q:=fun c st'=>st'=st/\((∃ z,c.1=some z/\Rs κ a b z)\/(c.1=none/\At κ a b c.2.1 c.2.2.1 c.2.2.2.1/\ia+ib+1<=c.2.2.1+c.2.2.2.1))) ?_ ?_ ⟨rfl,rfl,m,rfl⟩) ?_)
 ·rintro x ⟨c0,o,i,j,ac,bc⟩ st' _ hx ⟨rfl,rfl,m',e⟩;dsimp only at m' e ⊢;refine wpS_mono (tU hL T L hk m') fun r st2 h2=>?_;obtain ⟨rfl,h2⟩:=h2
  cases r with
  | done c =>
   rcases h2 with h2 | ⟨h2,h3,h4⟩
   ·exact ⟨rfl,.inl h2⟩
   ·exact ⟨rfl,.inr ⟨h2,h3,by lia⟩⟩
  | yield c =>
   obtain ⟨h2,h3,h4⟩:=h2;exact ⟨rfl,h2,h3,by lia⟩
 ·rintro c st' ⟨rfl,h1,h2,h3⟩;exact ⟨rfl,.inr ⟨h1,h2,by lia⟩⟩
 ·rintro ⟨c0,o,i,j,ac,bc⟩ st' ⟨rfl,h⟩;dsimp only at h ⊢;rcases h with ⟨z,rfl,hz⟩ | ⟨rfl,m',ck⟩
  ·exact wpS_pure ⟨sg,z,rfl,hz⟩
  ·dsimp only;refine wpS_bind (wpS_lift (wpAny_rule ⟨rfl,?_⟩))
   refine wpS_bind (wpS_mono (wpS_forRange (I:=fun x c st2=>SG bp st2/\c.1=none/\At κ a b c.2.1 c.2.2.1 c.2.2.2.1/\ia+ib+1<=c.2.2.1+c.2.2.2.1)
    (Q:=fun c st2=>SG bp st2/\((∃ z,c.1=some z/\Rs κ a b z)\/(c.1=none/\At κ a b c.2.1 c.2.2.1 c.2.2.2.1/\ia+ib+1<=c.2.2.1+c.2.2.2.1))) ?_ ?_ ⟨sg,rfl,m',ck⟩) ?_)
   ·rintro x ⟨c0,o,i,j,g2,ac,bc⟩ st2 _ hx ⟨bS,rfl,m2,e2⟩;dsimp only at m2 e2 ⊢;have xi:kindOf st2=ks:=bS.kind.trans (sg.kind.symm.trans hk);have go:∀ g',wpS (model prog w) A E s (gl1 a b o i j g' ac bc) (G2 κ a b (ia+ib+1) bp) st2:=fun g'=>tX hL T L xi bS m2 (by lia);unfold gal;split
    ·refine wpS_mono (go _) fun r fz h3=>?_;obtain ⟨h3,h4⟩:=h3
     cases r with
     | done c=>exact ⟨h3,h4⟩
     | yield c=>exact ⟨h3,h4⟩
    ·refine wpS_mono (go _) fun r fz h3=>?_;obtain ⟨h3,h4⟩:=h3
     cases r with
     | done c=>exact ⟨h3,h4⟩
     | yield c=>exact ⟨h3,h4⟩
   ·rintro c st2 ⟨h0,h1,h2,h3⟩;exact ⟨h0,.inr ⟨h1,h2,h3⟩⟩
   ·rintro ⟨c0,o,i,j,g2,ac,bc⟩ st2 ⟨bS,h⟩;dsimp only at h ⊢;rcases h with ⟨z,rfl,hz⟩ | ⟨rfl,m2,qh⟩
    ·exact wpS_pure ⟨bS,z,rfl,hz⟩
    ·dsimp only;refine wpS_bind (gO fun fz l7=>wpS_pure ⟨⟨l7.kind.trans bS.kind,l7.arr.trans bS.arr,l7.pend.trans bS.pend,l7.fail.trans bS.fail⟩,rfl,m2,qh⟩)
theorem G4 (hL:LtAll prog w A E s κ ks)(T:Two κ a b)(L:gY κ a b)(ha:0 < a.size)(hb:0 < b.size)(F:∀ x∈a.toList,∀ y,b[0]?=some y->leK κ y x){st:SortSt}(hk:kindOf st=ks){Q:Array Keyed->SortSt->Prop}
  (h:∀ r st',SG st st'->Rs κ a b r->Q r st'):wpS (model prog w) A E s (iV a b) Q st:=by
 rw [FZ];obtain ⟨y,y1,y2,y3,y4⟩:=item T.kb hb;refine wpS_bind (wpS_lift (wpAny_rule ⟨rfl,?_⟩));refine wpS_bind (bj y1 ?_)
 have m0:MI (leK κ) a.toList b.toList ([]:List Keyed) 0 0:=⟨by simp,.nil,fun x hx=>absurd hx (by simp)⟩
 have m:MI (leK κ) a.toList b.toList (#[y]:Array Keyed).toList 0 1:=by
  have:=At.pushB (out:=#[]) T m0 y4 fun z hz=>F z hz y y1;exact this
 by_cases e1:1=b.size
 ·rw [if_pos (by simpa using e1)];exact wpS_pure (h _ st (SG.refl _) (uN T m e1))
 ·rw [if_neg (by simpa using e1)];by_cases e2:0+1=a.size
  ·rw [if_pos (by simpa using e2)];exact wpS_pure (h _ st (SG.refl _) (uO T L m e2))
  ·rw [if_neg (by simpa using e2)];refine wpS_bind (wpS_get ?_)
   refine wpS_bind (wpS_mono (wpS_forRange (I:=fun x c st'=>SG st st'/\c.1=none/\At κ a b c.2.1 c.2.2.1 c.2.2.2.1/\1+x<=c.2.2.1+c.2.2.2.1)
    (Q:=fun c st'=>SG st st'/\∃ z,c.1=some z/\Rs κ a b z) ?_ ?_ ⟨SG.refl _,rfl,⟨m,by dsimp only;lia,by dsimp only;lia⟩,by dsimp only;lia⟩) ?_)
   ·rintro x ⟨c0,o,i,j,g⟩ st' _ hx ⟨sg,rfl,m',e⟩;dsimp only at m' e ⊢;refine wpS_mono (mz hL T L (sg.kind.trans hk) sg m') fun r st2 h2=>?_;obtain ⟨bS,h2⟩:=h2
    cases r with
    | done c=>exact ⟨bS,h2⟩
    | yield c =>
     obtain ⟨h2,h3,h4⟩:=h2;exact ⟨bS,h2,h3,by lia⟩
   ·rintro c st' ⟨sg,h1,m',e⟩;have:=m'.ha;have:=m'.hb;exact absurd e (by lia)
   ·rintro ⟨c0,o,i,j,g⟩ st' ⟨sg,z,e,hz⟩;dsimp only at e;rw [e];exact wpS_pure (h z st' sg hz)
end
def j6:Array Keyed->Array Keyed->Sm (Array Keyed):=sortPriv% PySem.Builtin.mergeHi
namespace Hi
abbrev dn (a b out:Array Keyed)(na nb:Nat):Array Keyed:=a.extract 0 na++b.extract 0 nb++out.reverse
abbrev fb (a b out:Array Keyed)(na nb:Nat):Array Keyed:=b.extract 0 nb++a.extract 0 na++out.reverse
abbrev H1:=Option (Array Keyed)×Nat×Nat×Array Keyed×Nat×Nat
abbrev H2:=Option (Array Keyed)×Nat×Nat×Array Keyed×Nat×Nat×Nat
abbrev H0:=Option (Array Keyed)×Nat×Nat×Array Keyed×Nat
def one (a b:Array Keyed)(g:Nat)(na nb:Nat)(out:Array Keyed)(ac bc:Nat):Sm (ForInStep H1):=do
 let y <- elem' b (nb - 1)
 let x <- elem' a (na - 1)
 let r <- lt' y x
 match r with
 | some w =>
  if w=true then do
   let x <- elem' a (na - 1)
   if (na - 1 == 0)=true then pure (ForInStep.done (some (dn a b (out.push x) (na - 1) nb),na - 1,nb,out.push x,ac+1,0))
   else if ac+1 ≥ g then pure (ForInStep.done (none,na - 1,nb,out.push x,ac+1,0)) else pure (ForInStep.yield (none,na - 1,nb,out.push x,ac+1,0))
  else do
   let y <- elem' b (nb - 1)
   if (nb - 1 == 1)=true then pure (ForInStep.done (some (fb a b (out.push y) na (nb - 1)),na,nb - 1,out.push y,0,bc+1))
   else if bc+1 ≥ g then pure (ForInStep.done (none,na,nb - 1,out.push y,0,bc+1)) else pure (ForInStep.yield (none,na,nb - 1,out.push y,0,bc+1))
 | _=>pure (ForInStep.done (some (dn a b out na nb),na,nb,out,ac,bc))
def gl4 (a b:Array Keyed)(na nb:Nat)(out:Array Keyed)(g k k1:Nat):Sm (ForInStep H2):=do
 let x <- elem' a (na - 1)
 if (na - 1 == 0)=true then pure (ForInStep.done (some (dn a b (out.push x) (na - 1) nb),na - 1,nb,out.push x,g,k,k1))
 else if (decide (k < 7) && decide (k1 < 7))=true then pure (ForInStep.done (none,na - 1,nb,out.push x,g,k,k1)) else pure (ForInStep.yield (none,na - 1,nb,out.push x,g,k,k1))
def gl3 (a b:Array Keyed)(na nb:Nat)(out:Array Keyed)(g k bc:Nat):Sm (ForInStep H2):=do
 let x <- elem' a (na - 1)
 let r <- fc true x b 0 nb (nb - 1)
 match r with
 | some t =>
  if nb - t > 0 then
   if (t == 1)=true then pure (ForInStep.done (some (fb a b (out++(b.extract t nb).reverse) na t),na,t,out++(b.extract t nb).reverse,g,k,nb - t))
   else if (t == 0)=true then pure (ForInStep.done (some (dn a b (out++(b.extract t nb).reverse) na t),na,t,out++(b.extract t nb).reverse,g,k,nb - t))
   else gl4 a b na t (out++(b.extract t nb).reverse) g k (nb - t)
  else gl4 a b na nb out g k (nb - t)
 | _=>pure (ForInStep.done (some (dn a b out na nb),na,nb,out,g,k,bc))
def gl2 (a b:Array Keyed)(na nb:Nat)(out:Array Keyed)(g k bc:Nat):Sm (ForInStep H2):=do
 let y <- elem' b (nb - 1)
 if (nb - 1 == 1)=true then pure (ForInStep.done (some (fb a b (out.push y) na (nb - 1)),na,nb - 1,out.push y,g,k,bc))
 else gl3 a b na (nb - 1) (out.push y) g k bc
def gl1 (a b:Array Keyed)(na nb:Nat)(out:Array Keyed)(g ac bc:Nat):Sm (ForInStep H2):=do
 iW g
 let y <- elem' b (nb - 1)
 let r <- fc false y a 0 na (na - 1)
 match r with
 | some t =>
  if na - t > 0 then
   if (t == 0)=true then pure (ForInStep.done (some (dn a b (out++(a.extract t na).reverse) t nb),t,nb,out++(a.extract t na).reverse,g,na - t,bc))
   else gl2 a b t nb (out++(a.extract t na).reverse) g (na - t) bc
  else gl2 a b na nb out g (na - t) bc
 | _=>pure (ForInStep.done (some (dn a b out na nb),na,nb,out,g,ac,bc))
def gal (a b:Array Keyed)(na nb:Nat)(out:Array Keyed)(g ac bc:Nat):Sm (ForInStep H2):=if g > 1 then gl1 a b na nb out (g - 1) ac bc else gl1 a b na nb out g ac bc
def round (a b:Array Keyed)(na nb:Nat)(out:Array Keyed)(g:Nat):Sm (ForInStep H0):=do
 let c <- forIn [0:a.size+b.size] ((none,na,nb,out,0,0):H1) fun _ c=>one a b g c.2.1 c.2.2.1 c.2.2.2.1 c.2.2.2.2.1 c.2.2.2.2.2
 match c.1 with
 | some r=>pure (ForInStep.done (some r,c.2.1,c.2.2.1,c.2.2.2.1,g))
 | none=>do
  liftM (rule "list.sort.gallop")
  let d <- forIn [0:a.size+b.size] ((none,c.2.1,c.2.2.1,c.2.2.2.1,g+1,c.2.2.2.2.1,c.2.2.2.2.2):H2) fun _ d=>gal a b d.2.1 d.2.2.1 d.2.2.2.1 d.2.2.2.2.1 d.2.2.2.2.2.1 d.2.2.2.2.2.2
  match d.1 with
  | some r=>pure (ForInStep.done (some r,d.2.1,d.2.2.1,d.2.2.2.1,d.2.2.2.2.1))
  | none=>do
   iW (d.2.2.2.2.1+1)
   pure (ForInStep.yield (none,d.2.1,d.2.2.1,d.2.2.2.1,d.2.2.2.2.1+1))
theorem G5 (a b:Array Keyed):j6 a b=(do
  liftM (rule "list.sort.merge-hi")
  let e <- elem' a (a.size - 1)
  if (a.size - 1 == 0)=true then pure (dn a b #[e] (a.size - 1) b.size)
  else if (b.size == 1)=true then pure (fb a b #[e] (a.size - 1) b.size)
  else do
   let s <- get
   let c <- forIn [0:a.size+b.size] ((none,a.size - 1,b.size,#[e],gallopOf s):H0) fun _ c=>round a b c.2.1 c.2.2.1 c.2.2.2.1 c.2.2.2.2
   match c.1 with
   | some r=>pure r
   | none=>liftM (unsupported "internal:list.sort.merge-bound")):=by
 delta j6
 refine bc rfl (funext fun u=>bc rfl (funext fun e=>ic rfl (ic rfl (bc rfl (funext fun s=>bc (fi (funext fun x=>funext fun c=>?_)) (funext fun c=>?_))))))
 ·unfold round;refine bc (fi (funext fun x=>funext fun c1=>?_)) (funext fun c1=>?_)
  ·unfold one;refine bc rfl (funext fun y=>bc rfl (funext fun x=>bc rfl (funext fun r=>?_)))
   cases r with
   | none=>rfl
   | some w=>exact ic (bc rfl (funext fun y=>ic rfl (ic rfl rfl))) (bc rfl (funext fun y=>ic rfl (ic rfl rfl)))
  ·obtain ⟨r,c1⟩:=c1
   cases r with
   | some r=>rfl
   | none =>
    refine bc rfl (funext fun u=>bc (fi (funext fun x=>funext fun d=>?_)) (funext fun d=>?_))
    ·unfold gal;refine ic ?_ ?_
     ·unfold gl1;exact bc rfl (funext fun u=>bc rfl (funext fun y=>bc rfl (funext fun r=>by cases r with | none=>rfl | some k=>exact ic (ic rfl (by unfold gl2;exact bc rfl (funext fun y=>ic rfl (by unfold gl3;exact bc rfl (funext fun x=>bc rfl (funext fun r=>by cases r with | none=>rfl | some k1=>exact ic (ic rfl (ic rfl (by unfold gl4;exact bc rfl (funext fun x=>ic rfl (ic rfl rfl))))) (by unfold gl4;exact bc rfl (funext fun x=>ic rfl (ic rfl rfl))))))))) (by unfold gl2;exact bc rfl (funext fun y=>ic rfl (by unfold gl3;exact bc rfl (funext fun x=>bc rfl (funext fun r=>by cases r with | none=>rfl | some k1=>exact ic (ic rfl (ic rfl (by unfold gl4;exact bc rfl (funext fun x=>ic rfl (ic rfl rfl))))) (by unfold gl4;exact bc rfl (funext fun x=>ic rfl (ic rfl rfl)))))))))))
     ·unfold gl1;exact bc rfl (funext fun u=>bc rfl (funext fun y=>bc rfl (funext fun r=>by cases r with | none=>rfl | some k=>exact ic (ic rfl (by unfold gl2;exact bc rfl (funext fun y=>ic rfl (by unfold gl3;exact bc rfl (funext fun x=>bc rfl (funext fun r=>by cases r with | none=>rfl | some k1=>exact ic (ic rfl (ic rfl (by unfold gl4;exact bc rfl (funext fun x=>ic rfl (ic rfl rfl))))) (by unfold gl4;exact bc rfl (funext fun x=>ic rfl (ic rfl rfl))))))))) (by unfold gl2;exact bc rfl (funext fun y=>ic rfl (by unfold gl3;exact bc rfl (funext fun x=>bc rfl (funext fun r=>by cases r with | none=>rfl | some k1=>exact ic (ic rfl (ic rfl (by unfold gl4;exact bc rfl (funext fun x=>ic rfl (ic rfl rfl))))) (by unfold gl4;exact bc rfl (funext fun x=>ic rfl (ic rfl rfl)))))))))))
    ·obtain ⟨r,d⟩:=d;cases r <;> rfl
 ·obtain ⟨r,c⟩:=c;cases r <;> rfl
section
variable {α:Type}{le:α->α->Prop}
structure MH (le:α->α->Prop)(la lb lo:List α)(na nb:Nat):Prop where
 pm:lo.Perm (la.drop na++lb.drop nb)
 sr:lo.Pairwise le
 be:∀ x∈lo,∀ y,y∈la.take na\/y∈lb.take nb->le y x
theorem uP {l:List α}{i j:Nat}{y:α}(h:i<=j)(hy:y∈l.take i):y∈l.take j:=by
 rw [show i=min i j by lia,<- List.take_take] at hy;exact List.mem_of_mem_take hy
theorem cut_drop {l:List α}{t n:Nat}(h:t<=n)(hn:n<=l.length):(l.take n).drop t++l.drop n=l.drop t:=by
 have e:=zB9 n l;have:(l.take n++l.drop n).drop t=(l.take n).drop t++l.drop n:=List.drop_append_of_le_length (by rw [zAd];lia);rw [e] at this;exact this.symm
theorem yl {l:List α}(hp:l.Pairwise le){t n:Nat}(h:t<=n):∀ y∈l.take t,∀ x∈(l.take n).drop t,le y x:=by
 have h2:(l.take n).Pairwise le:=hp.sublist (List.take_sublist _ _);have e:=zB9 t (l.take n);rw [<- e] at h2;rw [List.take_take,show min t n=t by lia] at h2;exact fun y hy x hx=>(List.pairwise_append.mp h2).2.2 y hy x hx
theorem MH.segA {la lb lo:List α}{na nb t:Nat}(m:MH le la lb lo na nb)(sa:la.Pairwise le)(ht:t<=na)(hn:na<=la.length)(h:∀ x∈(la.take na).drop t,∀ y∈lb.take nb,le y x):MH le la lb ((la.take na).drop t++lo) t nb:=by
 refine ⟨?_,List.pairwise_append.mpr ⟨(sa.sublist (List.take_sublist _ _)).sublist (List.drop_sublist _ _),m.sr,fun x hx y hy=>m.be y hy x (.inl (List.mem_of_mem_drop hx))⟩,fun x hx y hy=>?_⟩
 ·refine (List.Perm.append_left _ m.pm).trans ?_;rw [<- zAf,cut_drop ht hn]
 ·rcases zA6.mp hx with z | z
  ·rcases hy with hy | hy
   ·exact yl sa ht y hy x z
   ·exact h x z y hy
  ·exact m.be x z y (hy.imp (uP ht) id)
theorem MH.segB {la lb lo:List α}{na nb t:Nat}(m:MH le la lb lo na nb)(sb:lb.Pairwise le)(ht:t<=nb)(hn:nb<=lb.length)(h:∀ x∈(lb.take nb).drop t,∀ y∈la.take na,le y x):MH le la lb ((lb.take nb).drop t++lo) na t:=by
 refine ⟨?_,List.pairwise_append.mpr ⟨(sb.sublist (List.take_sublist _ _)).sublist (List.drop_sublist _ _),m.sr,fun x hx y hy=>m.be y hy x (.inr (List.mem_of_mem_drop hx))⟩,fun x hx y hy=>?_⟩
 ·refine (List.Perm.append_left _ m.pm).trans ?_;refine (List.perm_append_comm_assoc _ _ _).trans ?_;rw [cut_drop ht hn]
 ·rcases zA6.mp hx with z | z
  ·rcases hy with hy | hy
   ·exact h x z y hy
   ·exact yl sb ht y hy x z
  ·exact m.be x z y (hy.imp id (uP ht))
theorem MH.first {la lb lo:List α}{na nb:Nat}(m:MH le la lb lo na nb)(sa:la.Pairwise le)(sb:lb.Pairwise le)(h:∀ y∈lb.take nb,∀ x∈la.take na,le y x):Done le la lb (lb.take nb++la.take na++lo):=by
 refine ⟨?_,List.pairwise_append.mpr ⟨List.pairwise_append.mpr ⟨sb.sublist (List.take_sublist _ _),sa.sublist (List.take_sublist _ _),h⟩,m.sr,fun x hx y hy=>m.be y hy x ((zA6.mp hx).symm)⟩⟩;refine (List.Perm.append_left _ m.pm).trans ?_
 have e:lb.take nb++la.take na++(la.drop na++lb.drop nb)=lb.take nb++(la++lb.drop nb):=by
  rw [zAf,<- zAf (la.take na),zB9]
 rw [e];refine (List.perm_append_comm_assoc _ _ _).trans ?_;rw [zB9]
theorem MH.endA {la lb lo:List α}{nb:Nat}(m:MH le la lb lo 0 nb)(sa:la.Pairwise le)(sb:lb.Pairwise le):Done le la lb (la.take 0++lb.take nb++lo):=by
 have:=m.first sa sb fun y _ x hx=>absurd hx (by simp)
 rw [List.take_zero,zAn] at this;rw [List.take_zero,List.nil_append];exact this
theorem MH.endB {la lb lo:List α}{na:Nat}(m:MH le la lb lo na 0)(sa:la.Pairwise le)(sb:lb.Pairwise le):Done le la lb (la.take na++lb.take 0++lo):=by
 have:=m.first sa sb fun y hy x _=>absurd hy (by simp)
 rw [List.take_zero,List.nil_append] at this;rw [List.take_zero,zAn];exact this
end
section
variable {prog:Program}{w:World}{A:Around}{E:Value->Shared->Prop}{s:Shared}{κ:PyProof.Rows.KeyKind}{ks:SortKind}{a b:Array Keyed}
theorem wG (a:Array Keyed)(n:Nat):(a.extract 0 n).toList=a.toList.take n:=by
 rw [fG];simp
theorem ext_cut (a:Array Keyed)(t n:Nat):(a.extract t n).toList=(a.toList.take n).drop t:=by
 rw [fG,List.drop_take]
theorem rE (out:Array Keyed)(x:Keyed):(out.push x).reverse.toList=x::out.reverse.toList:=by simp
theorem uQ (out seg:Array Keyed):(out++seg.reverse).reverse.toList=seg.toList++out.reverse.toList:=by simp
abbrev Mh (κ:PyProof.Rows.KeyKind)(a b out:Array Keyed)(na nb:Nat):Prop:=MH (leK κ) a.toList b.toList out.reverse.toList na nb
structure At (κ:PyProof.Rows.KeyKind)(a b out:Array Keyed)(na nb:Nat):Prop where
 mi:Mh κ a b out na nb
 a1:1<=na
 a2:na<=a.size
 b1:2<=nb
 b2:nb<=b.size
theorem fY {κ:PyProof.Rows.KeyKind}{a:Array Keyed}(ka:KeysOf κ a){n:Nat}(h1:1<=n)(h2:n<=a.size):∃ p,a[n - 1]?=some p/\κ.keyOf p.1=some (key κ p)/\KK κ a (n - 1)=key κ p/\(a.toList.take n).drop (n - 1)=[p]:=by
 obtain ⟨p,p1,p2,p3,p4⟩:=item ka (i:=n - 1) (by lia);refine ⟨p,p1,p2,p3,?_⟩;rw [List.drop_take,p4,show n - (n - 1)=1 by lia];rfl
theorem take_key {κ:PyProof.Rows.KeyKind}{a:Array Keyed}(ka:KeysOf κ a){n t:Nat}{x:Keyed}(h:x∈(a.toList.take n).drop t):∃ j,t<=j/\j < n/\j < a.size/\KK κ a j=key κ x:=by
 rw [List.drop_take] at h;obtain ⟨j,j1,j2,j3⟩:=iZ ka h;exact ⟨t+j,by lia,by lia,j2,j3⟩
theorem take_key0 {κ:PyProof.Rows.KeyKind}{a:Array Keyed}(ka:KeysOf κ a){n:Nat}{x:Keyed}(h:x∈a.toList.take n):∃ j,j < n/\j < a.size/\KK κ a j=key κ x:=by
 have h':x∈(a.toList.take n).drop 0:=by rw [List.drop_zero];exact h
 obtain ⟨j,_,j1,j2,j3⟩:=take_key ka h';exact ⟨j,j1,j2,j3⟩
theorem uR {κ:PyProof.Rows.KeyKind}{a:Array Keyed}(ka:KeysOf κ a)(sa:a.toList.Pairwise (leK κ)){n:Nat}{p:Keyed}(h1:1<=n)(h2:n<=a.size)(e:KK κ a (n - 1)=key κ p):∀ y∈a.toList.take n,leK κ y p:=fun y hy=>by
 obtain ⟨j,j1,j2,j3⟩:=take_key0 ka hy;have:=j5 ka sa (i:=j) (j:=n - 1) (by lia) (by lia);rw [j3,e] at this;exact this
theorem pushA {out:Array Keyed}{na nb:Nat}{x:Keyed}(T:Two κ a b)(m:Mh κ a b out na nb)(h1:1<=na)(h2:na<=a.size)(e:(a.toList.take na).drop (na - 1)=[x])(h:∀ y∈b.toList.take nb,leK κ y x):Mh κ a b (out.push x) (na - 1) nb:=by
 have:=MH.segA (t:=na - 1) m T.sa (by lia) (by rw [zA9];exact h2) fun z hz y hy=>by
  rw [e] at hz;rw [List.mem_singleton.mp hz];exact h y hy
 rw [e] at this;unfold Mh;rw [rE];exact this
theorem pushB {out:Array Keyed}{na nb:Nat}{x:Keyed}(T:Two κ a b)(m:Mh κ a b out na nb)(h1:1<=nb)(h2:nb<=b.size)(e:(b.toList.take nb).drop (nb - 1)=[x])(h:∀ y∈a.toList.take na,leK κ y x):Mh κ a b (out.push x) na (nb - 1):=by
 have:=MH.segB (t:=nb - 1) m T.sb (by lia) (by rw [zA9];exact h2) fun z hz y hy=>by
  rw [e] at hz;rw [List.mem_singleton.mp hz];exact h y hy
 rw [e] at this;unfold Mh;rw [rE];exact this
theorem G6 {out:Array Keyed}{na nb t:Nat}(T:Two κ a b)(m:Mh κ a b out na nb)(ht:t<=na)(h2:na<=a.size)(h:∀ x∈(a.toList.take na).drop t,∀ y∈b.toList.take nb,leK κ y x):Mh κ a b (out++(a.extract t na).reverse) t nb:=by
 have:=MH.segA m T.sa ht (by rw [zA9];exact h2) h;unfold Mh;rw [uQ,ext_cut];exact this
theorem G7 {out:Array Keyed}{na nb t:Nat}(T:Two κ a b)(m:Mh κ a b out na nb)(ht:t<=nb)(h2:nb<=b.size)(h:∀ x∈(b.toList.take nb).drop t,∀ y∈a.toList.take na,leK κ y x):Mh κ a b (out++(b.extract t nb).reverse) na t:=by
 have:=MH.segB m T.sb ht (by rw [zA9];exact h2) h;unfold Mh;rw [uQ,ext_cut];exact this
def FirstB (κ:PyProof.Rows.KeyKind)(a b:Array Keyed):Prop:=∀ y∈b.toList.take 1,∀ x∈a.toList,leK κ y x
theorem e_a {out:Array Keyed}{na nb:Nat}(T:Two κ a b)(m:Mh κ a b out na nb)(h:na=0):Rs κ a b (dn a b out na nb):=by
 subst h;have:=MH.endA m T.sa T.sb;unfold Rs dn;rw [Array.toList_append,Array.toList_append,wG,wG];exact this
theorem e_b {out:Array Keyed}{na nb:Nat}(T:Two κ a b)(m:Mh κ a b out na nb)(h:nb=0):Rs κ a b (dn a b out na nb):=by
 subst h;have:=MH.endB m T.sa T.sb;unfold Rs dn;rw [Array.toList_append,Array.toList_append,wG,wG];exact this
theorem e_f {out:Array Keyed}{na nb:Nat}(T:Two κ a b)(F:FirstB κ a b)(m:Mh κ a b out na nb)(h:nb=1):Rs κ a b (fb a b out na nb):=by
 subst h
 have:=MH.first m T.sa T.sb fun y hy x hx=>F y hy x (List.mem_of_mem_take hx)
 unfold Rs fb;rw [Array.toList_append,Array.toList_append,wG,wG];exact this
theorem tU (hL:LtAll prog w A E s κ ks)(T:Two κ a b)(F:FirstB κ a b){g na nb ac bc:Nat}{out:Array Keyed}{st:SortSt}(hk:kindOf st=ks)(m:At κ a b out na nb) :
  wpS (model prog w) A E s (one a b g na nb out ac bc) (fun r st'=>st'=st/\match r with
   | .done c=>(∃ z,c.1=some z/\Rs κ a b z)\/(c.1=none/\At κ a b c.2.2.2.1 c.2.1 c.2.2.1/\c.2.1+c.2.2.1+1=na+nb)
   | .yield c=>c.1=none/\At κ a b c.2.2.2.1 c.2.1 c.2.2.1/\c.2.1+c.2.2.1+1=na+nb) st:=by
 obtain ⟨mi,a1,a2,b1,b2⟩:=m;obtain ⟨x,x1,x2,x3,x4⟩:=fY T.ka a1 a2;obtain ⟨y,y1,y2,y3,y4⟩:=fY T.kb (show 1<=nb by lia) b2;unfold one;refine wpS_bind (bj y1 (wpS_bind (bj x1 (wpS_bind (hL st hk _ _ _ _ _ y2 x2 ?_)))))
 cases e:κ.blt (key κ y) (key κ x) with
 | true =>
  dsimp only;rw [if_pos rfl];refine wpS_bind (bj x1 ?_);have m':=pushA T mi a1 a2 x4 fun z hz=>dh (uR T.kb T.sb (by lia) b2 y3 z hz) (KeyOrd.kle_of_klt e);by_cases h0:na - 1=0
  ·rw [if_pos (by simpa using h0)];exact wpS_pure ⟨rfl,.inl ⟨_,rfl,e_a T m' h0⟩⟩
  ·rw [if_neg (by simpa using h0)]
   have at':At κ a b (out.push x) (na - 1) nb:=⟨m',by lia,by lia,b1,b2⟩
   split
   ·exact wpS_pure ⟨rfl,.inr ⟨rfl,at',by dsimp only;lia⟩⟩
   ·exact wpS_pure ⟨rfl,rfl,at',by dsimp only;lia⟩
 | false =>
  dsimp only;rw [if_neg (by decide)];refine wpS_bind (bj y1 ?_);have m':=pushB T mi (by lia) b2 y4 fun z hz=>dh (uR T.ka T.sa a1 a2 x3 z hz) (show leK κ x y from e);by_cases h0:nb - 1=1
  ·rw [if_pos (by simpa using h0)];exact wpS_pure ⟨rfl,.inl ⟨_,rfl,e_f T F m' h0⟩⟩
  ·rw [if_neg (by simpa using h0)]
   have at':At κ a b (out.push y) na (nb - 1):=⟨m',a1,a2,by lia,by lia⟩
   split
   ·exact wpS_pure ⟨rfl,.inr ⟨rfl,at',by dsimp only;lia⟩⟩
   ·exact wpS_pure ⟨rfl,rfl,at',by dsimp only;lia⟩
def G2 (κ:PyProof.Rows.KeyKind)(a b:Array Keyed)(n:Nat)(st:SortSt)(r:ForInStep H2)(st':SortSt):Prop:=SG st st'/\match r with
 | .done c=>(∃ z,c.1=some z/\Rs κ a b z)\/(c.1=none/\At κ a b c.2.2.2.1 c.2.1 c.2.2.1/\c.2.1+c.2.2.1 < n)
 | .yield c=>c.1=none/\At κ a b c.2.2.2.1 c.2.1 c.2.2.1/\c.2.1+c.2.2.1 < n
theorem mq (T:Two κ a b){g na nb k k1 n:Nat}{out:Array Keyed}{bp st:SortSt}(sg:SG bp st)(m:At κ a b out na nb)(hn:na+nb<=n)(h:∀ y∈b.toList.take nb,∀ x,a[na - 1]?=some x->leK κ y x) :
  wpS (model prog w) A E s (gl4 a b na nb out g k k1) (G2 κ a b n bp) st:=by
 obtain ⟨mi,a1,a2,b1,b2⟩:=m;obtain ⟨x,x1,x2,x3,x4⟩:=fY T.ka a1 a2;unfold gl4;refine wpS_bind (bj x1 ?_);have m':=pushA T mi a1 a2 x4 fun z hz=>h z hz x x1;by_cases h0:na - 1=0
 ·rw [if_pos (by simpa using h0)];exact wpS_pure ⟨sg,.inl ⟨_,rfl,e_a T m' h0⟩⟩
 ·rw [if_neg (by simpa using h0)]
  have at':At κ a b (out.push x) (na - 1) nb:=⟨m',by lia,by lia,b1,b2⟩
  split
  ·exact wpS_pure ⟨sg,.inr ⟨rfl,at',by dsimp only;lia⟩⟩
  ·exact wpS_pure ⟨sg,rfl,at',by dsimp only;lia⟩
theorem tV (hL:LtAll prog w A E s κ ks)(T:Two κ a b)(F:FirstB κ a b){g na nb k bc n:Nat}{out:Array Keyed}{bp st:SortSt}(hk:kindOf st=ks)(sg:SG bp st)(m:At κ a b out na nb)(hn:na+nb<=n) :
  wpS (model prog w) A E s (gl3 a b na nb out g k bc) (G2 κ a b n bp) st:=by
 obtain ⟨mi,a1,a2,b1,b2⟩:=id m;obtain ⟨x,x1,x2,x3,x4⟩:=fY T.ka a1 a2;unfold gl3;refine wpS_bind (bj x1 ?_);refine wpS_bind (dD (κ:=κ) (kk:=key κ x) (hL st hk) x2 (by lia) (fun i hi=>?_) (fun i j ck hj iA=>?_) fun t kn kt kf=>?_)
 ·obtain ⟨p,p1,p2,p3,_⟩:=item T.kb (i:=0+i) (by lia);exact ⟨p,_,p1,p2,p3⟩
 ·have mono:=j5 T.kb T.sb (i:=0+i) (j:=0+j) (by lia) (by lia);exact KeyOrd.klt_of_kle_of_klt mono iA
 ·have early:∀ y∈b.toList.take t,∀ z,a[na - 1]?=some z->leK κ y z:=fun y hy z hz=>by
   rw [x1] at hz;cases hz;obtain ⟨j,j1,j2,j3⟩:=take_key0 T.kb hy;have:=kt j j1;rw [Nat.zero_add,j3] at this;exact KeyOrd.kle_of_klt this
  by_cases h0:nb - t > 0
  ·dsimp only;rw [if_pos h0]
   have m':=G7 T mi (show t<=nb by lia) b2 fun z hz y hy=>by
    obtain ⟨j,j1,j2,j3,j4⟩:=take_key T.kb hz;have:=kf j j1 j2;rw [Nat.zero_add,j4] at this;exact dh (uR T.ka T.sa a1 a2 x3 y hy) (show leK κ x z from this)
   by_cases e:t=1
   ·rw [if_pos (by simpa using e)];exact wpS_pure ⟨sg,.inl ⟨_,rfl,e_f T F m' e⟩⟩
   ·rw [if_neg (by simpa using e)];by_cases e2:t=0
    ·rw [if_pos (by simpa using e2)];exact wpS_pure ⟨sg,.inl ⟨_,rfl,e_b T m' e2⟩⟩
    ·rw [if_neg (by simpa using e2)];exact mq T sg ⟨m',a1,a2,by lia,by lia⟩ (by lia) early
  ·dsimp only;rw [if_neg h0];have e:t=nb:=by lia
   rw [e] at early;exact mq T sg m hn early
theorem my (hL:LtAll prog w A E s κ ks)(T:Two κ a b)(F:FirstB κ a b){g na nb k bc n:Nat}{out:Array Keyed}{bp st:SortSt}(hk:kindOf st=ks)(sg:SG bp st)(m:At κ a b out na nb)(hn:na+nb<=n)(h:∀ x∈a.toList.take na,∀ y,b[nb - 1]?=some y->leK κ x y) :
  wpS (model prog w) A E s (gl2 a b na nb out g k bc) (G2 κ a b n bp) st:=by
 obtain ⟨mi,a1,a2,b1,b2⟩:=m;obtain ⟨y,y1,y2,y3,y4⟩:=fY T.kb (show 1<=nb by lia) b2;unfold gl2;refine wpS_bind (bj y1 ?_);have m':=pushB T mi (by lia) b2 y4 fun z hz=>h z hz y y1;by_cases h0:nb - 1=1
 ·rw [if_pos (by simpa using h0)];exact wpS_pure ⟨sg,.inl ⟨_,rfl,e_f T F m' h0⟩⟩
 ·rw [if_neg (by simpa using h0)];exact tV hL T F hk sg ⟨m',a1,a2,by lia,by lia⟩ (by lia)
theorem tX (hL:LtAll prog w A E s κ ks)(T:Two κ a b)(F:FirstB κ a b){g na nb ac bc n:Nat}{out:Array Keyed}{bp st:SortSt}(hk:kindOf st=ks)(sg:SG bp st)(m:At κ a b out na nb)(hn:na+nb<=n) :
  wpS (model prog w) A E s (gl1 a b na nb out g ac bc) (G2 κ a b n bp) st:=by
 obtain ⟨mi,a1,a2,b1,b2⟩:=id m;obtain ⟨y,y1,y2,y3,y4⟩:=fY T.kb (show 1<=nb by lia) b2;unfold gl1;refine wpS_bind (gO fun st' fT=>?_);have dQ:kindOf st'=ks:=fT.kind.trans hk
 have bS:SG bp st':=⟨fT.kind.trans sg.kind,fT.arr.trans sg.arr,fT.pend.trans sg.pend,fT.fail.trans sg.fail⟩
 refine wpS_bind (bj y1 ?_);refine wpS_bind (dD (κ:=κ) (kk:=key κ y) (hL st' dQ) y2 (by lia) (fun i hi=>?_) (fun i j ck hj iA=>?_) fun t kn kt kf=>?_)
 ·obtain ⟨p,p1,p2,p3,_⟩:=item T.ka (i:=0+i) (by lia);exact ⟨p,_,p1,p2,p3⟩
 ·have mono:=j5 T.ka T.sa (i:=0+i) (j:=0+j) (by lia) (by lia);have iA:(!κ.blt (key κ y) (KK κ a (0+j)))=true:=iA;show (!κ.blt (key κ y) (KK κ a (0+i)))=true;rw [Bool.not_eq_true'] at iA ⊢;exact KeyOrd.kle_trans mono iA
 ·have early:∀ x∈a.toList.take t,∀ z,b[nb - 1]?=some z->leK κ x z:=fun x hx z hz=>by
   rw [y1] at hz;cases hz;obtain ⟨j,j1,j2,j3⟩:=take_key0 T.ka hx;have:=kt j j1;rw [Nat.zero_add,j3] at this;have this:(!κ.blt (key κ y) (key κ x))=true:=this;rw [Bool.not_eq_true'] at this;exact this
  by_cases h0:na - t > 0
  ·dsimp only;rw [if_pos h0]
   have m':=G6 T mi (show t<=na by lia) a2 fun z hz x hx=>by
    obtain ⟨j,j1,j2,j3,j4⟩:=take_key T.ka hz;have:=kf j j1 j2;rw [Nat.zero_add,j4] at this;have this:(!κ.blt (key κ y) (key κ z))=false:=this;rw [Bool.not_eq_false'] at this;exact dh (uR T.kb T.sb (by lia) b2 y3 x hx) (KeyOrd.kle_of_klt this)
   by_cases e:t=0
   ·rw [if_pos (by simpa using e)];exact wpS_pure ⟨bS,.inl ⟨_,rfl,e_a T m' e⟩⟩
   ·rw [if_neg (by simpa using e)];exact my hL T F dQ bS ⟨m',by lia,by lia,b1,b2⟩ (by lia) early
  ·dsimp only;rw [if_neg h0];have e:t=na:=by lia
   rw [e] at early;exact my hL T F dQ bS m hn early
theorem mz (hL:LtAll prog w A E s κ ks)(T:Two κ a b)(F:FirstB κ a b){g na nb:Nat}{out:Array Keyed}{bp st:SortSt}(hk:kindOf st=ks)(sg:SG bp st)(m:At κ a b out na nb) :
  wpS (model prog w) A E s (round a b na nb out g) (fun r st'=>SG bp st'/\match r with
   | .done c=>∃ z,c.1=some z/\Rs κ a b z
   | .yield c=>c.1=none/\At κ a b c.2.2.2.1 c.2.1 c.2.2.1/\c.2.1+c.2.2.1 < na+nb) st:=by
 unfold round
 have K8:0 < a.size+b.size:=by
  have:=m.a1;have:=m.a2;lia
 refine wpS_bind (wpS_mono (wpS_forRange (I:=fun x c st'=>st'=st/\c.1=none/\At κ a b c.2.2.2.1 c.2.1 c.2.2.1/\c.2.1+c.2.2.1+x=na+nb)
  (Q:=fun c st'=>st'=st/\((∃ z,c.1=some z/\Rs κ a b z)\/(c.1=none/\At κ a b c.2.2.2.1 c.2.1 c.2.2.1/\c.2.1+c.2.2.1 < na+nb))) ?_ ?_ ⟨rfl,rfl,m,rfl⟩) ?_)
 ·rintro x ⟨c0,i,j,o,ac,bc⟩ st' _ hx ⟨rfl,rfl,m',e⟩;dsimp only at m' e ⊢;refine wpS_mono (tU hL T F hk m') fun r st2 h2=>?_;obtain ⟨rfl,h2⟩:=h2
  cases r with
  | done c =>
   rcases h2 with h2 | ⟨h2,h3,h4⟩
   ·exact ⟨rfl,.inl h2⟩
   ·exact ⟨rfl,.inr ⟨h2,h3,by lia⟩⟩
  | yield c =>
   obtain ⟨h2,h3,h4⟩:=h2;exact ⟨rfl,h2,h3,by lia⟩
 ·rintro c st' ⟨rfl,h1,h2,h3⟩;exact ⟨rfl,.inr ⟨h1,h2,by lia⟩⟩
 ·rintro ⟨c0,i,j,o,ac,bc⟩ st' ⟨rfl,h⟩;dsimp only at h ⊢;rcases h with ⟨z,rfl,hz⟩ | ⟨rfl,m',ck⟩
  ·exact wpS_pure ⟨sg,z,rfl,hz⟩
  ·dsimp only;refine wpS_bind (wpS_lift (wpAny_rule ⟨rfl,?_⟩))
   refine wpS_bind (wpS_mono (wpS_forRange (I:=fun x c st2=>SG bp st2/\c.1=none/\At κ a b c.2.2.2.1 c.2.1 c.2.2.1/\c.2.1+c.2.2.1 < na+nb)
    (Q:=fun c st2=>SG bp st2/\((∃ z,c.1=some z/\Rs κ a b z)\/(c.1=none/\At κ a b c.2.2.2.1 c.2.1 c.2.2.1/\c.2.1+c.2.2.1 < na+nb))) ?_ ?_ ⟨sg,rfl,m',ck⟩) ?_)
   ·rintro x ⟨c0,i,j,o,g2,ac,bc⟩ st2 _ hx ⟨bS,rfl,m2,e2⟩;dsimp only at m2 e2 ⊢;have xi:kindOf st2=ks:=bS.kind.trans (sg.kind.symm.trans hk);have go:∀ g',wpS (model prog w) A E s (gl1 a b i j o g' ac bc) (G2 κ a b (na+nb) bp) st2:=fun g'=>tX hL T F xi bS m2 (by lia);unfold gal;split
    ·refine wpS_mono (go _) fun r fz h3=>?_;obtain ⟨h3,h4⟩:=h3
     cases r with
     | done c=>exact ⟨h3,h4⟩
     | yield c=>exact ⟨h3,h4⟩
    ·refine wpS_mono (go _) fun r fz h3=>?_;obtain ⟨h3,h4⟩:=h3
     cases r with
     | done c=>exact ⟨h3,h4⟩
     | yield c=>exact ⟨h3,h4⟩
   ·rintro c st2 ⟨h0,h1,h2,h3⟩;exact ⟨h0,.inr ⟨h1,h2,h3⟩⟩
   ·rintro ⟨c0,i,j,o,g2,ac,bc⟩ st2 ⟨bS,h⟩;dsimp only at h ⊢;rcases h with ⟨z,rfl,hz⟩ | ⟨rfl,m2,qh⟩
    ·exact wpS_pure ⟨bS,z,rfl,hz⟩
    ·dsimp only;refine wpS_bind (gO fun fz l7=>wpS_pure ⟨⟨l7.kind.trans bS.kind,l7.arr.trans bS.arr,l7.pend.trans bS.pend,l7.fail.trans bS.fail⟩,rfl,m2,qh⟩)
theorem hi_wp (hL:LtAll prog w A E s κ ks)(T:Two κ a b)(L:gY κ a b)(F:FirstB κ a b)(ha:0 < a.size)(hb:0 < b.size){st:SortSt}(hk:kindOf st=ks){Q:Array Keyed->SortSt->Prop}
  (h:∀ r st',SG st st'->Rs κ a b r->Q r st'):wpS (model prog w) A E s (j6 a b) Q st:=by
 rw [G5];obtain ⟨x,x1,x2,x3,x4⟩:=fY T.ka (n:=a.size) ha (zA3 _);refine wpS_bind (wpS_lift (wpAny_rule ⟨rfl,?_⟩));refine wpS_bind (bj x1 ?_)
 have m0:Mh κ a b #[] a.size b.size:=by
  refine ⟨?_,List.Pairwise.nil,fun x hx=>absurd hx (by simp)⟩;rw [List.drop_of_length_le (by rw [zA9];exact zA3 _),List.drop_of_length_le (by rw [zA9];exact zA3 _)];exact List.Perm.nil
 have m:Mh κ a b #[x] (a.size - 1) b.size:=pushA (out:=#[]) T m0 ha (zA3 _) x4 fun y hy=>L y (List.mem_of_mem_take hy) x (by
  rw [<- zA9,zAm,zA9] at x4;rw [x4]
  exact List.mem_cons_self)
 by_cases e1:a.size - 1=0
 ·rw [if_pos (by simpa using e1)];exact wpS_pure (h _ st (SG.refl _) (e_a T m e1))
 ·rw [if_neg (by simpa using e1)];by_cases e2:b.size=1
  ·rw [if_pos (by simpa using e2)];exact wpS_pure (h _ st (SG.refl _) (e_f T F m e2))
  ·rw [if_neg (by simpa using e2)];refine wpS_bind (wpS_get ?_)
   refine wpS_bind (wpS_mono (wpS_forRange (I:=fun x c st'=>SG st st'/\c.1=none/\At κ a b c.2.2.2.1 c.2.1 c.2.2.1/\c.2.1+c.2.2.1+x < a.size+b.size)
    (Q:=fun c st'=>SG st st'/\∃ z,c.1=some z/\Rs κ a b z) ?_ ?_ ⟨SG.refl _,rfl,⟨m,by dsimp only;lia,by dsimp only;lia,by dsimp only;lia,Nat.le_refl _⟩,by dsimp only;lia⟩) ?_)
   ·rintro x ⟨c0,i,j,o,g⟩ st' _ hx ⟨sg,rfl,m',e⟩;dsimp only at m' e ⊢;refine wpS_mono (mz hL T F (sg.kind.trans hk) sg m') fun r st2 h2=>?_;obtain ⟨bS,h2⟩:=h2
    cases r with
    | done c=>exact ⟨bS,h2⟩
    | yield c =>
     obtain ⟨h2,h3,h4⟩:=h2;exact ⟨bS,h2,h3,by lia⟩
   ·rintro c st' ⟨sg,h1,m',e⟩;exact absurd e (by lia)
   ·rintro ⟨c0,i,j,o,g⟩ st' ⟨sg,z,e,hz⟩;dsimp only at e;rw [e];exact wpS_pure (h z st' sg hz)
end
end Hi
open PySem PyProof.Rows
def over (arr:Array Keyed)(n:Nat)(l:List Keyed):Array Keyed:=l.zipIdx.foldl (fun a p=>a.setIfInBounds (n+p.2) p.1) arr
theorem qj:∀ (l:List Keyed) (j n:Nat) (arr:Array Keyed),n+j+l.length<=arr.size ->
  (((l.zipIdx j).foldl (fun a p=>a.setIfInBounds (n+p.2) p.1) arr).size=arr.size/\∀ i,((l.zipIdx j).foldl (fun a p=>a.setIfInBounds (n+p.2) p.1) arr)[i]?=if n+j<=i/\i < n+j+l.length then l[i - (n+j)]? else arr[i]?)
 | [],j,n,arr,_=>by
  refine ⟨rfl,fun i=>?_⟩;rw [zAu (by rw [List.length_nil];lia)];rfl
 | p::l,j,n,arr,h=>by
  rw [zAe] at h;rw [List.zipIdx_cons,List.foldl_cons];obtain ⟨h1,h2⟩:=qj l (j+1) n (arr.setIfInBounds (n+j) p) (by rw [Array.size_setIfInBounds];lia);refine ⟨by rw [h1,Array.size_setIfInBounds],fun i=>?_⟩;rw [h2 i,zAe,Array.getElem?_setIfInBounds];by_cases e:n+j=i
  ·subst e;rw [if_neg (by lia),if_pos rfl,if_pos (by lia),if_pos (by lia)];simp
  ·rw [zAu e];by_cases e2:n+(j+1)<=i/\i < n+(j+1)+l.length
   ·rw [zAx e2,zAx (by lia),show i - (n+j)=(i - (n+(j+1)))+1 by lia];rfl
   ·rw [zAu e2,zAu (by lia)]
theorem wH {arr:Array Keyed}{n:Nat}{l:List Keyed}(h:n+l.length<=arr.size):(over arr n l).toList=arr.toList.take n++l++arr.toList.drop (n+l.length):=by
 obtain ⟨h1,h2⟩:=qj l 0 n arr (by lia);refine List.ext_getElem? fun i=>?_;rw [Array.getElem?_toList];show ((l.zipIdx 0).foldl (fun a p=>a.setIfInBounds (n+p.2) p.1) arr)[i]?=_;have hl:arr.toList.length=arr.size:=zA9;rw [h2 i,zAf,List.getElem?_append,zAd,hl,show min n arr.size=n by lia,List.getElem?_append];by_cases e1:i < n
 ·rw [zAu (by lia),zAx e1,List.getElem?_take,zAx e1,Array.getElem?_toList]
 ·rw [zAu e1];by_cases e2:i < n+l.length
  ·rw [zAx (by lia),zAx (by lia)];rfl
  ·rw [zAu (by lia),zAu (by lia),List.getElem?_drop,Array.getElem?_toList];congr 1;lia
theorem pw_of_seg {κ:PyProof.Rows.KeyKind}{arr:Array Keyed}(ka:KeysOf κ arr){lo hi:Nat}(hh:hi<=arr.size)(h:Seg κ arr lo hi):((arr.toList.take hi).drop lo).Pairwise (leK κ):=by
 rw [List.pairwise_iff_getElem];intro i j hG nE ck;rw [List.length_drop,zAd,zA9] at hG nE;rw [List.getElem_drop,List.getElem_drop,List.getElem_take,List.getElem_take]
 have eC:∀ k,(hk:k < arr.toList.length)->k < arr.size->key κ arr.toList[k]=KK κ arr k:=fun k hk dQ=>by
  obtain ⟨p,p1,p2,p3,p4⟩:=item ka dQ;rw [p3]
  have e:arr.toList[k]?=some p:=by
   rw [Array.getElem?_toList];exact p1
  rw [zA0 hk] at e;rw [zAl e]
 unfold leK;rw [eC _ _ (by lia),eC _ _ (by lia)];exact h _ _ (by lia) (by lia) (by lia)
theorem wI {κ:PyProof.Rows.KeyKind}{arr:Array Keyed}(ka:KeysOf κ arr){lo hi:Nat}(hh:hi<=arr.size)(h:((arr.toList.take hi).drop lo).Pairwise (leK κ)):Seg κ arr lo hi:=by
 intro i j h1 h2 h3;by_cases e:i=j
 ·rw [e];exact KeyOrd.kle_refl _
 ·rw [List.pairwise_iff_getElem] at h
  have eC:∀ k,(hk:k < arr.toList.length)->k < arr.size->key κ arr.toList[k]=KK κ arr k:=fun k hk dQ=>by
   obtain ⟨p,p1,p2,p3,p4⟩:=item ka dQ;rw [p3]
   have e:arr.toList[k]?=some p:=by
    rw [Array.getElem?_toList];exact p1
   rw [zA0 hk] at e;rw [zAl e]
  have:=h (i - lo) (j - lo) (by rw [List.length_drop,zAd,zA9];lia) (by rw [List.length_drop,zAd,zA9];lia) (by lia);rw [List.getElem_drop,List.getElem_drop,List.getElem_take,List.getElem_take] at this;unfold leK at this;rw [eC _ _ (by lia),eC _ _ (by lia)] at this;rw [show lo+(i - lo)=i by lia,show lo+(j - lo)=j by lia] at this;exact this
theorem G8 (i:Nat):mergeAt' i=(do
  let s <- get
  match (pendingOf s)[i]?,(pendingOf s)[i+1]? with
  | some p,some q=>do
   set (setPending s (((pendingOf s).setIfInBounds i (p.1,p.2.1+q.2.1,p.2.2)).eraseIdxIfInBounds (i+1)))
   let y <- elem' (arrOf s) q.1
   let r <- fc false y (arrOf s) p.1 p.2.1 0
   match r with
   | some k =>
    if (p.2.1 - k == 0)=true then pure true
    else do
     let x <- elem' (arrOf s) (p.1+k+(p.2.1 - k) - 1)
     let r <- fc true x (arrOf s) q.1 q.2.1 (q.2.1 - 1)
     match r with
     | some n =>
      if (n == 0)=true then pure true
      else do
       let m <- if p.2.1 - k<=n then iV ((arrOf s).extract (p.1+k) q.1) ((arrOf s).extract q.1 (q.1+n)) else j6 ((arrOf s).extract (p.1+k) q.1) ((arrOf s).extract q.1 (q.1+n))
       modify fun s'=>setArr s' (over (arrOf s') (p.1+k) m.toList)
       let s' <- get
       pure (failedOf s').isNone
     | _=>pure false
   | _=>pure false
  | _,_=>liftM (unsupported "internal:list.sort.pending")):=by
 delta mergeAt'
 refine bc rfl (funext fun s=>?_);generalize e1:(pendingOf s)[i]?=o1;generalize e2:(pendingOf s)[i+1]?=o2
 cases o1 with
 | none=>cases o2 <;> rfl
 | some p =>
  obtain ⟨sa,na,pw⟩:=p
  cases o2 with
  | none=>rfl
  | some q =>
   obtain ⟨sb,nb,Dx⟩:=q;refine bc rfl (funext fun u=>bc rfl (funext fun y=>bc rfl (funext fun r=>?_)))
   cases r with
   | none=>rfl
   | some k =>
    refine ic rfl (bc rfl (funext fun x=>bc rfl (funext fun r=>?_)))
    cases r with
    | none=>rfl
    | some n=>exact ic rfl (ic (bc rfl (funext fun m=>rfl)) (bc rfl (funext fun m=>rfl)))
theorem keys_perm {κ:PyProof.Rows.KeyKind}{ab xs:Array Keyed}(h0:KeysOf κ ab)(h:xs.Perm ab):KeysOf κ xs:=fun p hp=>h0 p ((Array.perm_iff_toList_perm.mp h).mem_iff.mp hp)
theorem rF {κ:PyProof.Rows.KeyKind}{xs:Array Keyed}(h0:KeysOf κ xs)(i j:Nat):KeysOf κ (xs.extract i j):=fun p hp=>by
 rw [fG] at hp;exact h0 p (List.mem_of_mem_drop (List.mem_of_mem_take hp))
section
variable {prog:Program}{w:World}{A:Around}{E:Value->Shared->Prop}{s:Shared}{κ:PyProof.Rows.KeyKind}{ks:SortKind}{ab:Array Keyed}
structure Mg (κ:PyProof.Rows.KeyKind)(ks:SortKind)(ab:Array Keyed)(st st':SortSt)(sa hi:Nat)(pend:Array (Nat×Nat×Nat)):Prop where
 base:SB ks ab st'
 out:∀ k,(k < sa\/hi<=k)->(arrOf st')[k]?=(arrOf st)[k]?
 seg:Seg κ (arrOf st') sa hi
 pend:pendingOf st'=pend
theorem ym {l:List Keyed}{i j k m:Nat}(h1:i<=j)(h2:j<=k)(h3:k<=m)(h4:m<=l.length):(l.take m).drop i=(l.take j).drop i++((l.take k).drop j++(l.take m).drop k):=by
 have c:∀ {x y z:Nat},x<=y->y<=z->z<=l.length->(l.take z).drop x=(l.take y).drop x++(l.take z).drop y:=fun {x y z} a b d=>by
  have:=Hi.cut_drop (l:=l.take z) (t:=x) (n:=y) a (by rw [zAd];lia);rw [List.take_take,show min y z=y by lia] at this;exact this.symm
 rw [c h1 (by lia) h4,c h2 h3 h4]
theorem G9 (hL:LtAll prog w A E s κ ks)(h0:KeysOf κ ab){st:SortSt}(B:SB ks ab st){i sa na pw nb Dx:Nat}(e1:(pendingOf st)[i]?=some (sa,na,pw))(e2:(pendingOf st)[i+1]?=some (sa+na,nb,Dx))
  (n1:1<=na) (n2:1<=nb) (hz:sa+na+nb<=ab.size) (s1:Seg κ (arrOf st) sa (sa+na)) (s2:Seg κ (arrOf st) (sa+na) (sa+na+nb)) {Q:Bool->SortSt->Prop}
  (h:∀ st',Mg κ ks ab st st' sa (sa+na+nb) (((pendingOf st).setIfInBounds i (sa,na+nb,pw)).eraseIdxIfInBounds (i+1))->Q true st'):wpS (model prog w) A E s (mergeAt' i) Q st:=by
 rw [G8];refine wpS_bind (wpS_get ?_);rw [e1,e2];dsimp only;have kA:KeysOf κ (arrOf st):=keys_perm h0 B.pm;have hsz:(arrOf st).size=ab.size:=B.size;have gE:(arrOf st).toList.length=ab.size:=by rw [zA9,hsz]
 obtain ⟨P,eP⟩:∃ P,P=((pendingOf st).setIfInBounds i (sa,na+nb,pw)).eraseIdxIfInBounds (i+1):=⟨_,rfl⟩
 rw [<- eP] at h ⊢
 have DA:∀ {R:PUnit->SortSt->Prop},R ⟨⟩ (setPending st P)->wpS (model prog w) A E s (set (setPending st P):Sm PUnit) R st:=fun hR=>by
  unfold wpS;rw [StateT.run_set];exact zB0 ⟨rfl,hR⟩
 refine wpS_bind (DA ?_)
 obtain ⟨fR,kg⟩:∃ fR,fR=setPending st P:=⟨_,rfl⟩
 have k1:kindOf fR=ks:=by rw [kg];exact B.kind
 have a1:arrOf fR=arrOf st:=by rw [kg]
 have p1:pendingOf fR=P:=by rw [kg]
 have f1:failedOf fR=none:=by rw [kg];exact B.ok
 rw [<- kg]
 have all:Seg κ (arrOf st) sa (sa+na+nb)->Mg κ ks ab st fR sa (sa+na+nb) P:=fun sg=>⟨⟨k1,f1,by rw [a1];exact B.pm⟩,fun k _=>by rw [a1],by rw [a1];exact sg,p1⟩
 obtain ⟨y,y1,y2,y3,y4⟩:=item kA (i:=sa+na) (by lia);refine wpS_bind (bj y1 ?_);refine wpS_bind (dD (κ:=κ) (kk:=key κ y) (hL fR k1) y2 (by lia) (fun j hj=>?_) (fun j j' K9 nE hb=>?_) fun k kn kt kf=>?_)
 ·obtain ⟨p,q1,q2,q3,_⟩:=item kA (i:=sa+j) (by lia);exact ⟨p,_,q1,q2,q3⟩
 ·have mono:=s1 (sa+j) (sa+j') (by lia) (by lia) (by lia);have hb:(!κ.blt (key κ y) (KK κ (arrOf st) (sa+j')))=true:=hb;show (!κ.blt (key κ y) (KK κ (arrOf st) (sa+j)))=true;rw [Bool.not_eq_true'] at hb ⊢;exact KeyOrd.kle_trans mono hb
 ·have DB:∀ j,sa<=j->j < sa+k->κ.kle (KK κ (arrOf st) j) (KK κ (arrOf st) (sa+na)):=fun j j1 j2=>by
   have:=kt (j - sa) (by lia);rw [show sa+(j - sa)=j by lia] at this;have this:(!κ.blt (key κ y) (KK κ (arrOf st) j))=true:=this;rw [Bool.not_eq_true'] at this;rw [y3];exact this
  have La:∀ j,sa+k<=j->j < sa+na->κ.kle (KK κ (arrOf st) (sa+na)) (KK κ (arrOf st) j):=fun j j1 j2=>by
   have:=kf (j - sa) (by lia) (by lia);rw [show sa+(j - sa)=j by lia] at this;have this:(!κ.blt (key κ y) (KK κ (arrOf st) j))=false:=this;rw [Bool.not_eq_false'] at this;rw [y3];exact KeyOrd.kle_of_klt this
  dsimp only;by_cases sP:na - k=0
  ·rw [if_pos (by simpa using sP)];refine wpS_pure (h fR (all fun u v hu xw hv=>?_));by_cases c1:v < sa+na
   ·exact s1 u v hu xw c1
   ·by_cases c2:u < sa+na
    ·exact KeyOrd.kle_trans (DB u hu (by lia)) (s2 (sa+na) v (zA3 _) (by lia) hv)
    ·exact s2 u v (by lia) xw hv
  ·rw [if_neg (by simpa using sP)];rw [show sa+k+(na - k) - 1=sa+na - 1 by lia];obtain ⟨x,x1,x2,x3,x4⟩:=item kA (i:=sa+na - 1) (by lia);refine wpS_bind (bj x1 ?_);refine wpS_bind (dD (κ:=κ) (kk:=key κ x) (hL fR k1) x2 (by lia) (fun j hj=>?_) (fun j j' K9 nE hb=>?_) fun n nn nt nf=>?_)
   ·obtain ⟨p,q1,q2,q3,_⟩:=item kA (i:=sa+na+j) (by lia);exact ⟨p,_,q1,q2,q3⟩
   ·exact KeyOrd.klt_of_kle_of_klt (s2 (sa+na+j) (sa+na+j') (by lia) (by lia) (by lia)) hb
   ·have Lb:∀ j,sa+na<=j->j < sa+na+n->κ.kle (KK κ (arrOf st) j) (KK κ (arrOf st) (sa+na - 1)):=fun j j1 j2=>by
     have:=nt (j - (sa+na)) (by lia);rw [show sa+na+(j - (sa+na))=j by lia] at this;rw [x3];exact KeyOrd.kle_of_klt this
    have IH:∀ j,sa+na+n<=j->j < sa+na+nb->κ.kle (KK κ (arrOf st) (sa+na - 1)) (KK κ (arrOf st) j):=fun j j1 j2=>by
     have:=nf (j - (sa+na)) (by lia) (by lia);rw [show sa+na+(j - (sa+na))=j by lia] at this;rw [x3];exact this
    dsimp only;by_cases II:n=0
    ·rw [if_pos (by simpa using II)];refine wpS_pure (h fR (all fun u v hu xw hv=>?_));by_cases c1:v < sa+na
     ·exact s1 u v hu xw c1
     ·by_cases c2:u < sa+na
      ·exact KeyOrd.kle_trans (s1 u (sa+na - 1) hu (by lia) (by lia)) (IH v (by lia) hv)
      ·exact s2 u v (by lia) xw hv
    ·rw [if_neg (by simpa using II)]
     obtain ⟨X,eX⟩:∃ X,X=(arrOf st).extract (sa+k) (sa+na):=⟨_,rfl⟩
     obtain ⟨Y,eY⟩:∃ Y,Y=(arrOf st).extract (sa+na) (sa+na+n):=⟨_,rfl⟩
     rw [<- eX,<- eY];have lX:X.toList=((arrOf st).toList.take (sa+na)).drop (sa+k):=by rw [eX,Hi.ext_cut]
     have lY:Y.toList=((arrOf st).toList.take (sa+na+n)).drop (sa+na):=by rw [eY,Hi.ext_cut]
     have zX:X.size=na - k:=by rw [<- zA9,lX,List.length_drop,zAd,gE];lia
     have zY:Y.size=n:=by rw [<- zA9,lY,List.length_drop,zAd,gE];lia
     have pA:=pw_of_seg kA (by lia) s1;have pB:=pw_of_seg kA (by lia) s2;have eA:=ym (l:=(arrOf st).toList) (i:=sa) (j:=sa+k) (k:=sa+na) (m:=sa+na) (by lia) (by lia) (zA3 _) (by rw [gE];lia);have eB:=ym (l:=(arrOf st).toList) (i:=sa+na) (j:=sa+na+n) (k:=sa+na+nb) (m:=sa+na+nb) (by lia) (by lia) (zA3 _) (by rw [gE];lia);have DC:((arrOf st).toList.take (sa+na)).drop (sa+na)=[]:=List.drop_of_length_le (by rw [zAd];lia);have DD:((arrOf st).toList.take (sa+na+nb)).drop (sa+na+nb)=[]:=List.drop_of_length_le (by rw [zAd];lia);rw [DC,zAn,<- lX] at eA;rw [DD,zAn,<- lY] at eB
     obtain ⟨A1,DE⟩:∃ A1,A1=((arrOf st).toList.take (sa+k)).drop sa:=⟨_,rfl⟩
     obtain ⟨B2,DF⟩:∃ B2,B2=((arrOf st).toList.take (sa+na+nb)).drop (sa+na+n):=⟨_,rfl⟩
     rw [<- DE] at eA;rw [<- DF] at eB;rw [eA] at pA;rw [eB] at pB;obtain ⟨Lc,pX,Ld⟩:=List.pairwise_append.mp pA;obtain ⟨pY,Le,Lf⟩:=List.pairwise_append.mp pB
     have IJ:∀ z∈X.toList,∃ j,sa+k<=j/\j < sa+na/\KK κ (arrOf st) j=key κ z:=fun z dv=>by
      rw [lX] at dv;obtain ⟨j,j1,j2,_,j4⟩:=Hi.take_key kA dv;exact ⟨j,j1,j2,j4⟩
     have IK:∀ z∈Y.toList,∃ j,sa+na<=j/\j < sa+na+n/\KK κ (arrOf st) j=key κ z:=fun z dv=>by
      rw [lY] at dv;obtain ⟨j,j1,j2,_,j4⟩:=Hi.take_key kA dv;exact ⟨j,j1,j2,j4⟩
     have Lg:∀ z∈A1,∃ j,sa<=j/\j < sa+k/\KK κ (arrOf st) j=key κ z:=fun z dv=>by
      rw [DE] at dv;obtain ⟨j,j1,j2,_,j4⟩:=Hi.take_key kA dv;exact ⟨j,j1,j2,j4⟩
     have IL:∀ z∈B2,∃ j,sa+na+n<=j/\j < sa+na+nb/\KK κ (arrOf st) j=key κ z:=fun z dv=>by
      rw [DF] at dv;obtain ⟨j,j1,j2,_,j4⟩:=Hi.take_key kA dv;exact ⟨j,j1,j2,j4⟩
     have TT:Two κ X Y:=⟨by rw [eX];exact rF kA _ _,by rw [eY];exact rF kA _ _,pX,pY⟩
     have LL:gY κ X Y:=fun z dv v hv=>by
      obtain ⟨j,j1,j2,j3⟩:=IK z dv;obtain ⟨j',xy,xA,qk⟩:=mj TT.ka hv;have ej:j'=X.size - 1:=by lia
      have e:KK κ X j'=KK κ (arrOf st) (sa+na - 1):=by
       refine KK_congr ?_;rw [eX,Array.getElem?_extract,zAx (by lia)];congr 1;lia
      show κ.kle (key κ z) (key κ v);rw [<- j3,<- qk,e];exact Lb j j1 j2
     have F0:∀ v∈X.toList,∀ z,Y[0]?=some z->leK κ z v:=fun v hv z dv=>by
      obtain ⟨j,j1,j2,j3⟩:=IJ v hv
      have ez:z=y:=by
       rw [eY,Array.getElem?_extract,zAx (by lia),Nat.add_zero,y1] at dv;exact (zAl dv).symm
      show κ.kle (key κ z) (key κ v);rw [ez,<- y3,<- j3];exact La j j1 j2
     have FB:Hi.FirstB κ X Y:=fun z dv v hv=>by
      obtain ⟨j,j1,j2,j3⟩:=Hi.take_key0 TT.kb dv;obtain ⟨q,q1,q2,q3,_⟩:=item TT.kb (i:=0) (by lia);have e0:j=0:=by lia
      rw [e0,q3] at j3;have:=F0 v hv q q1;unfold leK at this ⊢;rw [<- j3];exact this
     have fin:∀ m st2,SG fR st2->Rs κ X Y m->wpS (model prog w) A E s (do
       modify fun s'=>setArr s' (over (arrOf s') (sa+k) m.toList)
       let s' <- get
       pure (failedOf s').isNone) Q st2:=fun m st2 sg D=>by
      refine wpS_bind (wpS_modify (wpS_bind (wpS_get (wpS_pure ?_))))
      have ft:(failedOf (setArr st2 (over (arrOf st2) (sa+k) m.toList))).isNone=true:=by
       show (failedOf st2).isNone=true;rw [sg.fail,f1];rfl
      rw [ft];have am:arrOf st2=arrOf st:=sg.arr.trans a1
      have lm:m.toList.length=na - k+n:=by
       rw [D.pm.length_eq,zA2,zA9,zA9,zX,zY]
      have ol:(over (arrOf st) (sa+k) m.toList).toList=(arrOf st).toList.take (sa+k)++m.toList++(arrOf st).toList.drop (sa+na+n):=by
       rw [wH (by rw [lm,hsz];lia),lm,show sa+k+(na - k+n)=sa+na+n by lia]
      have xB:(over (arrOf st) (sa+k) m.toList).toList.Perm (arrOf st).toList:=by
       rw [ol]
       have e:(arrOf st).toList=(arrOf st).toList.take (sa+k)++(X.toList++Y.toList)++(arrOf st).toList.drop (sa+na+n):=by
        rw [lX,lY];have c1:=Hi.cut_drop (l:=(arrOf st).toList) (t:=sa+na) (n:=sa+na+n) (by lia) (by rw [gE];lia);have c2:=Hi.cut_drop (l:=(arrOf st).toList) (t:=sa+k) (n:=sa+na) (by lia) (by rw [gE];lia);rw [zAf,zAf,c1,c2,zB9]
       conv=>rhs;rw [e]
       exact List.Perm.append_right _ (List.Perm.append_left _ D.pm)
      have ki:(over (arrOf st) (sa+k) m.toList).Perm (arrOf st):=Array.perm_iff_toList_perm.mpr xB;have kO:KeysOf κ (over (arrOf st) (sa+k) m.toList):=keys_perm kA ki;have zO:(over (arrOf st) (sa+k) m.toList).size=ab.size:=ki.size_eq.trans hsz;have og:∀ j,(over (arrOf st) (sa+k) m.toList)[j]?=if sa+k+0<=j/\j < sa+k+0+m.toList.length then m.toList[j - (sa+k+0)]? else (arrOf st)[j]?:=(qj m.toList 0 (sa+k) (arrOf st) (by rw [lm,hsz];lia)).2;refine h _ ⟨⟨sg.kind.trans k1,by show failedOf st2=none;rw [sg.fail,f1],?_⟩,fun j hj=>?_,?_,?_⟩
      ·show (over (arrOf st2) (sa+k) m.toList).Perm ab;rw [am];exact ki.trans B.pm
      ·show (over (arrOf st2) (sa+k) m.toList)[j]?=_;rw [am,og j,zAu (by rw [lm];lia)]
      ·show Seg κ (over (arrOf st2) (sa+k) m.toList) sa (sa+na+nb);rw [am];refine wI kO (by rw [zO];exact hz) ?_
       have cut:((over (arrOf st) (sa+k) m.toList).toList.take (sa+na+nb)).drop sa=A1++(m.toList++B2):=by
        rw [ol,DE,DF];have tl:((arrOf st).toList.take (sa+k)).length=sa+k:=by rw [zAd,gE];lia
        rw [zAf,List.take_append,tl,List.take_of_length_le (l:=(arrOf st).toList.take (sa+k)) (by rw [tl];lia),List.take_append,lm,List.take_of_length_le (l:=m.toList) (by rw [lm];lia)];rw [List.drop_append_of_le_length (by rw [tl];lia)];congr 2;rw [List.drop_take];congr 1;lia
       rw [cut];refine List.pairwise_append.mpr ⟨Lc,List.pairwise_append.mpr ⟨D.sr,Le,fun u hu v hv=>?_⟩,fun u hu v hv=>?_⟩
       ·rcases zA6.mp (D.pm.mem_iff.mp hu) with c | c
        ·obtain ⟨j,j1,j2,j3⟩:=IJ u c;obtain ⟨j',xy,xA,qk⟩:=IL v hv;show κ.kle (key κ u) (key κ v);rw [<- j3,<- qk];exact KeyOrd.kle_trans (s1 j (sa+na - 1) (by lia) (by lia) (by lia)) (IH j' xy xA)
        ·exact Lf u c v hv
       ·obtain ⟨j,j1,j2,j3⟩:=Lg u hu;rcases zA6.mp hv with c | c
        ·rcases zA6.mp (D.pm.mem_iff.mp c) with c | c
         ·exact Ld u hu v c
         ·obtain ⟨j',xy,xA,qk⟩:=IK v c;show κ.kle (key κ u) (key κ v);rw [<- j3,<- qk];exact KeyOrd.kle_trans (DB j j1 j2) (s2 (sa+na) j' (zA3 _) xy (by lia))
        ·obtain ⟨j',xy,xA,qk⟩:=IL v c;show κ.kle (key κ u) (key κ v);rw [<- j3,<- qk];exact KeyOrd.kle_trans (DB j j1 j2) (s2 (sa+na) j' (zA3 _) (by lia) xA)
      ·show pendingOf st2=P;rw [sg.pend,p1]
     by_cases hc:na - k<=n
     ·rw [zAx hc];exact wpS_bind (G4 hL TT LL (by lia) (by lia) F0 k1 fun m st2 sg D=>fin m st2 sg D)
     ·rw [zAu hc];exact wpS_bind (Hi.hi_wp hL TT LL FB (by lia) (by lia) k1 fun m st2 sg D=>fin m st2 sg D)
end
abbrev Run:=Nat×Nat×Nat
def Ch (κ:PyProof.Rows.KeyKind)(arr:Array Keyed):List Run->Nat->Nat->Prop
 | [],a,b=>a=b
 | r::l,a,b=>r.1=a/\1<=r.2.1/\Seg κ arr a (a+r.2.1)/\Ch κ arr l (a+r.2.1) b
theorem Ch.le {κ:PyProof.Rows.KeyKind}{arr:Array Keyed}:∀ {l:List Run} {a b:Nat},Ch κ arr l a b->a+l.length<=b
 | [],a,b,h=>by
  have h:a=b:=h;simp [h]
 | r::l,a,b,h=>by
  have:=Ch.le h.2.2.2;have:=h.2.1;rw [zAe];lia
theorem Ch.split {κ:PyProof.Rows.KeyKind}{arr:Array Keyed}:∀ {l1 l2:List Run} {a b:Nat},Ch κ arr (l1++l2) a b↔∃ m,Ch κ arr l1 a m/\Ch κ arr l2 m b
 | [],l2,a,b=>⟨fun h=>⟨a,rfl,h⟩,fun ⟨m,h1,h2⟩=>by
  have h1:a=m:=h1;rw [h1]
  exact h2⟩
 | r::l1,l2,a,b=>by
  constructor
  ·intro h;obtain ⟨m,h1,h2⟩:=Ch.split.mp h.2.2.2;exact ⟨m,⟨h.1,h.2.1,h.2.2.1,h1⟩,h2⟩
  ·rintro ⟨m,h1,h2⟩;exact ⟨h1.1,h1.2.1,h1.2.2.1,Ch.split.mpr ⟨m,h1.2.2.2,h2⟩⟩
theorem rG {κ:PyProof.Rows.KeyKind}{arr ko:Array Keyed}{a b:Nat}(h:Seg κ arr a b)(e:∀ k,a<=k->k < b->ko[k]?=arr[k]?):Seg κ ko a b:=fun i j h1 h2 h3=>by
 rw [KK_congr (e i h1 (by lia)),KK_congr (e j (by lia) h3)];exact h i j h1 h2 h3
theorem Ch.same {κ:PyProof.Rows.KeyKind}{arr ko:Array Keyed}:∀ {l:List Run} {a b:Nat},Ch κ arr l a b->(∀ k,a<=k->k < b->ko[k]?=arr[k]?)->Ch κ ko l a b
 | [],_,_,h,_=>h
 | r::l,a,b,h,e=>by
  have:=Ch.le h.2.2.2;exact ⟨h.1,h.2.1,rG h.2.2.1 fun k k1 k2=>e k k1 (by lia),h.2.2.2.same fun k k1 k2=>e k (by lia) k2⟩
theorem wJ {p:Array Run}{i:Nat}{v:Run}(h:i+1 < p.size):((p.setIfInBounds i v).eraseIdxIfInBounds (i+1)).toList=p.toList.take i++v::p.toList.drop (i+2):=by
 have hl:p.toList.length=p.size:=zA9
 have e1:(p.setIfInBounds i v).eraseIdxIfInBounds (i+1)=(p.setIfInBounds i v).eraseIdx (i+1) (by rw [Array.size_setIfInBounds];exact h):=by
  rw [Array.eraseIdxIfInBounds,dif_pos (by rw [Array.size_setIfInBounds];exact h)]
 rw [e1,Array.toList_eraseIdx,Array.toList_setIfInBounds,List.eraseIdx_eq_take_drop_succ,List.take_set,List.drop_set,zAx (by lia)]
 have e2:p.toList.take (i+1)=p.toList.take i++[p.toList[i]'(by lia)]:=by
  rw [zAj,zA0 (by lia)];rfl
 rw [e2,List.set_append_right _ _ (by rw [zAd];lia)];rw [zAd,show i - min i p.toList.length=0 by lia];simp
section
variable {prog:Program}{w:World}{A:Around}{E:Value->Shared->Prop}{s:Shared}{κ:PyProof.Rows.KeyKind}{ks:SortKind}{ab:Array Keyed}
structure St (κ:PyProof.Rows.KeyKind)(ks:SortKind)(ab:Array Keyed)(st:SortSt)(lo:Nat):Prop where
 base:SB ks ab st
 ch:Ch κ (arrOf st) (pendingOf st).toList 0 lo
 le:lo<=ab.size
theorem rH (hL:LtAll prog w A E s κ ks)(h0:KeysOf κ ab){st:SortSt}{lo i:Nat}(S:St κ ks ab st lo)(hi:i+1 < (pendingOf st).size){Q:Bool->SortSt->Prop}
  (h:∀ st',St κ ks ab st' lo->(pendingOf st').size+1=(pendingOf st).size->(∀ k,lo<=k->(arrOf st')[k]?=(arrOf st)[k]?)->Q true st'):wpS (model prog w) A E s (mergeAt' i) Q st:=by
 have hl:(pendingOf st).toList.length=(pendingOf st).size:=zA9;have d1:(pendingOf st).toList.drop i=(pendingOf st).toList[i]'(by lia)::(pendingOf st).toList.drop (i+1):=List.drop_eq_getElem_cons (by lia);have d2:(pendingOf st).toList.drop (i+1)=(pendingOf st).toList[i+1]'(by lia)::(pendingOf st).toList.drop (i+2):=List.drop_eq_getElem_cons (by lia);have g1:(pendingOf st)[i]?=some ((pendingOf st).toList[i]'(by lia)):=by rw [<- Array.getElem?_toList,zA0 (by lia)]
 have g2:(pendingOf st)[i+1]?=some ((pendingOf st).toList[i+1]'(by lia)):=by rw [<- Array.getElem?_toList,zA0 (by lia)]
 obtain ⟨⟨sa,na,pw⟩,ep⟩:∃ r,r=(pendingOf st).toList[i]'(by lia):=⟨_,rfl⟩
 obtain ⟨⟨sb,nb,Dx⟩,eq⟩:∃ r,r=(pendingOf st).toList[i+1]'(by lia):=⟨_,rfl⟩
 rw [<- ep] at d1 g1;rw [<- eq] at d2 g2;have c:=S.ch;rw [<- List.take_append_drop i (pendingOf st).toList,d1,d2] at c;obtain ⟨m,c1,c2⟩:=Ch.split.mp c;obtain ⟨q1,q2,q3,q4,q5,q6,q7⟩:=c2;dsimp only at q1 q2 q3 q4 q5 q6 q7;subst q1;subst q4;have lb:=Ch.le q7;have lm:=Ch.le c1;refine G9 hL h0 S.base g1 g2 q2 q5 (by have:=S.le;lia) q3 q6 fun st' M=>?_;have pl:(pendingOf st').toList=(pendingOf st).toList.take i++(sa,na+nb,pw)::(pendingOf st).toList.drop (i+2):=by rw [M.pend,wJ hi]
 refine h st' ⟨M.base,?_,S.le⟩ ?_ fun k hk=>M.out k (.inr (by lia))
 ·rw [pl];refine Ch.split.mpr ⟨sa,c1.same fun k _ k2=>M.out k (.inl k2),rfl,by dsimp only;lia,?_,?_⟩
  ·dsimp only;rw [<- Nat.add_assoc];exact M.seg
  ·dsimp only;rw [<- Nat.add_assoc];exact q7.same fun k k1 _=>M.out k (.inr k1)
 ·rw [<- zA9,pl,zA2,zAe,zAd,List.length_drop];lia
def rest (z lo n:Nat):Sm (ForInStep (Option Unit×Nat)):=do
 let s <- get
 match (pendingOf s).back? with
 | some (s1,n1,_)=>do
  let c <- forIn [0:z] ((none,()):Option Unit×Unit) fun _ _=>do
    let s <- get
    match (if (pendingOf s).size > 1 then (pendingOf s)[(pendingOf s).size - 2]? else none) with
    | some (_,_,nI) =>
     if nI<=power' z (2 * s1+n1) (2 * s1+n1+n1+n) z then pure (ForInStep.done (none,()))
     else do
      let b <- mergeAt' ((pendingOf s).size - 2)
      if (!b)=true then pure (ForInStep.done (some (),())) else pure (ForInStep.yield (none,()))
    | _=>pure (ForInStep.done (none,()))
  match c.1 with
  | some r=>pure (ForInStep.done (some r,lo))
  | none=>do
   modify fun s=>setPending s ((pendingOf s).modify ((pendingOf s).size - 1) fun x=>(x.1,x.2.1,power' z (2 * s1+n1) (2 * s1+n1+n1+n) z))
   modify fun s=>setPending s ((pendingOf s).push (lo,n,0))
   pure (ForInStep.yield (none,lo+n))
 | _=>do
  modify fun s=>setPending s ((pendingOf s).push (lo,n,0))
  pure (ForInStep.yield (none,lo+n))
theorem Ch.pw {κ:PyProof.Rows.KeyKind}{arr:Array Keyed}(f:Run->Run)(hf:∀ r,(f r).1=r.1/\(f r).2.1=r.2.1):∀ {l:List Run} {a b i:Nat},Ch κ arr l a b->Ch κ arr (l.modify i f) a b
 | [],a,b,i,h=>by
  cases i <;> exact h
 | r::l,a,b,0,h=>by
  obtain ⟨e1,e2⟩:=hf r;refine ⟨e1.trans h.1,by rw [e2];exact h.2.1,by rw [e2];exact h.2.2.1,?_⟩;rw [e2];exact h.2.2.2
 | r::l,a,b,i+1,h=>⟨h.1,h.2.1,h.2.2.1,Ch.pw f hf h.2.2.2⟩
theorem St.push {st:SortSt}{lo n:Nat}(S:St κ ks ab st lo)(n1:1<=n)(hn:lo+n<=ab.size)(sg:Seg κ (arrOf st) lo (lo+n)):St κ ks ab (setPending st ((pendingOf st).push (lo,n,0))) (lo+n):=by
 refine ⟨⟨S.base.kind,S.base.ok,S.base.pm⟩,?_,hn⟩;show Ch κ (arrOf st) ((pendingOf st).push (lo,n,0)).toList 0 (lo+n);rw [Array.toList_push];exact Ch.split.mpr ⟨lo,S.ch,rfl,n1,sg,rfl⟩
theorem St.pw {st:SortSt}{lo i:Nat}(S:St κ ks ab st lo)(f:Run->Run)(hf:∀ r,(f r).1=r.1/\(f r).2.1=r.2.1):St κ ks ab (setPending st ((pendingOf st).modify i f)) lo:=by
 refine ⟨⟨S.base.kind,S.base.ok,S.base.pm⟩,?_,S.le⟩;show Ch κ (arrOf st) ((pendingOf st).modify i f).toList 0 lo;rw [Array.toList_modify];exact S.ch.pw f hf
theorem uT (hL:LtAll prog w A E s κ ks)(h0:KeysOf κ ab){st:SortSt}{lo n x:Nat}(S:St κ ks ab st lo)(n1:1<=n)(hn:lo+n<=ab.size)(sg:Seg κ (arrOf st) lo (lo+n))(hx:x<=lo){Q:ForInStep (Option Unit×Nat)->SortSt->Prop}
  (h:∀ st',St κ ks ab st' (lo+n)->Q (.yield (none,lo+n)) st'):wpS (model prog w) A E s (rest ab.size lo n) Q st:=by
 unfold rest;refine wpS_bind (wpS_get ?_)
 cases (pendingOf st).back? with
 | none=>exact wpS_bind (wpS_modify (wpS_pure (h _ (S.push n1 hn sg))))
 | some q =>
  obtain ⟨s1,DH,p1⟩:=q;dsimp only;refine wpS_bind (wpS_mono (wpS_forRange (I:=fun _ c st'=>c=(none,())/\St κ ks ab st' lo/\Seg κ (arrOf st') lo (lo+n)) (Q:=fun c st'=>c=(none,())/\St κ ks ab st' lo/\Seg κ (arrOf st') lo (lo+n)) ?_ (fun _ _ z=>z) ⟨rfl,S,sg⟩) ?_)
  ·rintro y c st' _ _ ⟨rfl,S',fT⟩;refine wpS_bind (wpS_get ?_);by_cases h1:(pendingOf st').size > 1
   ·rw [zAx h1];have hl:(pendingOf st').size - 2 < (pendingOf st').size:=by lia
    rw [Array.getElem?_eq_getElem hl]
    obtain ⟨⟨a1,a2,nI⟩,eo⟩:∃ r,r=(pendingOf st')[(pendingOf st').size - 2]:=⟨_,rfl⟩
    rw [<- eo];dsimp only;split
    ·exact wpS_pure ⟨rfl,S',fT⟩
    ·refine wpS_bind (rH hL h0 S' (by lia) fun st2 S2 _ o2=>?_);rw [zAu (by decide)];exact wpS_pure ⟨rfl,S2,rG fT fun k k1 _=>o2 k k1⟩
   ·rw [zAu h1];exact wpS_pure ⟨rfl,S',fT⟩
  ·rintro c st' ⟨rfl,S',fT⟩;dsimp only;refine wpS_bind (wpS_modify (wpS_bind (wpS_modify (wpS_pure (h _ ?_)))));exact (S'.pw (fun x=>(x.1,x.2.1,power' ab.size (2 * s1+DH) (2 * s1+DH+DH+n) ab.size)) fun _=>⟨rfl,rfl⟩).push n1 hn fT
theorem ifl (c:Prop)[Decidable c](n:Nat):(if c then n - 1 else n)<=n:=by split <;> lia
theorem runs_wp (hL:LtAll prog w A E s κ ks)(h0:KeysOf κ ab){st:SortSt}(B:SB ks ab st)(hp:pendingOf st=#[]){Q:Unit->SortSt->Prop}
  (h:∀ st',SB ks ab st'->Seg κ (arrOf st') 0 ab.size->Q () st'):wpS (model prog w) A E s sortRuns' Q st:=by
 rw [sortRuns'_eq];refine wpS_bind (wpS_get ?_);dsimp only;rw [B.size];generalize minRun' ab.size ab.size 0=mr;refine wpS_bind (wpS_mono (wpS_forRange (I:=fun x c st'=>c.1=none/\St κ ks ab st' c.2/\x<=c.2) (Q:=fun c st'=>c.1=none/\St κ ks ab st' ab.size) ?_ ?_ ⟨rfl,⟨B,by rw [hp];rfl,zAp _⟩,zA3 _⟩) ?_)
 ·rintro x ⟨c0,lo⟩ st' _ hx ⟨rfl,S,dE⟩;dsimp only at S dE ⊢;by_cases qf:lo ≥ ab.size
  ·rw [zAx qf]
   have e:lo=ab.size:=by
    have:=S.le;lia
   refine wpS_pure ⟨rfl,?_⟩;rw [<- e];exact S
  ·rw [if_neg qf];refine wpS_bind (yj hL h0 (by lia) (by lia) S.base fun n fR B1 O1 n1 n2 IM=>?_);dsimp only
   have S1:St κ ks ab fR lo:=⟨B1,by rw [O1.pend];exact S.ch.same fun k _ k2=>O1.out k (.inl k2),S.le⟩
   have tr:∀ {m m':Sm (ForInStep (Option Unit×Nat))} {R:ForInStep (Option Unit×Nat)->SortSt->Prop} {st2:SortSt},m=m'->wpS (model prog w) A E s m' R st2->wpS (model prog w) A E s m R st2:=fun e h=>e ▸ h;by_cases hm:n < mr
   ·rw [if_pos hm];refine wpS_bind (wpS_lift (wpAny_rule ⟨rfl,?_⟩));refine wpS_bind (DW hL h0 (by lia) (by lia) B1 IM fun st2 B2 O2 bS=>?_);rw [if_neg (by decide)];refine tr ?_ (uT hL h0 ⟨B2,by rw [O2.pend];exact S1.ch.same fun k _ k2=>O2.out k (.inl k2),S.le⟩ (by lia) (by lia) bS dE fun fz S3=>⟨rfl,S3,by dsimp only;lia⟩)
    ·skip
     unfold rest;refine bc rfl (funext fun s=>?_)
     cases (pendingOf s).back? with
     | none=>rfl
     | some q =>
      obtain ⟨s1,n1,p⟩:=q;refine bc (fi (funext fun x=>funext fun c=>bc rfl (funext fun s=>?_))) (funext fun c=>?_)
      ·generalize (if (pendingOf s).size > 1 then (pendingOf s)[(pendingOf s).size - 2]? else none)=o
       cases o with
       | none=>rfl
       | some r =>
        obtain ⟨r1,r2,r3⟩:=r;exact ic rfl (bc rfl (funext fun b=>rfl))
      ·obtain ⟨r,u⟩:=c;cases r <;> rfl
   ·rw [if_neg hm];refine tr ?_ (uT hL h0 S1 n1 (by lia) IM dE fun fz S3=>⟨rfl,S3,by dsimp only;lia⟩)
    ·skip
     unfold rest;refine bc rfl (funext fun s=>?_)
     cases (pendingOf s).back? with
     | none=>rfl
     | some q =>
      obtain ⟨s1,n1,p⟩:=q;refine bc (fi (funext fun x=>funext fun c=>bc rfl (funext fun s=>?_))) (funext fun c=>?_)
      ·generalize (if (pendingOf s).size > 1 then (pendingOf s)[(pendingOf s).size - 2]? else none)=o
       cases o with
       | none=>rfl
       | some r =>
        obtain ⟨r1,r2,r3⟩:=r;exact ic rfl (bc rfl (funext fun b=>rfl))
      ·obtain ⟨r,u⟩:=c;cases r <;> rfl
 ·rintro ⟨c0,lo⟩ st' ⟨h1,S,h2⟩;dsimp only at h1 S h2 ⊢
  have e:lo=ab.size:=by
   have:=S.le;lia
  rw [<- e];exact ⟨h1,S⟩
 ·rintro ⟨c0,lo⟩ st' ⟨h1,S⟩;dsimp only at h1;subst h1;dsimp only
  have one:∀ {st':SortSt},St κ ks ab st' ab.size->(pendingOf st').size<=1->Seg κ (arrOf st') 0 ab.size:=fun {st'} S hs=>by
   have c:=S.ch;rw [<- zA9] at hs
   cases e:(pendingOf st').toList with
   | nil =>
    rw [e] at c;have c:0=ab.size:=c;intro i j _ _ h3;lia
   | cons r l =>
    rw [e] at c hs
    have l0:l=[]:=by
     cases l with
     | nil=>rfl
     | cons _ _=>rw [zAe,zAe] at hs;lia
    rw [l0] at c;obtain ⟨_,_,sg,c4⟩:=c;have c4:0+r.2.1=ab.size:=c4;rw [c4] at sg;exact sg
  have p0:(pendingOf st').size<=ab.size:=by
   have:=Ch.le S.ch;rw [zA9] at this;lia
  refine wpS_bind (wpS_mono (wpS_forRange (I:=fun x c st2=>c=(none,())/\St κ ks ab st2 ab.size/\(pendingOf st2).size+x<=ab.size) (Q:=fun c st2=>c=(none,())/\St κ ks ab st2 ab.size/\(pendingOf st2).size<=1) ?_ ?_ ⟨rfl,S,by lia⟩) ?_)
  ·rintro x c st2 _ hx ⟨rfl,S2,nr⟩;refine wpS_bind (wpS_get ?_);by_cases h1:(pendingOf st2).size<=1
   ·rw [zAx h1];exact wpS_pure ⟨rfl,S2,h1⟩
   ·rw [zAu h1];have hz:2<=(pendingOf st2).size:=by lia
    refine wpS_bind (rH hL h0 S2 (Nat.lt_of_le_of_lt (Nat.succ_le_succ (ifl _ _)) (show (pendingOf st2).size - 2+1 < (pendingOf st2).size by lia)) fun fz S3 z3 _=>?_);rw [zAu (by decide)];exact wpS_pure ⟨rfl,S3,by lia⟩
  ·rintro c st2 ⟨rfl,S2,nr⟩;exact ⟨rfl,S2,by lia⟩
  ·rintro c st2 ⟨rfl,S2,nr⟩;exact wpS_pure (h st2 S2.base (one S2 nr))
end
end Srt
namespace L2
open PySem PySem.Spec PyProof.Rows PySem.Calls
theorem ql:∀ a:List Int,HT.lexLt a a=false
 | []=>rfl
 | x::xs=>by
  rw [HT.lexLt_cons,zAx rfl];exact ql xs
theorem jU:∀ a b:List Int,HT.lexLt a b=false->HT.lexLt b a=false->a=b
 | [],[],_,_=>rfl
 | [],_::_,h,_=>by cases h
 | _::_,[],_,h=>by cases h
 | x::xs,y::ys,h1,h2=>by
  rw [HT.lexLt_cons] at h1 h2;by_cases e:x=y
  ·subst e;rw [zAx rfl] at h1 h2;rw [jU xs ys h1 h2]
  ·rw [zAu e] at h1;rw [zAu (Ne.symm e)] at h2;have h1:=of_decide_eq_false h1;have h2:=of_decide_eq_false h2;lia
theorem qm:∀ a b c:List Int,HT.lexLt a b=true->HT.lexLt b c=true->HT.lexLt a c=true
 | [],[],_,h,_=>by cases h
 | [],_::_,[],_,h=>by cases h
 | [],_::_,_::_,_,_=>rfl
 | _::_,[],_,h,_=>by cases h
 | _::_,_::_,[],_,h=>by cases h
 | x::xs,y::ys,z::zs,h1,h2=>by
  rw [HT.lexLt_cons] at h1 h2 ⊢;by_cases e1:x=y
  ·subst e1;rw [zAx rfl] at h1;by_cases e2:x=z
   ·subst e2;rw [zAx rfl] at h2 ⊢;exact qm xs ys zs h1 h2
   ·rw [zAu e2] at h2 ⊢;exact h2
  ·rw [zAu e1] at h1;have h1:=zB6 h1;by_cases e2:y=z
   ·subst e2;rw [zAu e1];exact zAt h1
   ·rw [zAu e2] at h2;have h2:=zB6 h2;rw [zAu (by lia)];exact zAt (by lia)
theorem uU (a b c:List Int)(h:HT.lexLt a c=true):HT.lexLt a b=true\/HT.lexLt b c=true:=by
 cases e1:HT.lexLt a b with
 | true=>exact .inl rfl
 | false =>
  cases e2:HT.lexLt b a with
  | true=>exact .inr (qm b a c e2 h)
  | false=>exact .inr (by rw [<- jU a b e1 e2];exact h)
def Bd (ads:List Addr)(row:Addr->List Int):PyProof.Rows.KeyKind where
 α:=List Int
 blt:=HT.lexLt
 irrefl:=ql
 trans:=qm
 negTrans:=uU
 total:=jU
 keyOf:=fun u=>match u with
  | .ref a=>if ads.contains a=true then some (row a) else none
  | _=>none
 dflt:=[]
section
open PySem.W
variable {prog:Program}{w:World}{A:Around}{E:Value->Shared->Prop}{s:Shared}
theorem yo {Q:Bool->Shared->Prop}:∀ {ns ms:List Int} {us vs:List Value} {i:Nat},Vals (ns.map V.int) us->Vals (ms.map V.int) vs->Q (HT.lexLt ns ms) s->KatLex prog w A true (decide (ns.length < ms.length)) Q (us.zip vs) i s
 | [],[],_,_,_,.nil,.nil,h=>h
 | [],_::_,_,_,_,.nil,.cons _ _,h=>by
  refine kat_nil ?_;rw [decide_eq_true (by simp)];exact h
 | _::_,[],_,_,_,.cons _ _,.nil,h=>by
  refine kat_nil ?_;rw [decide_eq_false (by simp)];exact h
 | x::ns,y::ms,_,_,i,.cons r1 t1,.cons r2 t2,h=>by
  obtain ⟨k1,rfl⟩:=r1;obtain ⟨k2,rfl⟩:=r2;rw [HT.lexLt_cons] at h;refine kat_cons (wpAny_eqBool_int ?_);by_cases e:x=y
  ·subst e;rw [zAx rfl] at h;rw [show (x == x)=true from beq_self_eq_true x];refine kat_yes ?_;have:=yo (i:=i+1) t1 t2 h;rw [show decide ((x::ns).length < (x::ms).length)=decide (ns.length < ms.length) by rw [zAe,zAe];exact decide_eq_decide.mpr (by lia)];exact this
  ·rw [zAu e] at h;rw [show (x == y)=false from beq_false_of_ne e];refine kat_no ?_
   cases hi:(true && i == 0) with
   | true=>exact oneLt_int h
   | false=>exact kat_one _ _ (lt_int h)
theorem Be {x y:Addr}{ox oy:Obj}{nx ny:Nat}{ns ms:List Int}{us vs:List Value}{Q:Bool->Shared->Prop}(hx:s.heap.get? x=some ox)(dx:ox.data=.seq us.toArray nx)(hy:s.heap.get? y=some oy)(dy:oy.data=.seq vs.toArray ny)
  (r1:Vals (ns.map V.int) us) (r2:Vals (ms.map V.int) vs) (h:Q (HT.lexLt ns ms) s):wpAny (model prog w) A (keyLt' (tuples' true) (.ref x) (.ref y)) Q E s:=by
 refine kat_lt hx dx hy dy ?_;have l1:=r1.length;have l2:=r2.length;rw [zA1] at l1 l2;have:=yo (prog:=prog) (w:=w) (A:=A) (s:=s) (Q:=Q) (i:=0) r1 r2 h;rw [zA8,zA8,<- l1,<- l2];exact this
theorem Bf {l:Addr}{vs:List Value}{Q:Value->Shared->Prop}{R:List Value->Prop}(lst:s.heap.IsList l vs.toArray)(fits:vs.length<=sizeLine)(small:vs.length < 2->R vs)
  (big:2<=vs.length->∀ g,(∀ b o,s.heap.get? b=some o->g.get? b=some o)->wpAny (model prog w) A.in1.in1 (keyKind' vs.toArray) (fun κ s1=>s1={ s with heap:=g } /\
    wpS (model prog w) A.in1.in1 (fun _ _=>False) { s with heap:=g } sortRuns' (fun _ st=>failedOf st=none/\∃ out,(arrOf st).map (·.2)=List.toArray out/\R out) (SortSt.mk' κ (vs.toArray.zip vs.toArray) #[] 7 none)) (fun _ _=>False) { s with heap:=g })
  (len:∀ out,R out->out.length=vs.length)
  (fin:∀ out,R out->∀ h2 c,(∀ b o,s.heap.get? b=some o->h2.get? b=some o)->h2.get? (s.heap.objs.size+1)=some (seqObj "list" out.toArray c)->Q (.ref (s.heap.objs.size+1)) { s with heap:=h2 }) :
  wpAny (model prog w) A (call (.builtin "sorted") [.ref l]) Q E s:=by
 refine call_function_entry kind_sorted plain_sorted entry_sorted (args_sorted1 _) ?_;unfold Builtin.«sorted»;refine zAw (m:=checkCount "sorted" 1 1 _) (zB0 (zAw (collect_list lst ?_ fits)));refine zAw (wpAny_newList ?_ fits);have kq:((s.heap.push (seqObj "list" #[] 0)).update s.heap.objs.size (Obj.mapSeq (·++vs.toArray))).objs.size=s.heap.objs.size+1:=by rw [Heap.size_update,Heap.size_push]
 obtain ⟨g1,xC⟩:∃ g1,g1=((s.heap.push (seqObj "list" #[] 0)).update s.heap.objs.size (Obj.mapSeq (·++vs.toArray))).push (seqObj "list" vs.toArray 0):=⟨_,rfl⟩
 have xE:g1.get? (s.heap.objs.size+1)=some (seqObj "list" vs.toArray 0):=by rw [xC,<- kq];exact zB3 _ rfl
 have Lh:∀ b o,s.heap.get? b=some o->g1.get? b=some o:=fun b o q=>by
  have lt:b < s.heap.objs.size:=zAy q;rw [xC,Heap.get?_push_ne _ _ _ (by rw [kq];exact zB4 (Nat.lt_succ_of_lt lt)),Heap.get?_update_ne _ _ _ _ (zB4 lt),Heap.get?_push_ne _ _ _ (zB4 lt)];exact q
 show wpAny _ _ _ _ _ { s with heap:=_ };rw [kq,show ((s.heap.push (seqObj "list" #[] 0)).update s.heap.objs.size (Obj.mapSeq (·++vs.toArray))).push (seqObj "list" vs.toArray 0)=g1 from xC.symm];refine zAw (wpAny_holding (wpAny_call_entry slot_list_sort ⟨_,xE,rfl⟩ entry_list_sort ?body (args_list_sort _)))
 obtain ⟨D,eD⟩:∃ D,D=s.heap.objs.size+1:=⟨_,rfl⟩
 rw [<- eD] at xE fin ⊢
 have apart:∀ b o,s.heap.get? b=some o->b≠D:=fun b o q e=>by
  have lt:b < s.heap.objs.size:=zAy q;rw [e,eD] at lt;exact absurd lt (Nat.not_lt_of_le (Nat.le_succ _))
 obtain ⟨g2,DI⟩:∃ g2,g2=g1.update D (Obj.mapSeq fun _=>(#[]:Array Value)):=⟨_,rfl⟩
 have Li:Heap.SameBut D g1 g2:=DI ▸ Heap.SameBut.update g1 D _
 obtain ⟨e1,at2⟩:∃ e1,g2.get? D=some (seqObj "list" #[] e1):=⟨_,DI ▸ get?_update_seq xE fun _=>#[]⟩
 obtain ⟨g3,DJ⟩:∃ g3,g3=(g2.push (seqObj "tuple" vs.toArray 0)).push (seqObj "list" #[] 0):=⟨_,rfl⟩
 have tf:g3.get? D=some (seqObj "list" #[] e1):=DJ ▸ Heap.get?_push_of_some _ (Heap.get?_push_of_some _ at2);have DL:∀ b o,s.heap.get? b=some o->g3.get? b=some o:=fun b o q=>DJ ▸ Heap.get?_push_of_some _ (Heap.get?_push_of_some _ ((Li.2 b (apart b o q)).trans (Lh b o q)));rw [list_sort_plain];refine wpAny_bind (listItems_at xE rfl (wpAny_bind (listUpdate_at xE rfl ?_ (by rw [zA8];exact fits) (zAp _))));rw [<- DI];refine wpAny_bind (seqEpoch_at at2 rfl (wpAny_bind (wpAny_newTuple (wpAny_bind (wpAny_newList (wpAny_holding ?_) (zAp _))) fits)));show wpAny (model prog w) A.in1.in1 _ _ _ { s with heap:=(g2.push (seqObj "tuple" vs.toArray 0)).push (seqObj "list" #[] 0) };rw [<- DJ];dsimp only;by_cases two:vs.toArray.size < 2
 ·have qo:vs.length < 2:=by rw [zA8] at two;exact two
  rw [if_pos two,if_pos two];refine wpAny_bind (wpAny_pure ?_);show wpAny _ _ (do let r <- (pure ((),SortSt.mk' general' (vs.toArray.zip vs.toArray) #[] 7 none):Sem (Unit×SortSt));_) _ _ _;refine wpAny_bind (wpAny_pure ?_);dsimp only
  have em:(vs.toArray.zip vs.toArray).map (·.2)=vs.toArray:=by
   apply Array.toList_inj.mp;simp only [Array.toList_map,Array.toList_zip];exact List.map_snd_zip (zA3 _)
  rw [em];refine wpAny_bind (seqEpoch_at tf rfl (wpAny_bind (listUpdate_at tf rfl ?_ (zAp _) (by rw [zA8];lia))));simp only [bne_self_eq_false,Bool.false_eq_true,if_false];have DM:=Heap.SameBut.update g3 D (Obj.mapSeq fun _=>vs.toArray);exact wpAny_pure ⟨_,rfl,wpAny_pure ⟨_,rfl,fin vs (small qo) _ _ (fun b o z=>(DM.2 b (apart b o z)).trans (DL b o z)) (get?_update_seq tf _)⟩⟩
 ·have qo:2<=vs.length:=by rw [zA8] at two;lia
  rw [if_neg two,if_neg two];refine wpAny_bind (wpAny_mono (big qo g3 DL) (fun κ s1 ⟨kg,run⟩=>?_) fun _ _ x=>x.elim);subst kg;refine wpAny_bind (wpAny_mono run ?_ fun _ _ x=>x.elim);rintro ⟨⟨⟩,st⟩ s2 ⟨Lj,IP,out,xI,hR⟩;subst Lj;dsimp only at IP xI ⊢;rw [xI];refine wpAny_bind (seqEpoch_at tf rfl (wpAny_bind (listUpdate_at tf rfl ?_ (zAp _) (by rw [zA8,len out hR];lia))));rw [IP];simp only [bne_self_eq_false,Bool.false_eq_true,if_false];have DM:=Heap.SameBut.update g3 D (Obj.mapSeq fun _=>out.toArray);exact wpAny_pure ⟨_,rfl,wpAny_pure ⟨_,rfl,fin out hR _ _ (fun b o z=>(DM.2 b (apart b o z)).trans (DL b o z)) (get?_update_seq tf _)⟩⟩
theorem mD {g:Heap}{ads:List Addr}{row:Addr->List Int}:∀ {l:List Addr},(∀ a∈l,∃ (us:List Value) (o:Obj) (n:Nat),g.get? a=some o/\o.cls=.type "tuple" /\ o.data=.seq us.toArray n/\Vals ((row a).map V.int) us/\row a≠[])->∃ fs,KatTups g (l.map Value.ref) fs/\fs.length=l.length/\∀ v∈fs,∃ i t,v=.int i t
 | [],_=>⟨[],.nil,rfl,fun _ h=>absurd h (by simp)⟩
 | a::l,h=>by
  obtain ⟨us,o,n,h1,h2,h3,h4,h5⟩:=h a (.head _);obtain ⟨fs,k,hl,hi⟩:=mD (ads:=ads) (row:=row) (l:=l) fun b hb=>h b (.tail _ hb)
  cases er:row a with
  | nil=>exact absurd er h5
  | cons i r =>
   rw [er] at h4
   cases h4 with
   | cons r1 t1 =>
    obtain ⟨t,rfl⟩:=r1;refine ⟨_,.cons h1 h2 h3 (f:=.int i t) (by simp) k,by rw [List.length_cons,List.length_cons,hl],fun v hv=>?_⟩;rcases zAo.mp hv with z | z
    ·exact ⟨i,t,z⟩
    ·exact hi v z
theorem Bg {l:List Addr}{row:Addr->List Int}{Q:SortKind->Shared->Prop}(obj:∀ a∈l,∃ (us:List Value) (o:Obj) (n:Nat),s.heap.get? a=some o/\o.cls=.type "tuple" /\ o.data=.seq us.toArray n/\Vals ((row a).map V.int) us/\row a≠[])(hl:0 < l.length)(h:Q (tuples' true) s) :
  wpAny (model prog w) A (keyKind' (l.map Value.ref).toArray) Q E s:=by
 obtain ⟨fs,kt,fl,fi⟩:=mD (ads:=l) (row:=row) obj;refine PySem.W.kat_kind (T:=.type "int") kt (by rw [fl];exact hl) (fun v hv=>?_) (by decide) h;obtain ⟨i,t,rfl⟩:=fi v hv;exact .now
theorem tY {l:List Addr}{row:Addr->List Int}(obj:∀ a∈l,∃ (us:List Value) (o:Obj) (n:Nat),s.heap.get? a=some o/\o.cls=.type "tuple" /\ o.data=.seq us.toArray n/\Vals ((row a).map V.int) us/\row a≠[]) :
  Srt.LtAll prog w A E s (Bd l row) (tuples' true):=fun st hk x y a b Q' ka kb hQ=>by
 obtain ⟨x1,x2⟩:=x;obtain ⟨y1,y2⟩:=y
 cases x1 with
 | ref xa =>
  cases y1 with
  | ref ya =>
   have ka:(if l.contains xa=true then some (row xa) else none)=some a:=ka;have kb:(if l.contains ya=true then some (row ya) else none)=some b:=kb;by_cases c1:l.contains xa=true
   ·rw [zAx c1] at ka;by_cases c2:l.contains ya=true
    ·rw [if_pos c2] at kb;cases ka;cases kb;obtain ⟨QL,o1,n1,g1,_,d1,r1,_⟩:=obj xa (by simpa using c1);obtain ⟨QM,o2,n2,g2,_,d2,r2,_⟩:=obj ya (by simpa using c2);rw [lt'_eq];refine wpS_bind (wpS_get ?_);rw [hk];refine wpS_bind (wpS_lift (wpAny_attempt (Be g1 d1 g2 d2 r1 r2 ⟨rfl,?_⟩)));exact wpS_pure hQ
    ·rw [zAu c2] at kb;cases kb
   ·rw [zAu c1] at ka;cases ka
  | _=>cases kb
 | _=>cases ka
theorem rJ (l:List Addr):((l.map Value.ref).toArray.zip (l.map Value.ref).toArray).toList=l.map fun a=>(Value.ref a,Value.ref a):=by
 rw [Array.toList_zip];show (l.map Value.ref).zip (l.map Value.ref)=_;rw [List.zip_map']
theorem oM (l:List Addr)(row:Addr->List Int):KeysOf (Bd l row) ((l.map Value.ref).toArray.zip (l.map Value.ref).toArray):=fun z dv=>by
 rw [rJ] at dv;obtain ⟨a,ha,rfl⟩:=zA5.mp dv;refine ⟨row a,?_⟩;show (if l.contains a=true then some (row a) else none)=some (row a);rw [if_pos (by simpa using ha)]
def yp (p:Keyed):Addr:=match p.1 with
 | .ref a=>a
 | _=>0
theorem rK {l:List Addr}{row:Addr->List Int}{a:Addr}(h:a∈l):Srt.key (Bd l row) (Value.ref a,Value.ref a)=row a:=by
 show (if l.contains a=true then some (row a) else none).getD []=row a;rw [if_pos (by simpa using h)];rfl
theorem wK {l:List Addr}{row:Addr->List Int}(obj:∀ a∈l,∃ (us:List Value) (o:Obj) (n:Nat),s.heap.get? a=some o/\o.cls=.type "tuple" /\ o.data=.seq us.toArray n/\Vals ((row a).map V.int) us/\row a≠[]){Q:Unit->SortSt->Prop}
  (h:∀ st (l':List Addr),failedOf st=none->(arrOf st).map (·.2)=List.toArray (l'.map Value.ref)->l'.Perm l->l'.Pairwise (fun a b=>HT.lexLt (row b) (row a)=false)->Q () st) :
  wpS (model prog w) A E s sortRuns' Q (SortSt.mk' (tuples' true) ((l.map Value.ref).toArray.zip (l.map Value.ref).toArray) #[] 7 none):=by
 refine Srt.runs_wp (κ:=Bd l row) (ks:=tuples' true) (tY obj) (oM l row) ⟨rfl,rfl,.refl _⟩ rfl fun st' B sg=>?_;have tj:=Array.perm_iff_toList_perm.mp B.pm;rw [rJ] at tj
 have e:(arrOf st').toList=((arrOf st').toList.map yp).map (fun a=>(Value.ref a,Value.ref a)):=by
  rw [zAr]
  conv=>lhs;rw [<- List.map_id (arrOf st').toList]
  refine List.map_congr_left fun z dv=>?_;obtain ⟨a,ha,rfl⟩:=zA5.mp (tj.mem_iff.mp dv);rfl
 have pm:((arrOf st').toList.map yp).Perm l:=by
  have:=tj.map yp;rw [zAr] at this;rw [show (yp ∘ fun a=>(Value.ref a,Value.ref a))=id from rfl,List.map_id] at this;exact this
 generalize (arrOf st').toList.map yp=l' at e pm;refine h st' l' B.ok ?_ pm ?_
 ·apply Array.toList_inj.mp;rw [Array.toList_map,e,zAr];rfl
 ·have ka:=Srt.keys_perm (oM l row) B.pm;have:=Srt.pw_of_seg ka (by rw [B.size];exact zA3 _) sg;rw [List.drop_zero,<- B.size,<- zA9,zAm,e,List.pairwise_map] at this;refine this.imp_of_mem fun {a b} ha hb hle=>?_;unfold Srt.leK at hle;rw [rK (pm.mem_iff.mp ha),rK (pm.mem_iff.mp hb)] at hle;exact hle
end
section
variable {X:Cx}
theorem oN:∀ {l:List Addr} {us:List Value},Vals (l.map V.ref) us->us=l.map Value.ref
 | [],_,.nil=>rfl
 | a::l,_,.cons r t=>by
  rw [oN t,show _=Value.ref a from r];rfl
theorem uV:∀ (l:List Addr),Vals (l.map V.ref) (l.map Value.ref)
 | []=>.nil
 | _::l=>.cons rfl (uV l)
theorem yq {α:Type}{R:α->α->Prop}:∀ {l:List α},l.length < 2->l.Pairwise R
 | [],_=>.nil
 | [_],_=>List.pairwise_singleton _ _
 | _::_::_,h=>absurd h (by simp)
theorem fu:du X (.builtin "sorted") (fun xs H Q=>∃ (p:Addr) (l:List Addr) (row:Addr->List Int),xs=[.ref p]/\SqL X.K H p (l.map V.ref)/\(∀ a∈l,SqT X.K H a ((row a).map V.int)/\row a≠[]) /\
  ∀ (q:Addr) (l':List Addr),H q=none->q≠sysModules->l'.Perm l->l'.Pairwise (fun a b=>HT.lexLt (row b) (row a)=false)->Q (.ref q) (upd H q (.lst (l'.map V.ref)))):=by
 intro pins s σ H xs us Q I r h;obtain ⟨p,l,row,rfl,hp,qq,q⟩:=h;obtain ⟨u,rfl,ru⟩:=vals1 r;cases ru;obtain ⟨its,rv,pl,hz⟩:=I.list hp;have ei:=oN rv;subst ei
 have hlen:(l.map Value.ref).length<=sizeLine:=by
  rw [zA1] at hz ⊢;exact hz
 have obj:∀ a∈l,∃ (us:List Value) (o:Obj) (n:Nat),s.heap.get? a=some o/\o.cls=.type "tuple" /\ o.data=.seq us.toArray n/\Vals ((row a).map V.int) us/\row a≠[]:=fun a ha=>by
  obtain ⟨ht,e8⟩:=qq a ha;obtain ⟨as,ra,pa,_⟩:=I.tuple ht;obtain ⟨oa,ga,ca,na,da⟩:=pa;exact ⟨as,oa,na,ga,ca,da,ra,e8⟩
 refine Bf (R:=fun out=>∃ l':List Addr,out=l'.map Value.ref/\l'.Perm l/\l'.Pairwise fun a b=>HT.lexLt (row b) (row a)=false) pl.isList hlen (fun hs=>⟨l,rfl,.refl _,?_⟩) (fun hb g kp=>?_) (fun out ⟨l',e,pm,_⟩=>by rw [e,zA1,zA1,pm.length_eq]) fun out ⟨l',e,pm,pw⟩ h2 c kp2 at2=>?_
 ·rw [zA1] at hs;exact yq hs
 ·have xS:∀ a∈l,∃ (us:List Value) (o:Obj) (n:Nat),g.get? a=some o/\o.cls=.type "tuple" /\ o.data=.seq us.toArray n/\Vals ((row a).map V.int) us/\row a≠[]:=fun a ha=>by
   obtain ⟨us,o,n,h1,h2⟩:=obj a ha;exact ⟨us,o,n,kp _ _ h1,h2⟩
  refine Bg (s:={ s with heap:=g }) xS (by rw [zA1] at hb;lia) ?_;refine ⟨rfl,wK (s:={ s with heap:=g }) xS fun st l' e1 e2 e3 e4=>⟨e1,l'.map Value.ref,e2,l',rfl,e3,e4⟩⟩
 ·subst e;exact ⟨.ref (s.heap.objs.size+1),_,I.laid (t':=s.toks) kp2 (Nat.le_succ _) (show ObjOk X.prog X.w _ h2 _ (.lst (l'.map V.ref)) from ⟨by rw [zA1,pm.length_eq];rw [zA1] at hz;exact hz,_,c,uV l',at2⟩),rfl,q _ l' (I.hok.fresh (Nat.le_succ _)) (Nat.ne_of_gt (zB2 I.big (Nat.le_succ _))) pm pw⟩
theorem qp:du X (.builtin "sorted") (fun xs H Q=>∃ (p:Addr) (l:List Addr) (row:Addr->List Int),xs=[.ref p]/\SqL X.K H p (l.map V.ref)/\(∀ a∈l,SqT X.K H a ((row a).map V.int)/\row a≠[]) /\
  ∀ (q:Addr) (l':List Addr),H q=none->l'.Perm l->l'.Pairwise (fun a b=>HT.lexLt (row b) (row a)=false)->Q (.ref q) (upd H q (.lst (l'.map V.ref)))):=by
 intro pins s σ H xs us Q I r h;obtain ⟨p,l,row,e,hp,qq,q⟩:=h;exact fu pins s σ H xs us Q I r ⟨p,l,row,e,hp,qq,fun q' l' a _ b c=>q q' l' a b c⟩
end
end L2
namespace L2.ZL
open PySem PySem.Spec PyProof.Rows
def Itz (K:PySem.W.Frag)(a b:Addr):It :=
 ⟨fun i H=>∃ xs ys x y,SqL K H a xs/\SqL K H b ys/\xs[i]?=some x/\ys[i]?=some y,
  fun i H v H'=>∃ T,H T=none/\v=.ref T/\∀ xs ys,SqL K H a xs->SqL K H b ys->∃ x y,xs[i]?=some x/\ys[i]?=some y/\H'=upd H T (.tup [x,y]),
  fun i H=>∃ xs ys,SqL K H a xs/\SqL K H b ys/\(xs.length<=i\/ys.length<=i)⟩
def tnz (z TI TO i1 i2 a b:Addr)(i:Nat)(h:Heap):Prop:=IsZip h z TI TO .none/\IsPair h TI (.ref i1) (.ref i2)/\(∃ u v,IsPair h TO u v)/\h.IsListIter i1 a i/\h.IsListIter i2 b i
theorem yr {P:Program}{w:World}{K:PySem.W.Frag}{es:List Expr}{k:Nat}{pos:Pos}{z TI TO i1 i2 a b:Addr}(D:ZipApart z TI TO i1 i2 a b) :
  Turn P w K (.Tuple es k pos) (Itz K a b) [z,TI,TO,i1,i2] z (tnz z TI TO i1 i2 a b) where
 mem:=by simp
 obj:=fun i h st c hc=>by
  obtain ⟨s1,s2,⟨u,v,s3⟩,⟨o4,s4,c4,d4⟩,⟨o5,s5,c5,d5⟩⟩:=st;simp only [List.mem_cons,List.not_mem_nil,or_false] at hc;rcases hc with e | e | e | e | e <;> subst e
  ·exact ⟨_,s1,fun v q=>by cases q⟩
  ·exact ⟨_,s2,fun v q=>by cases q⟩
  ·exact ⟨_,s3,fun v q=>by cases q⟩
  ·exact ⟨_,s4,fun v q=>by rw [d4] at q;cases q⟩
  ·exact ⟨_,s5,fun v q=>by rw [d5] at q;cases q⟩
 keep:=fun i h h' st kp=>by
  obtain ⟨s1,s2,⟨u,v,s3⟩,s4,s5⟩:=st;exact ⟨kp z (by simp) _ s1,kp TI (by simp) _ s2,⟨u,v,kp TO (by simp) _ s3⟩,s4.at fun o e=>kp i1 (by simp) o e,s5.at fun o e=>kp i2 (by simp) o e⟩
 item:=by
  intro X hP hw hK hc i pins s σ H E I hf st hg;subst hP hw hK;obtain ⟨s1,s2,⟨u,v,s3⟩,s4,s5⟩:=st;obtain ⟨xs,ys,x,y,hJ,A6,hx,hy⟩:=hg;obtain ⟨its,rv,p,_⟩:=I.list hJ;obtain ⟨IQ,fw,q,_⟩:=I.list A6;obtain ⟨ux,qa,rx⟩:=rv.get hx;obtain ⟨uy,Lk,ry⟩:=fw.get hy;refine wpAny_pyNext_zip_item D s1 s2 s3 s4 s5 p.isList q.isList (x:=ux) (y:=uy) (by simpa using qa) (by simpa using Lk) fun h1 g1 g2 g3 g4 g5 g6 kp=>?_;refine ⟨_,rfl,?_⟩;refine wpAny_letOwnedTupleGo_zip g1 fun h2 e1 sb=>?_
  have ne:∀ c,c∈[z,TI,TO,i1,i2]->c≠s.heap.objs.size:=fun c ay e=>by
   obtain ⟨f0,f1,f2,f3,f4,f5⟩:=hf c ay
   have:∃ o,s.heap.get? c=some o:=by
    simp only [List.mem_cons,List.not_mem_nil,or_false] at ay;rcases ay with q | q | q | q | q <;> subst q
    ·exact ⟨_,s1⟩
    ·exact ⟨_,s2⟩
    ·exact ⟨_,s3⟩
    ·exact let ⟨o,h,_⟩:=s4;⟨o,h⟩
    ·exact let ⟨o,h,_⟩:=s5;⟨o,h⟩
   obtain ⟨o,ho⟩:=this;exact absurd (zAy ho) (by rw [e];exact Nat.lt_irrefl _)
  have hT:H s.heap.objs.size=none:=I.hok.fresh (zA3 _)
  have kept:∀ c o,c ∉ [z,TO,i1,i2]->s.heap.get? c=some o->h2.get? c=some o:=fun c o ay e =>
   sb.extBut _ _ (fun q=>ay (by simp [q])) (kp c o (fun q=>ay (by simp [q])) (fun q=>ay (by simp [q])) (fun q=>ay (by simp [q])) (fun q=>ay (by simp [q])) e)
  have DO:∀ c,c∈[z,TO,i1,i2]->c∈[z,TI,TO,i1,i2]:=fun c ay=>by
   simp only [List.mem_cons,List.not_mem_nil,or_false] at ay ⊢;rcases ay with q | q | q | q <;> simp [q]
  have trk:∀ c o,H c=some o->c ∉ [z,TO,i1,i2]:=fun c o e ay=>by
   have:=(hf c (DO c ay)).1;rw [e] at this;cases this
  have jS:h2.get? s.heap.objs.size=some { cls:=.type "tuple",data:=.seq #[ux,uy] }:=sb.extBut _ _ (Ne.symm (ne z (by simp))) g5
  have kc:HOk X.prog X.w (upd H s.heap.objs.size (.tup [x,y])) h2:=fun c o e=>by
   by_cases hb:c=s.heap.objs.size
   ·subst hb;rw [aj] at e;cases e;exact ⟨by show 2<=sizeLine;decide,[ux,uy],.cons rx (.cons ry .nil),_,jS,rfl,_,rfl⟩
   ·rw [aA hb] at e
    refine (I.hok c o e).stay (fun d v hd q=>kept d v ?_ q) (fun d q=>by rw [aA (aC q hT)];exact q) fun d l q=>by rw [aA (aC q hT)];exact q
    rcases hd with e' | e'
    ·rw [e'];exact trk c o e
    ·exact trk d _ e'
  have I2:Inv X pins σ (upd H s.heap.objs.size (.tup [x,y])) { s with heap:=h2 }:=by
   refine I.step (g':=s.gens) (d':=s.drawn) (t':=s.toks) (ch:=[z,TO,i1,i2]) (fun c ay=>?_) (fun c o _ _ hn e _=>kept c o hn e) (fun c o _ _ hn e _=>⟨o.slots,kept c o hn e⟩)
    (fun c o _ e n=>by rw [aA (zB4 (zAy e))];exact n) (fun c o hn e=>⟨o,kept c o hn e⟩) (fun c l e=>by rw [aA (aC e hT)];exact e) (fun c o l e=>by rw [aA (aC e hT)];exact e)
    (fun c l e=>⟨#[],by rw [aA (aC e hT),e];simp⟩) (fun m hm=>?_) kc I.bare
   ·obtain ⟨f0,f1,f2,f3,f4,f5⟩:=hf c (DO c ay);exact ⟨f3,f1,f4,f5⟩
   ·obtain ⟨o,fv,ep,ho,r⟩:=hm;refine ⟨o,fv,ep,kept _ o (fun ay=>?_) ho,r⟩;exact (hf _ (DO _ ay)).2.1 rfl
  refine ⟨.ref s.heap.objs.size,_,I2,rfl,⟨s.heap.objs.size,hT,rfl,fun IE nK w9 Ll=>⟨x,y,?_,?_,rfl⟩⟩,⟨e1,?_,?_,?_,?_⟩,fun c ay=>?_⟩
  ·rw [I.list_inj w9 hJ];exact hx
  ·rw [I.list_inj Ll A6];exact hy
  ·exact sb.extBut _ _ D.TIz (kp _ _ D.TIz D.TITO D.TIi1 D.TIi2 s2)
  ·exact ⟨_,_,sb.extBut _ _ D.TOz g2⟩
  ·exact g3.extBut sb.extBut D.i1z
  ·exact g4.extBut sb.extBut D.i2z
  ·rw [aA (ne c ay)];exact (hf c ay).1
 done:=by
  intro X hP hw hK hc i pins s σ H E I hf st hg;subst hP hw hK;obtain ⟨s1,s2,⟨u,v,s3⟩,s4,s5⟩:=st;obtain ⟨xs,ys,hJ,A6,hlen⟩:=hg;obtain ⟨its,rv,p,_⟩:=I.list hJ;obtain ⟨IQ,fw,q,_⟩:=I.list A6;have hl:=rv.length;have kP:=fw.length
  refine wpAny_pyNext_zip_end (I.ok.hd hc) D s1 s2 s3 s4 s5 p.isList q.isList (by simp;lia) fun h' kp=>⟨rfl,?_⟩
  refine I.step (h':=h') (H':=H) (g':=s.gens) (d':=s.drawn) (t':=s.toks) (ch:=[z,TO,i1,i2]) (fun c ay=>?_) (fun c o _ _ hn e _=>kp c o (fun q=>hn (by simp [q])) (fun q=>hn (by simp [q])) (fun q=>hn (by simp [q])) (fun q=>hn (by simp [q])) e)
   (fun c o _ _ hn e _=>⟨o.slots,kp c o (fun q=>hn (by simp [q])) (fun q=>hn (by simp [q])) (fun q=>hn (by simp [q])) (fun q=>hn (by simp [q])) e⟩) (fun c o _ e n=>n) (fun c o hn e=>⟨o,kp c o (fun q=>hn (by simp [q])) (fun q=>hn (by simp [q])) (fun q=>hn (by simp [q])) (fun q=>hn (by simp [q])) e⟩)
   (fun _ _ e=>e) (fun _ _ _ e=>e) (fun c l e=>⟨#[],by rw [e];simp⟩) (fun m hm=>?_) (fun c o e=>?_) I.bare
  ·have:c∈[z,TI,TO,i1,i2]:=by
    simp only [List.mem_cons,List.not_mem_nil,or_false] at ay ⊢;rcases ay with q | q | q | q <;> simp [q]
   obtain ⟨f0,f1,f2,f3,f4,f5⟩:=hf c this;exact ⟨f3,f1,f4,f5⟩
  ·obtain ⟨o,fv,ep,ho,r⟩:=hm;exact ⟨o,fv,ep,kp _ o (Ne.symm (hf z (by simp)).2.1) (Ne.symm (hf TO (by simp)).2.1) (Ne.symm (hf i1 (by simp)).2.1) (Ne.symm (hf i2 (by simp)).2.1) ho,r⟩
  ·have nn:∀ d v c',c'∈[z,TI,TO,i1,i2]->H d=some v->d≠c':=fun d v c' ay q e'=>by
    have:=(hf c' ay).1;rw [<- e',q] at this;cases this
   have nz:∀ d v,H d=some v->d≠z/\d≠TO/\d≠i1/\d≠i2:=fun d v q=>⟨nn d v z (by simp) q,nn d v TO (by simp) q,nn d v i1 (by simp) q,nn d v i2 (by simp) q⟩
   refine (I.hok c o e).stay (fun d v hd q=>?_) (fun _ q=>q) fun _ _ q=>q;rcases hd with e' | e'
   ·rw [e'] at q ⊢;exact kp c v (nz c o e).1 (nz c o e).2.1 (nz c o e).2.2.1 (nz c o e).2.2.2 q
   ·exact kp d v (nz d _ e').1 (nz d _ e').2.1 (nz d _ e').2.2.1 (nz d _ e').2.2.2 q
 self:=fun _ _ _ _ _ st h=>wpAny_pyIter_zip st.1 h
section
variable {X:Cx}
def Hu (K:PySem.W.Frag)(t:TA):TI:=fun σ H R=>t σ H fun vs H1=>∃ a b xs ys,vs=[.ref a,.ref b]/\SqL K H1 a xs/\SqL K H1 b ys/\R (Itz K a b) H1
theorem pi_zip {es:List Expr}{k:Nat}{tp:Pos}{a b:Expr}{ta:TA}{p pos:Pos}(hg:Gl X "zip")(hm:X.mg "zip" = none)(ha:PA X [a,b] ta)(hs:starEach [a,b] X.env=[(false,eval a X.env),(false,eval b X.env)]:=by rfl)(sL:starEach [b] X.env=[(false,eval b X.env)]:=by rfl) :
  PI X (.Tuple es k tp) (.Call (.Name "zip" p) [a,b] [] pos) (Hu X.K ta):=by
 intro pins s σ H R I h;refine Call_ (fP I hg hm boot_zip (PyProof.Rows.callWith_type1 (thn (ha pos pins s σ H _ I h) fun us s1 ⟨vs,H1,I1,r1,q1⟩=>?_) (by rw [hs,sL]) (by rw [sL];rfl)));obtain ⟨x,y,xs,ys,e,hx,hy,q⟩:=q1;subst e;obtain ⟨u,v,rfl,ru,rv⟩:=vals2 r1;cases ru;cases rv;obtain ⟨its,_,p1,_⟩:=I1.list hx;obtain ⟨IQ,_,p2,_⟩:=I1.list hy;refine call_zip_2 p1.isList p2.isList fun h' z1 z2 z3 z4 z5 _ kp=>?_;refine wpAny_pyIter_zip z1 ?_;have lx:x < s1.heap.objs.size:=by obtain ⟨_,e,_⟩:=p1.isList;exact zAy e
 have ly:y < s1.heap.objs.size:=by obtain ⟨_,e,_⟩:=p2.isList;exact zAy e
 refine ⟨_,_,_,_,H1,rfl,I1.kept (t':=s1.toks) kp,yr (zipApart_new lx ly),⟨z1,z2,⟨_,_,z3⟩,z4,z5⟩,fun c hc=>?_,q⟩
 have hle:s1.heap.objs.size<=c:=by
  simp only [List.mem_cons,List.not_mem_nil,or_false] at hc;rcases hc with q | q | q | q | q <;> subst q
  ·exact Nat.le_add_right _ 4
  ·exact Nat.le_add_right _ 2
  ·exact Nat.le_add_right _ 3
  ·exact zA3 _
  ·exact Nat.le_add_right _ 1
 exact I1.fpOk hle (I1.hok.fresh hle)
end
end L2.ZL
namespace L2
open PySem PySem.Spec PyProof.Rows
theorem wL {M:Model}{A:Around}{E:Value->Shared->Prop}{s:Shared}{a b:Value}{Q:Value->Shared->Prop}(ha:s.TypeIs a "list")(hb:s.TypeIs b "list")(hc:wpAny M A (call (.builtin "list.__iadd__") [a,b]) Q E s):wpAny M A (inplaceOp .Add a b) Q E s:=by
 unfold inplaceOp;refine wpAny_holding ?_;have hl:typeLookup (.type "list") (dunderI "add")=pure (some (.builtin "list.__iadd__")):=F.slot_list_iadd.lookup
 have Lm:fillsInplaceSlot (.type "list") "add" (Operator.Add == .Add)=pure false:=by
  unfold fillsInplaceSlot;show (typeLookup (.type "list") (dunderI "add") >>= fun fi=>pure (fi.isSome && !isSeqSlot fi))=pure false;rw [hl];have:isSeqSlot (some (.builtin "list.__iadd__"))=true:=by decide +kernel
  show (pure (true && !isSeqSlot (some (.builtin "list.__iadd__"))):Sem Bool)=_;rw [this];rfl
 have IS:seqSlot? (.type "list") (dunderI "add")=pure (some (.builtin "list.__iadd__")):=PySem.seqSlot_of F.slot_list_iadd.lookup (by decide +kernel);refine zAw (wpAny_typeOf ha (zAw (wpAny_of_eq Lm ?_)));show wpAny M A (if false=true then _ else _) Q E s;rw [zAu zAg];refine zAw (wpAny_binaryOp1_none (nm:="add") ha hb noFill_list_add ?_);refine zAw (wpAny_of_eq IS ?_);exact zAw (wpAny_rule hc)
inductive RICatI (x:V)(y:V)(H:Hp)(Q:VK):Prop
 | mk:∀ l b xs zs,(x=.ref l)->(y=.ref b)->(H l=some (.lst xs))->(H b=some (.lst zs))->(xs.length+zs.length<=sizeLine)->(Q (.ref l) (upd H l (.lst (xs++zs))))->RICatI  x y H Q
def Ga:TIp:=fun x y H Q=>RICatI  x y H Q
theorem qt {X:Cx}:PIp X .Add Ga:=by
 intro pins s σ H x y v u Q I rx ru h;obtain ⟨l,b,xs,zs,rfl,rfl,hH,hB,hz,q⟩:=h;cases rx;cases ru;obtain ⟨z,its,n,r,hl,e⟩:=I.lstM hH;obtain ⟨z2,bq,n2,r2,kP,e2⟩:=I.lstM hB;have hsz:its.toArray.size+bq.toArray.size<=sizeLine:=by rw [zA8,zA8];lia
 have fF:¬ (!its.toArray.isEmpty && Builtin.List.listTooLong (its.toArray.size+bq.toArray.size))=true:=by
  rw [lB hsz,Bool.and_false];exact zAg
 refine wL ⟨_,e,rfl⟩ ⟨_,e2,rfl⟩ (call_meets F.slot_list_iadd ⟨_,e,rfl⟩ F.entry_list_iadd (F.args_list_iadd_2 _ _)
  (AutoSeq1.list___iadd___list_list_0 l its.toArray n b bq.toArray n2 fF (by rw [zA8];lia) (by lia)) ⟨e,e2,?_⟩)
 refine ⟨.ref l,_,I.lset (its':=its++bq) hH e (by simp) (r.append r2) ?_,rfl,q⟩;rw [zA2];lia
section
variable {prog:Program}{w:World}{A:Around}{E:Value->Shared->Prop}{s:Shared}{d it:Addr}{o:Obj}{es:Array DictEntry}{ep i:Nat}
theorem Bh {R:Value->Shared->Prop}(n1:(d == sysModules)=false)(g1:s.heap.get? d=some o)(g2:o.ExactDict)(g3:o.data=.dict es ep)
  (q:R (.ref s.heap.objs.size) { s with heap:=s.heap.push { cls:=.type "dict_keyiterator",data:=.fields #[.ref d,.int 0 0,.int es.size 0,.int ep 0] } }):wpAny (model prog w) A (pyIter (.ref d)) R E s:=by
 have ty:s.TypeIs (.ref d) "dict" := ⟨o,g1,g2.1⟩
 refine wpAny_pyIter_slot ty F.slot_dict_iter (wpAny_call_entry F.slot_dict_iter ty F.entry_dict_iter ?_ (F.args_dict_iter_1 _));unfold Builtin.«dict.__iter__»;refine zAw ?_;unfold Builtin.Dict.dictSlotNone;refine zAw (wpAny_notOrdered_dict ty (show wpAny _ _ (pure (Value.ref d)) _ _ s from zB0 ?_));show wpAny (model prog w) _ (Builtin.Dict.showsAll d >>= _) _ E s;unfold Builtin.Dict.showsAll;rw [n1,zAu zAg];refine zAw (zB0 (zAw (wpAny_dictEntries g1 g3 (zAw (wpAny_dictEpoch g1 g3 ?_)))));refine zAw (wpAny_newObj_type (zB0 ⟨_,rfl,"dict_keyiterator",_,⟨_,zB3 _ rfl,rfl⟩,F.slot_dict_keyiterator_next.lookup,?_⟩));exact q
theorem Bj {e:DictEntry}{R:Option Value->Shared->Prop}(st:s.heap.IsKeyIter it d i es.size ep)(g1:s.heap.get? d=some o)(g3:o.data=.dict es ep)(hx:es[i]?=some e)
  (q:∀ h',h'.IsKeyIter it d (i+1) es.size ep->Heap.SameBut it s.heap h'->R (some e.key) { s with heap:=h' }):wpAny (model prog w) A (pyNext (.ref it)) R E s:=by
 obtain ⟨oi,i1,i2,i3⟩:=id st;have hb:i < es.size:=(Array.getElem?_eq_some_iff.mp hx).1;unfold pyNext;refine zAw (wpAny_attempt (wpAny_callSpecial?_slot (name:=Str.ofString "__next__") st.typeIs F.slot_dict_keyiterator_next (wpAny_call_entry F.slot_dict_keyiterator_next st.typeIs F.entry_dict_keyiterator_next ?_ (F.args_dict_keyiterator_next_1 _))));refine zAw (zB0 (zAw (zAw ?_)));refine zAw (wpAny_typeNameOfWhole_keyiter st.typeIs (zB0 (zAw (wpAny_fieldsOf i1 i3 ?_))));have ow:Builtin.Dict_items.ownsTuple "dict_keyiterator" = false:=by decide
 simp only [ow,Bool.false_eq_true,if_false];show wpAny (model prog w) _ (if (Value.ref d == Value.none)=true then _ else _) _ _ s;rw [if_neg (show ¬ (Value.ref d == Value.none)=true from zAg)];refine wpAny_bind (wpAny_pure (wpAny_bind (wpAny_dictEntries g1 g3 ?_)));rw [if_neg (by simp)];refine wpAny_bind (wpAny_pure (wpAny_bind (wpAny_dictEpoch g1 g3 ?_)));rw [if_neg (by simp)];refine wpAny_pure ?_;simp only [show ¬ ((i:Int) < 0) from by lia,if_false,Int.toNat_natCast,hx];refine wpAny_bind (wpAny_bind (wpAny_typeNameOfWhole_keyiter st.typeIs (wpAny_pure ?_)));refine wpAny_bind (wpAny_isOneOf_keyiter st.typeIs ?_);show wpAny (model prog w) _ (setField (.ref it) 1 (rawInt ((i:Int)+1)) >>= _) _ _ s;refine wpAny_bind (wpAny_setField i1 i3 (by simp) ?_)
 have st':(s.heap.update it (Obj.mapFields (·.setIfInBounds 1 (rawInt ((i:Int)+1))))).IsKeyIter it d (i+1) es.size ep :=
  ⟨_,Heap.get?_update_self _ i1 (Obj.isFreed_of_fields (Obj.data_mapFields i3 _)),(Obj.cls_mapFields ..).trans i2,by rw [Obj.data_mapFields i3];simp [rawInt]⟩
 refine zAw (wpAny_holding (zAw (wpAny_isOneOf_keyiter (s:={ s with heap:=s.heap.update it (Obj.mapFields (·.setIfInBounds 1 (rawInt ((i:Int)+1)))) }) st'.typeIs ?_)));show wpAny (model prog w) _ (pure e.key) _ _ _;exact zB0 (zB0 ⟨_,rfl,zB0 (q _ st' (Heap.SameBut.update ..))⟩)
theorem DX {R:Option Value->Shared->Prop}(hh:A.handled=none)(st:s.heap.IsKeyIter it d i es.size ep)(g1:s.heap.get? d=some o)(g3:o.data=.dict es ep)(hx:es.size<=i)
  (q:∀ h',Heap.ExtBut it s.heap h'->R none { s with heap:=h' }):wpAny (model prog w) A (pyNext (.ref it)) R E s:=by
 obtain ⟨oi,i1,i2,i3⟩:=id st;unfold pyNext;refine zAw (wpAny_attempt (wpAny_callSpecial?_slot (name:=Str.ofString "__next__") st.typeIs F.slot_dict_keyiterator_next (wpAny_call_entry F.slot_dict_keyiterator_next st.typeIs F.entry_dict_keyiterator_next ?_ (F.args_dict_keyiterator_next_1 _))));refine zAw (zB0 (zAw (zAw ?_)));refine zAw (wpAny_typeNameOfWhole_keyiter st.typeIs (zB0 (zAw (wpAny_fieldsOf i1 i3 ?_))));have ow:Builtin.Dict_items.ownsTuple "dict_keyiterator" = false:=by decide
 simp only [ow,Bool.false_eq_true,if_false];show wpAny (model prog w) _ (if (Value.ref d == Value.none)=true then _ else _) _ _ s;rw [if_neg (show ¬ (Value.ref d == Value.none)=true from zAg)];refine wpAny_bind (wpAny_pure (wpAny_bind (wpAny_dictEntries g1 g3 ?_)));rw [if_neg (by simp)];refine wpAny_bind (wpAny_pure (wpAny_bind (wpAny_dictEpoch g1 g3 ?_)));rw [if_neg (by simp)];refine wpAny_pure ?_;simp only [show ¬ ((i:Int) < 0) from by lia,if_false,Int.toNat_natCast,Array.getElem?_eq_none hx];refine wpAny_bind (wpAny_bind (wpAny_typeNameOfWhole_keyiter st.typeIs (wpAny_pure ?_)));show wpAny (model prog w) _ (setField (.ref it) 0 .none >>= _) _ _ s;refine wpAny_bind (wpAny_setField i1 i3 (by simp) ?_);show wpAny (model prog w) _ (newExc (.type "StopIteration") [] >>= _) _ _ _;refine wpAny_bind ?_;simp only [newExc,newTuple];refine wpAny_bind (wpAny_newObj_type (wpAny_bind (m:=firstArgMember _ _) (wpAny_of_eq (a:=Value.none) (by first | rfl | (simp only [firstArgMember];rfl)) ?_)) (by size_fits));refine wpAny_newObj_type ?_ (by size_fits);simp only [raiseNew];refine wpAny_bind (wpAny_handled ?_);rw [show A.in1.handled=none from hh];refine wpAny_bind (wpAny_pure (wpAny_throw ?_));refine wpAny_bind (wpAny_isInstance (b:=true) (T:="StopIteration") ⟨_,Heap.get?_push_size _ rfl,rfl⟩ isSubtype_stop ?_);exact wpAny_pure (q _ (((Heap.SameBut.update ..).extBut.push _).push _))
end
def Itd (d:Addr)(o:Obj)(kvs:List (List Key×V)):It :=
 ⟨fun i H=>H d=some (.frz o (.dT kvs))/\i < kvs.length,fun i H x H'=>H'=H/\∃ b k v,x=.ref b/\kvs[i]?=some (k,v)/\H b=some (.tup (k.map kV)),fun i H=>H d=some (.frz o (.dT kvs))/\kvs.length<=i⟩
theorem KT.get {H:Hp}:∀ {kvs:List (List Key×V)} {xs:List (List Key×Addr×Value)} {i:Nat} {k:List Key} {v:V},KT H kvs xs->kvs[i]?=some (k,v)->∃ b u,xs[i]?=some (k,b,u)/\H b=some (.tup (k.map kV))
 | _,_,_,_,_,.nil,e=>by simp at e
 | p::_,q::_,0,k,v,.cons r t,e=>by
  rw [List.getElem?_cons_zero] at e;cases e;obtain ⟨h1,h2,_⟩:=r;refine ⟨q.2.1,q.2.2,?_,h2⟩;rw [List.getElem?_cons_zero];show some q=some (k,q.2.1,q.2.2);rw [show k=q.1 from h1]
 | p::_,q::_,i+1,k,v,.cons r t,e=>by
  rw [List.getElem?_cons_succ] at e;obtain ⟨b,u,e1,e2⟩:=KT.get t e;exact ⟨b,u,by rw [List.getElem?_cons_succ];exact e1,e2⟩
theorem KT.len {H:Hp}:∀ {kvs:List (List Key×V)} {xs:List (List Key×Addr×Value)},KT H kvs xs->xs.length=kvs.length
 | _,_,.nil=>rfl
 | _,_,.cons _ t=>by rw [zAe,zAe,KT.len t]
theorem Inv.frzT {X:Cx}{pins:List (Addr×Obj)}{σ:St}{H:Hp}{s:Shared}{d:Addr}{o:Obj}{kvs:List (List Key×V)}(I:Inv X pins σ H s)(e:H d=some (.frz o (.dT kvs))):s.heap.get? d=some o/\o.ExactDict/\(d == sysModules)=false /\
  ∃ es ep xs,o.data=.dict es ep/\KT H kvs xs/\es.toList=xs.map (entryOfKey (tupleKind (cA X.prog X.w))):=by
 obtain ⟨e0,_,hs,xs,kt,o',es,ep,g1,g2,g3,g4,_⟩:=(show ObjOk X.prog X.w H s.heap d (.frz o (.dT kvs)) from I.hok _ _ e)
 rw [e0] at g1;cases g1;exact ⟨e0,g2,hs,es,ep,xs,g3,kt,g4⟩
theorem wM {P:Program}{w:World}{H:Hp}{kvs:List (List Key×V)}{xs:List (List Key×Addr×Value)}{es:Array DictEntry}(kt:KT H kvs xs)(e:es.toList=xs.map (entryOfKey (tupleKind (cA P w)))):es.size=kvs.length:=by
 rw [<- zA9,e,zA1,kt.len]
theorem wN {P:Program}{w:World}{K:PySem.W.Frag}{tg:Expr}(d it:Addr)(o:Obj)(kvs:List (List Key×V))(es:Array DictEntry)(ep:Nat)(od:o.data=.dict es ep)(hz:es.size=kvs.length):Turn P w K tg (Itd d o kvs) [it] it (fun i h=>h.IsKeyIter it d i es.size ep) where
 mem:=by simp
 obj:=fun i h st b hb=>by
  have e:b=it:=by simpa using hb
  subst e;obtain ⟨o,e,c,d⟩:=st;exact ⟨o,e,fun v z=>by rw [d] at z;cases z⟩
 keep:=fun i h h' st k=>st.at fun o e=>k it (by simp) o e
 item:=by
  intro X hP hw hK hc i pins s σ H E I hf st hg;subst hP hw hK;obtain ⟨hq,hx⟩:=hg;obtain ⟨e0,g2,hs,fv,u7,xs,g3,kt,g4⟩:=I.frzT hq;rw [od] at g3;cases g3;obtain ⟨b,u,ex,eb⟩:=kt.get (k:=kvs[i].1) (v:=kvs[i].2) (zA0 hx);have ee:es[i]?=some (entryOfKey (tupleKind (cA X.prog X.w)) (kvs[i].1,b,u)):=by rw [entry_at g4,ex];rfl
  obtain ⟨f0,f1,f2,f3,f4,f5⟩:=hf it (by simp);refine Bj st e0 od ee fun h' st' sb=>?_;have I1:Inv X pins σ H { s with heap:=h' }:=I.turned (t':=s.toks) (fun b o hb e=>(sb.2 b hb).trans e) f0 f1 f3 f4 f5;obtain ⟨o2,e2,c2,d2⟩:=id st';exact ⟨.ref b,rfl,qQ (s:={ s with heap:=h' }) e2 c2 d2 (by decide) ⟨.ref b,H,I1,rfl,⟨rfl,b,kvs[i].1,kvs[i].2,rfl,zA0 hx,eb⟩,st',fun b hb=>(hf b hb).1⟩⟩
 done:=by
  intro X hP hw hK hc i pins s σ H E I hf st hg;subst hP hw hK;obtain ⟨hq,hx⟩:=hg;obtain ⟨e0,g2,hs,fv,u7,xs,g3,kt,g4⟩:=I.frzT hq;rw [od] at g3;cases g3;obtain ⟨f0,f1,f2,f3,f4,f5⟩:=hf it (by simp)
  exact DX (I.ok.hd hc) st e0 od (by lia) fun h' eb=>⟨rfl,I.turned (t':=s.toks) (fun b o hb e=>eb b o hb e) f0 f1 f3 f4 f5⟩
 self:=fun _ _ _ _ _ st h=>wpAny_pyIter_keyiter st h
section
variable {X:Cx}{tg:Expr}
def Gb (tl:TE):TI:=fun σ H R=>tl σ H fun x H1=>∃ d o kvs,x=.ref d/\H1 d=some (.frz o (.dT kvs))/\R (Itd d o kvs) H1
theorem Bk {l:Expr}{tl:TE}(hl:PE X l tl):PI X tg l (Gb tl):=by
 intro pins s σ H R I h;refine thn (hl pins s σ H _ I h) fun v s1 ⟨x,H1,I1,r1,q1⟩=>?_;obtain ⟨d,o,kvs,e,hq,q⟩:=q1;subst e;cases r1;obtain ⟨e0,g2,hs,es,ep,xs,g3,kt,g4⟩:=I1.frzT hq;refine Bh hs e0 g2 g3 ?_;refine ⟨s1.heap.objs.size,[s1.heap.objs.size],_,_,H1,rfl,I1.kept (t':=s1.toks) fun b o e=>Heap.get?_push_of_some _ e,wN d _ o kvs es ep g3 (wM kt g4),⟨_,Heap.get?_push_size _ rfl,rfl,rfl⟩,fun b hb=>?_,q⟩;have e:b=s1.heap.objs.size:=by simpa using hb
 subst e;exact I1.fpOk (zA3 _) (I1.hok.fresh (zA3 _))
end
open PySem PyProof.Rows HT
section
variable {X:Cx}{tg:Expr}
inductive TFrzSI (t:TS)(D:Ends)(σ:St)(H:Hp):Prop
 | mk:∀ d kvs,(H d=some (.dT kvs))->(∀ o,t { D with nx:=fun ai H'=>H' d=some (.frz o (.dT kvs))/\D.nx ai (upd H' d (.dT kvs)),bk:=fun _ _=>False,ct:=fun _ _=>False,rt:=fun _ _=>False } σ (upd H d (.frz o (.dT kvs))))->TFrzSI t D σ H
def Gd (t:TS):TS:=fun D σ H=>TFrzSI t D σ H
theorem DY {e:Stmt}{t:TS}(h:PS X e t):PS X e (Gd t):=by
 intro pins s σ H D I hq;obtain ⟨d,kvs,ed,hq⟩:=hq
 obtain ⟨hz,hs,xs,kt,o,es,ep,g1,g⟩:=(show ObjOk X.prog X.w H s.heap d (.dT kvs) from I.hok _ _ ed)
 have nt:∀ {b:Addr} {u:HO},H b=some u->u≠.dT kvs->b≠d:=fun {b u} e n z=>by
  rw [z,ed] at e;exact n (zAl e).symm
 have I1:Inv X pins σ (upd H d (.frz o (.dT kvs))) { s with heap:=s.heap,toks:=s.toks }:=by
  refine I.un ⟨fun b ob q _ _ _=>q,fun b ob q _ _ _=>⟨ob.slots,q⟩,fun b ob q n _=>?_,fun b ob q _=>⟨ob,q⟩,fun b xs q=>?_,fun b ob u q=>?_,fun b ps q=>⟨#[],?_⟩⟩ fun b u e=>?_
  ·rw [aA fun z=>by rw [z,ed] at n;cases n];exact n
  ·rw [aA (nt q fun z=>by cases z)];exact q
  ·rw [aA (nt q fun z=>by cases z)];exact q
  ·rw [aA (nt q fun z=>by cases z),q];simp
  ·have f6:∀ c xs,H c=some (.tup xs)->upd H d (.frz o (.dT kvs)) c=some (.tup xs):=fun c xs q=>by
    rw [aA (nt q fun z=>by cases z)];exact q
   by_cases hb:b=d
   ·subst hb;rw [aj] at e;cases e;exact ⟨g1,(show ObjOk X.prog X.w H s.heap b (.dT kvs) from I.hok _ _ ed).stay (fun _ _ _ q=>q) (fun c q=>by rw [aA (nt q fun z=>by cases z)];exact q) f6⟩
   ·rw [aA hb] at e;exact (I.hok b u e).stay (fun _ _ _ q=>q) (fun c q=>by rw [aA (nt q fun z=>by cases z)];exact q) f6
 refine thn (h pins s σ _ _ I1 (hq o)) fun fl s1 A7=>?_
 cases fl with
 | brk=>obtain ⟨_,_,_,z⟩:=A7;exact z.elim
 | cont=>obtain ⟨_,_,_,z⟩:=A7;exact z.elim
 | ret u=>obtain ⟨_,_,_,_,_,z⟩:=A7;exact z.elim
 | next =>
 obtain ⟨B8,H1,J,e1,q1⟩:=A7
 have A8:∀ {b:Addr} {u:HO},H1 b=some u->u≠.frz o (.dT kvs)->b≠d:=fun {b u} e n z=>by
  rw [z,e1] at e;exact n (zAl e).symm
 have fr:∀ b,H1 b=none->upd H1 d (.dT kvs) b=none:=fun b n=>by
  rw [aA fun z=>by rw [z,e1] at n;cases n];exact n
 refine ⟨B8,upd H1 d (.dT kvs),⟨J.ok,J.os,J.bare,⟨J.base.keep,J.base.slot,fun b ob q n hx=>fr b (J.base.free b ob q n hx),J.base.there,fun b xs q=>?_,fun b ob u q=>?_,fun b ps q=>?_⟩,J.loc,J.cell,fr _ J.free,fun y c e=>fr _ (J.freeC y c e),fun p hp=>?_,fun b u e=>?_,J.len⟩,q1⟩
 ·have:=J.base.tups b xs q;rw [aA (A8 this fun z=>by cases z)];exact this
 ·have h0:=I.base.frzs b ob u q;have:=J.base.frzs b ob u q;rw [aA (nt h0 fun z=>by cases z)];exact this
 ·obtain ⟨m,e⟩:=J.base.tbls b ps q;exact ⟨m,by rw [aA (A8 e fun z=>by cases z)];exact e⟩
 ·obtain ⟨a,n,c⟩:=J.pin p hp;exact ⟨a,fr _ n,c⟩
 ·have f6:∀ c xs,H1 c=some (.tup xs)->upd H1 d (.dT kvs) c=some (.tup xs):=fun c xs q=>by
   rw [aA (A8 q fun z=>by cases z)];exact q
  have nL:∀ a c,H1 c=some (.own a)->upd H1 d (.dT kvs) c=some (.own a):=fun a c q=>by
   rw [aA (A8 q fun z=>by cases z)];exact q
  by_cases hb:b=d
  ·subst hb;rw [aj] at e;cases e;exact ObjOk.stay (show ObjOk X.prog X.w H1 s1.heap b (.dT kvs) from (show ObjOk X.prog X.w H1 s1.heap b (.frz o (.dT kvs)) from J.hok _ _ e1).2) (fun _ _ _ q=>q) (nL b) f6
  ·rw [aA hb] at e;exact (J.hok b u e).stay (fun _ _ _ q=>q) (nL b) f6
end
def Itv (K:PySem.W.Frag)(a:Addr)(n:Nat):It :=
 ⟨fun i H=>∃ xs x,SqL K H a xs/\xs.length=n/\xs.reverse[i]?=some x,
  fun i H v H'=>H'=H/\∀ xs,SqL K H a xs->xs.reverse[i]?=some v,
  fun i _=>i=n⟩
theorem yt {P:Program}{w:World}{K:PySem.W.Frag}{tg:Expr}(a it:Addr)(n:Nat):Turn P w K tg (Itv K a n) [it] it (fun i h=>i<=n/\h.IsRevIter it a ((n:Int) - 1 - (i:Int))) where
 mem:=by simp
 obj:=fun i h st b hb=>by
  have e:b=it:=by simpa using hb
  subst e;obtain ⟨o,e,c,d⟩:=st.2;exact ⟨o,e,fun v z=>by rw [d] at z;cases z⟩
 keep:=fun i h h' st k=>⟨st.1,st.2.at fun o e=>k it (by simp) o e⟩
 item:=by
  intro X hP hw hK hc i pins s σ H E I hf st hg;subst hP hw hK;obtain ⟨xs,x,hq,hn,hx⟩:=hg
  have hi:i < xs.length:=by
   have:=(zAa.mp hx).1;rw [List.length_reverse] at this;exact this
  rw [List.getElem?_reverse hi] at hx;obtain ⟨its,rv,p,hz⟩:=I.list hq;obtain ⟨u,hu,ru⟩:=rv.get hx;obtain ⟨f0,f1,f2,f3,f4,f5⟩:=hf it (by simp);have e0:(n:Int) - 1 - (i:Int)=((xs.length - 1 - i:Nat):Int):=by lia
  have st2:=st.2;rw [e0] at st2;refine wpAny_pyNext_rev_item st2 p.isList (x:=u) (by simpa using hu) fun h' st' sb=>?_;have I1:Inv X pins σ H { s with heap:=h' }:=I.turned (t':=s.toks) (fun b o hb e=>(sb.2 b hb).trans e) f0 f1 f3 f4 f5;obtain ⟨o,e,c,d⟩:=id st';have e1:((xs.length - 1 - i:Nat):Int) - 1=(n:Int) - 1 - ((i+1:Nat):Int):=by lia
  rw [e1] at st';exact ⟨u,rfl,qQ (s:={ s with heap:=h' }) e c d (by decide) ⟨x,H,I1,ru,⟨rfl,fun ys hy=>by rw [I.list_inj hy hq,List.getElem?_reverse hi];exact hx⟩,⟨by lia,st'⟩,fun b hb=>(hf b hb).1⟩⟩
 done:=by
  intro X hP hw hK hc i pins s σ H E I hf st hg;subst hP hw hK;have hg:i=n:=hg;obtain ⟨f0,f1,f2,f3,f4,f5⟩:=hf it (by simp);have st2:=st.2;rw [show (n:Int) - 1 - (i:Int)=-1 by lia] at st2
  exact wpAny_pyNext_rev_end (I.ok.hd hc) st2 fun h' eb=>⟨rfl,I.turned (t':=s.toks) (fun b o hb e=>eb b o hb e) f0 f1 f3 f4 f5⟩
 self:=fun _ _ _ _ _ st h=>wpAny_pyIter_revIter st.2 h
theorem boot_reversed:bootBuiltins "reversed" = some (.type "reversed"):=by decide +kernel
section
variable {X:Cx}{tg:Expr}
def Hv (K:PySem.W.Frag)(t:TA):TI:=fun σ H R=>t σ H fun vs H1=>∃ a xs,vs=[.ref a]/\SqL K H1 a xs/\R (Itv K a xs.length) H1
theorem Ea {a:Expr}{ta:TA}{p pos:Pos}(hg:Gl X "reversed")(hm:X.mg "reversed" = none)(ha:PA X [a] ta)(hs:starEach [a] X.env=[(false,eval a X.env)]:=by rfl) :
  PI X tg (.Call (.Name "reversed" p) [a] [] pos) (Hv X.K ta):=by
 intro pins s σ H R I h;refine Call_ (fP I hg hm boot_reversed (PyProof.Rows.callWith_type1 (thn (ha pos pins s σ H _ I h) fun us s1 ⟨vs,H1,I1,r1,q1⟩=>?_) hs rfl));obtain ⟨x,xs,e,hx,q⟩:=q1;subst e;obtain ⟨u,rfl,ru⟩:=vals1 r1;cases ru;obtain ⟨its,rv,p1,_⟩:=I1.list hx;have hlen:=rv.length;refine call_reversed_list p1.isList ?_
 have st:Heap.IsRevIter (s1.heap.push (revObj x ((its.toArray.size:Int) - 1))) s1.heap.objs.size x ((xs.length:Int) - 1 - ((0:Nat):Int)):=by
  refine ⟨_,zB3 _ rfl,rfl,?_⟩;have:(its.toArray.size:Int) - 1=(xs.length:Int) - 1 - ((0:Nat):Int):=by rw [zA8];lia
  rw [<- this];rfl
 refine wpAny_pyIter_revIter st ?_;refine ⟨_,_,_,_,H1,rfl,I1.kept (t':=s1.toks) (fun b o e=>zAz _ e),yt x s1.heap.objs.size xs.length,⟨zAp _,st⟩,fun c hc=>?_,q⟩
 have hle:s1.heap.objs.size<=c:=by
  rw [List.mem_singleton.mp hc];exact zA3 _
 exact I1.fpOk hle (I1.hok.fresh hle)
end
theorem Bl {K:PySem.W.Frag}{a:Addr}{xs:List V}{g:TG}{tb:TS}{D:Ends}{σ:St}{H:Hp}(Pv:Nat->St->Hp->Prop)(h0:Pv 0 σ H)(hl:∀ i σ H,i<=xs.length->Pv i σ H->SqL K H a xs)
  (hs:∀ i x σ H,xs.reverse[i]?=some x->Pv i σ H->g x σ H fun ba H2=>tb { D with nx:=Pv (i+1),ct:=Pv (i+1),bk:=D.nx } ba H2) (hd:∀ σ H,Pv xs.length σ H->D.nx σ H) :
  ∃ W:Nat->Nat->St->Hp->Prop,(∃ m,W 0 m σ H)/\∀ i m σ H,W i m σ H ->
   ((Itv K a xs.length).stop i H/\D.nx σ H)\/((Itv K a xs.length).go i H/\∃ N:St->Hp->Prop,(∀ ai H',N ai H'->∃ m',m' < m/\W (i+1) m' ai H')/\∀ x H',(Itv K a xs.length).yld i H x H'->g x σ H' fun ba H2=>tb { D with nx:=N,ct:=N,bk:=D.nx } ba H2):=by
 refine ⟨fun i m σ H=>m=xs.length - i/\i<=xs.length/\Pv i σ H,⟨xs.length,by simp,Nat.zero_le _,h0⟩,?_⟩;rintro i m σ H ⟨rfl,hi,p⟩;have q:=hl i σ H hi p;by_cases aT:i < xs.length
 ·refine .inr ⟨⟨xs,xs.reverse[i]'(by rw [List.length_reverse];exact aT),q,rfl,zA0 _⟩,Pv (i+1),fun ai H' p'=>⟨xs.length - (i+1),by lia,rfl,aT,p'⟩,fun x H' y=>?_⟩;obtain ⟨e,y⟩:=y;subst e;exact hs i x σ _ (y xs q) p
 ·have e:i=xs.length:=by lia
  subst e;exact .inl ⟨rfl,hd σ H p⟩
section
variable {X:Cx}{e:Expr}{te:TE}{p2 p3 p4 pos:Pos}{j:Nat}
def Eb (K:PySem.W.Frag)(te:TE):TE:=fun σ H Q=>te σ H fun x H2=>∃ a xs,x=.ref a/\SqL K H2 a xs/\∀ p,H2 p=none->Q (.ref p) (upd H2 p (.lst xs.reverse))
theorem Bm (he:PE X e te):PE X (.Subscript e (.Slice none none (some (.UnaryOp .USub (.Constant (.int 1) j p4) p3)) p2) pos) (Eb X.K te):=by
 intro pins s σ H Q I h;refine Subscript_ (thn (he pins s σ H _ I h) fun v s1 ⟨x,H1,I1,r1,q1⟩=>?_);refine wpAny_Slice ?_;rw [evalPart_none,evalPart_some];refine zB0 (zB0 ?_);refine thn (xO tE az pins s1 σ H1 (fun y H'=>H'=H1/\y=.int (-1)) I1 ⟨_,rfl,rfl,rfl⟩) fun vk s3 ⟨y,H3,I3,ry,e3,ey⟩=>?_;subst e3;subst ey;obtain ⟨a,xs,rfl,hx,q⟩:=q1;cases r1;obtain ⟨t,rfl⟩:=ry;have I4:Inv X pins σ H3 { s3 with heap:=s3.heap.push { cls:=.type "slice",data:=.fields #[.none,.none,.int (-1) t] } }:=I3.kept (t':=s3.toks) fun b ob q=>zAz _ q;obtain ⟨its',r',dP,dv⟩:=I4.list hx;have IT:=r'.length;show wpAny (model X.prog X.w) X.A (subscriptTail e (.Slice none none (some (.UnaryOp .USub (.Constant (.int 1) j p4) p3)) p2) (.ref a) (.ref s3.heap.objs.size)) (EP X pins σ Q) X.xe { s3 with heap:=s3.heap.push { cls:=.type "slice",data:=.fields #[.none,.none,.int (-1) t] } };refine tail_any (T:="list") (ops:=[.ref a,.ref s3.heap.objs.size]) dP.isList.typeIs slot_list_getitem.lookup ?_ (by with_unfolding_all rfl);refine wpAny_getItem_list_slice dP.isList (Heap.IsSliceOf.new ..) .none .none (.int (-1) t) (by decide) ?_ (by rw [zA8] <;> lia);rw [PySem.W.krv_pick];refine ⟨.ref _,_,I4.laid (t':=s3.toks) (o:=.lst xs.reverse) (fun b ob q=>zAz _ q) (zA3 _) ?_,rfl,q _ (I4.hok.fresh (zA3 _))⟩;exact ⟨by rw [List.length_reverse];exact dv,_,0,r'.reverse,zB3 _ rfl⟩
end
section
variable {prog:Program}{w:World}{A:Around}{E:Value->Shared->Prop}{s:Shared}{t:Addr}
theorem Bo {xs:Array (Int×Tok)}{Q:Value->Shared->Prop}(hh:A.handled=none)(ht:s.heap.IsTuple t (intItems xs))(e8:0 < xs.size)
  (h:∀ v h' tk,(intItems xs)[argBest (fun i j=>decide (numAt xs i < numAt xs j)) (xs.size - 1)]?=some v->(∀ b o,s.heap.get? b=some o->h'.get? b=some o)->Q v { s with heap:=h',toks:=tk }) :
  wpAny (model prog w) A (call (.builtin "min") [.ref t]) Q E s:=by
 have aT:t < s.heap.objs.size:=by obtain ⟨_,e,_⟩:=ht;exact zAy e
 refine call_min_walk (wpAny_pyIter_tuple ht ?_);refine ⟨_,_,_,_,_,_,_,rfl,Walks.tuple (A:=A.in1) hh _ t (Nat.ne_of_lt aT) (intItems xs),⟨⟨_,Heap.get?_push_size _ rfl,rfl,rfl⟩,ht.push _⟩,fun b hb=>?_,by simpa [intItems] using e8,CmpOf.ints_lt (numAt xs) (fun _ _=>intItems_at),fun v h' tk hP hk=>?_⟩
 ·show b < (s.heap.push _).objs.size;rw [Heap.size_push];simp only [List.mem_cons,List.not_mem_nil,or_false] at hb;rcases hb with e | e <;> subst e
  ·exact Nat.lt_succ_self _
  ·exact Nat.lt_succ_of_lt aT
 ·refine h v h' tk (by simpa [intItems] using hP) fun b o e=>hk b o (fun hm=>?_) (Heap.get?_push_of_some _ e);have e1:=List.mem_singleton.mp hm;exact absurd (e1 ▸ Heap.lt_size e) (Nat.lt_irrefl _)
end
section
variable {X:Cx}
theorem qu (hc:X.calm=true):du X (.builtin "min") (fun xs H Q=>∃ (p:Addr) (ns:List Int),xs=[.ref p]/\SqT X.K H p (ns.map V.int)/\ns≠[]/\∀ M,M∈ns->(∀ a∈ns,M<=a)->Q (.int M) H):=by
 intro pins s σ H xs us Q I r h;obtain ⟨p,ns,rfl,hq,e8,q⟩:=h;obtain ⟨u,rfl,ru⟩:=vals1 r;cases ru;obtain ⟨its,rv,pl,hz⟩:=I.tuple hq;have hi:IntsAre its ns:=intsAre_of rv;obtain ⟨zs,ez⟩:=(hi.allInts:AllInts its.toArray).items;have en:numsOf its=ns:=hi.numsOf;have hl:s.heap.IsTuple p (intItems zs):=ez ▸ (show s.heap.IsTuple p its.toArray from pl)
 have bo:0 < zs.size:=by
  have e1:(intItems zs).size=its.length:=by rw [<- ez,zA8]
  have e2:=rv.length;rw [zA1] at e2;have e3:0 < ns.length:=List.length_pos_iff.mpr e8;simp only [intItems,Array.size_map] at e1;lia
 have hn:numsOf (intItems zs).toList=ns:=by rw [<- ez];exact en
 refine Bo (I.ok.hd hc) hl bo fun v h' tk hv hk=>?_;obtain ⟨t,rfl⟩:=intItems_at hv;obtain ⟨h1,h2⟩:=argBest_lt (numAt zs) (zs.size - 1);rw [nums_intItems] at hn;refine ⟨.int _,H,I.kept (t':=tk) hk,⟨t,rfl⟩,q _ ?_ fun a ha=>?_⟩
 ·rw [<- hn,numAt_eq];exact getD_mem (by rw [zA1,zA9];lia)
 ·rw [<- hn] at ha;obtain ⟨j,hj,rfl⟩:=mem_getD ha;rw [zA1,zA9] at hj;rw [<- numAt_eq];exact h2 j (by lia)
end
end L2
namespace K92
open PySem L2
def top (i:Nat):Stmt:=PySem.Challenge.pw_woolyears_k92_whole_more_wool.main.body.getD i (.Pass ⟨0,0,0,0⟩)
def cR (d:PyData):Bool:=qb d && !qd d
def items:PyData->List PyData
 | .tuple ds=>ds
 | _=>[]
def intOf:PyData->Int
 | .int i=>i
 | _=>0
def bB (d:PyData)(f m:Int):Bool:=qe d && (decide (f<=(items d).length) && decide (((items d).length:Int)<=m))
def bx (d:PyData)(n:Int):Bool:=bB d n n && (items d).all cR
def oO (d:PyData):Bool:=bx d 3 && (items d).all fun x=>decide (0<=intOf x) && decide (intOf x<=999)
def eQ (d:PyData):Bool:=bB d 1 20 && (items d).all oO
def at_ (d:PyData)(i:Nat):Int:=intOf ((items d).getD i .none)
def qw (a b c d e f:Int):Bool :=
 (decide (0<=a) && decide (a < 8)) && ((decide (0<=b) && decide (b < 3)) && ((decide (0<=c) && (decide (c<=d) && decide (d<=19))) && ((decide (1<=e) && decide (e<=99)) && (decide (0<=f) && decide (f<=1000000)))))
def j7 (d:PyData):Bool:=bx d 6 && qw (at_ d 0) (at_ d 1) (at_ d 2) (at_ d 3) (at_ d 4) (at_ d 5)
def dO (d:PyData):Bool:=bB d 0 10 && (items d).all j7
theorem nd1 (x:Str):([x]:List Str).Nodup:=by simp
theorem yu (d:PyData):1<=sz d:=by cases d <;> simp [sz]
theorem qx:∀ (ds:List PyData),ds.length<=szs ds
 | []=>zAp _
 | d::ds=>by
  have:=qx ds;have:=yu d;simp only [List.length_cons,szs];lia
theorem qy:∀ {ds:List PyData} {d:PyData},d∈ds->sz d<=szs ds
 | x::ds,d,h=>by
  simp only [szs];rcases zAo.mp h with e | e
  ·rw [e];lia
  ·have:=qy e;lia
theorem j8 {ds:List PyData}{d:PyData}(h:d∈ds)(hz:sz (.tuple ds)<=4000):sz d<=4000:=by
 have:=qy h;simp only [sz] at hz;lia
theorem eU {S:Addr->Prop}{H:Hp}{xs:List V}{ds:List PyData}(r:IsThs S H xs ds)(hz:sz (.tuple ds)<=4000):xs.length < sizeLine:=by
 have:=qx ds;have:=r.length;simp only [sz] at hz;rw [sizeLine_eq];lia
def spT (f:PyData->Bool):Sp:=fun vs H Q _=>∃ S v d,vs=[v]/\IsTh S H v d/\sz d<=4000/\∀ H',Same H H'->Q (.bl (f d)) H'
inductive SpT1I (f:PyData->Int->Bool)(vs:List V)(H:Hp)(Q:VK):Prop
 | mk:∀ S v d n,(vs=[v,.int n])->(IsTh S H v d)->(sz d<=4000)->(∀ H',Same H H'->Q (.bl (f d n)) H')->SpT1I f vs H Q
def yw (f:PyData->Int->Bool):Sp:=fun vs H Q _=>SpT1I f vs H Q
def jn (f:PyData->Int->Int->Bool):Sp:=fun vs H Q _=>∃ S v d n m,vs=[v,.int n,.int m]/\IsTh S H v d/\sz d<=4000/\∀ H',Same H H'->Q (.bl (f d n m)) H'
structure Mg (mg:Str->Option Value):Prop where
 isinstance:mg "isinstance" = none
 int:mg "int" = none
 bool:mg "bool" = none
 tuple:mg "tuple" = none
 len:mg "len" = none
 all:mg "all" = none
theorem boot_int:bootBuiltins "int" = some (.type "int"):=by decide +kernel
theorem boot_bool:bootBuiltins "bool" = some (.type "bool"):=by decide +kernel
theorem boot_tuple:bootBuiltins "tuple" = some (.type "tuple"):=by decide +kernel
theorem boot_isinstance:bootBuiltins "isinstance" = some (.builtin "isinstance"):=by decide +kernel
theorem boot_all:bootBuiltins "all" = some (.builtin "all"):=by decide +kernel
theorem cX {K:PySem.W.Frag}{S:Addr->Prop}{te:TE}{src:List (Option Nat)}{i j:Nat}{σ:St}{H:Hp}{Q:VK}{a:Addr}{xs:List V}{ds:List PyData}(f:PyData->Bool)(nv:σ[i]?=some (some (.ref a)))(ea:H a=some (.tup xs))(r:IsThs S H xs ds)(hl:xs.length < sizeLine)
  (wx:∀ v d H1 Q1,d∈ds->Same H H1->IsTh S H1 v d->(∀ H',Same H1 H'->Q1 (.bl (f d)) H')->te ((capσ σ src).set j (some v)) H1 Q1) (q:∀ H',Same H H'->Q (.bl (ds.all f)) H') :
  tCB (fun xs H Q=>∃ (p:Addr) (bs:List Bool),xs=[.ref p]/\SqL K H p (bs.map V.bl)/\Q (.bl (bs.all id)) H) (qT (uC (Ff K (Af i)) src (bG j) w5 te) Dp) σ H Q:=by
 refine ⟨_,nv,a,rfl,⟨xs,SqT.of ea⟩,rz (j:=j) f ea r hl wx fun H2 s2 D hD=>⟨D,ds.map f,rfl,?_,?_⟩⟩
 ·rw [<- xY];exact SqL.of aj
 ·rw [DP];exact q _ (s2.updR hD)
structure Nums (mg:Str->Option Value):Prop where
 sorts:∃ t,mg "SORTS" = some (.int 3 t)
 holders:∃ t,mg "HOLDERS" = some (.int 8 t)
 year:∃ t,mg "LAST_YEAR" = some (.int 19 t)
 clips:∃ t,mg "MOST_CLIPS" = some (.int 20 t)
 proms:∃ t,mg "MOST_PROMISES" = some (.int 10 t)
 wool:∃ t,mg "MOST_WOOL" = some (.int 999 t)
 sacks:∃ t,mg "MOST_SACKS" = some (.int 99 t)
 price:∃ t,mg "MOST_PRICE" = some (.int 1000000 t)
theorem jo {d:PyData}{n:Int}(h:bx d n=true):bB d n n=true/\∀ x∈items d,cR x=true:=by
 unfold bx at h;rw [zAc] at h;exact ⟨h.1,List.all_eq_true.mp h.2⟩
theorem jq {S:Addr->Prop}{H:Hp}{v:V}{d:PyData}(h:IsTh S H v d)(e:cR d=true):∃ i,v=.int i/\d=.int i:=by
 cases h with
 | int i=>exact ⟨i,rfl,rfl⟩
 | _=>cases e
theorem j9 {α:Type}{n:Nat}{l:List α}(h:l.length=n+1):∃ a t,l=a::t/\t.length=n:=by
 cases l with
 | nil=>cases h
 | cons a t=>exact ⟨a,t,rfl,Nat.succ.inj h⟩
theorem Ge {α:Type}{l:List α}(h:l.length=5):∃ a b c d e,l=[a,b,c,d,e]:=by
 obtain ⟨a,l1,e1,h1⟩:=j9 h;obtain ⟨b,l2,e2,h2⟩:=j9 h1;obtain ⟨c,l3,e3,h3⟩:=j9 h2;obtain ⟨d,l4,e4,h4⟩:=j9 h3;obtain ⟨e,l5,e5,h5⟩:=j9 h4;exact ⟨a,b,c,d,e,by rw [e1,e2,e3,e4,e5,List.length_eq_zero_iff.mp h5]⟩
theorem Gf {α:Type}{l:List α}(h:l.length=6):∃ a b c d e f,l=[a,b,c,d,e,f]:=by
 obtain ⟨a,l1,e1,h1⟩:=j9 h;obtain ⟨b,c,d,e,f,e2⟩:=Ge h1;exact ⟨a,b,c,d,e,f,by rw [e1,e2]⟩
theorem fH {S:Addr->Prop}{H:Hp}{xs:List V}{d:PyData}{ds:List PyData}(r:IsThs S H xs (d::ds))(e:cR d=true):∃ i t,xs=.int i::t/\d=.int i/\IsThs S H t ds:=by
 cases r with
 | cons h1 r =>
  obtain ⟨i,rfl,rfl⟩:=jq h1 e;exact ⟨i,_,rfl,rfl,r⟩
theorem mF {S:Addr->Prop}{H:Hp}{xs:List V}{d:PyData}{ds:List PyData}(r:IsThs S H xs (d::ds)):∃ v t,xs=v::t/\IsTh S H v d/\IsThs S H t ds:=by
 cases r with
 | cons h1 r=>exact ⟨_,_,rfl,h1,r⟩
theorem wQ {S:Addr->Prop}{H:Hp}{xs:List V}{ds:List PyData}(r:IsThs S H xs ds)(hl:ds.length=3):∃ v0 v1 v2 d0 d1 d2,xs=[v0,v1,v2]/\ds=[d0,d1,d2]/\IsTh S H v0 d0/\IsTh S H v1 d1/\IsTh S H v2 d2:=by
 obtain ⟨d0,l1,e1,h1⟩:=j9 hl;obtain ⟨d1,l2,e2,h2⟩:=j9 h1;obtain ⟨d2,l3,e3,h3⟩:=j9 h2;have e:ds=[d0,d1,d2]:=by rw [e1,e2,e3,List.length_eq_zero_iff.mp h3]
 subst e;obtain ⟨v0,t0,f0,i0,r0⟩:=mF r;obtain ⟨v1,t1,f1,i1,r1⟩:=mF r0;obtain ⟨v2,t2,f2,i2,r2⟩:=mF r1;cases r2;exact ⟨v0,v1,v2,d0,d1,d2,by rw [f0,f1,f2],rfl,i0,i1,i2⟩
theorem yx {S:Addr->Prop}{H:Hp}{xs:List V}{ds:List PyData}(r:IsThs S H xs ds)(hl:ds.length=6)(hw:∀ x∈ds,cR x=true) :
  ∃ i1 i2 i3 i4 i5 i6:Int,xs=[.int i1,.int i2,.int i3,.int i4,.int i5,.int i6]/\ds=[.int i1,.int i2,.int i3,.int i4,.int i5,.int i6]:=by
 obtain ⟨d1,d2,d3,d4,d5,d6,rfl⟩:=Gf hl;obtain ⟨i1,t1,e1,rfl,r1⟩:=fH r (hw _ (by simp));obtain ⟨i2,t2,e2,rfl,r2⟩:=fH r1 (hw _ (by simp));obtain ⟨i3,t3,e3,rfl,r3⟩:=fH r2 (hw _ (by simp));obtain ⟨i4,t4,e4,rfl,r4⟩:=fH r3 (hw _ (by simp));obtain ⟨i5,t5,e5,rfl,r5⟩:=fH r4 (hw _ (by simp));obtain ⟨i6,t6,e6,rfl,r6⟩:=fH r5 (hw _ (by simp));cases r6;exact ⟨i1,i2,i3,i4,i5,i6,by rw [e1,e2,e3,e4,e5,e6],rfl⟩
theorem wR {ds:List PyData}{n m:Int}(h:bB (.tuple ds) n m=true):n<=(ds.length:Int)/\(ds.length:Int)<=m:=by
 have h:(true && (decide (n<=(ds.length:Int)) && decide ((ds.length:Int)<=m)))=true:=h;rw [Bool.true_and,zAc] at h;exact ⟨zB6 h.1,zB6 h.2⟩
def Cal (P:Program)(w:World)(K:PySem.W.Frag)(mg:Str->Option Value)(base:Heap)(k:Nat)(x:Str)(ps:List Str)(sp:Sp):Prop :=
 ∃ f fd,FnOk P w K mg base CX0 k f fd ps sp/\mg x=some (.ref f)/\PySem.W.keepIn K (.ref f)=true/\Binds K fd ps []
theorem aD {X:Cx}{k j:Nat}{x:Str}{ps:List Str}{sp:Sp}{p pos:Pos}{e:Expr}{es:List Expr}{t:TA}(c:Cal X.prog X.w X.K X.mg X.base j x ps sp)(hr:Room k X.A)(ha:PA X (e::es) t)(Ln:j<=k:=by decide)(hg:Gl X x:=by exact rfl)
  (oQ:(x == ("__debug__" : Str))=false:=by decide) (he:starEach (e::es) X.env=(false,eval e X.env)::starEach es X.env:=by rfl) (mP:(backTo pos (starEach es X.env)).any (·.1)=false:=by rfl) :
  PE X (.Call (.Name x p) (e::es) [] pos) (Cu sp [] E0 t):=by
 obtain ⟨f,fd,F,hm,hk,hb⟩:=c;exact Al F (hr.mono Ln) hg hm hk hb .nil Fy ha oQ he mP
variable {P:Program}{w:World}{K:PySem.W.Frag}{mg:Str->Option Value}{base:Heap}{f:Addr}{fd:FuncData}
theorem sc1:FnScope ["thing"] ["thing"] (aK (top 12)):=fS
theorem rM (F:Fun K "is_whole" "is_whole" (top 12) f fd)(T:Mg mg):FnOk P w K mg base CX0 1 f fd ["thing"] (spT cR):=by
 refine F.ok sc1 (fun vs H Q E h=>?_) (fun av A outer s H vs Q E hr h=>?_)
 ·obtain ⟨S,v,d,rfl,_⟩:=h;rfl
 ·obtain ⟨S,v,d,rfl,th,hz,q⟩:=h
  refine ⟨_,aG (aR (cg (aQ gk rfl T.isinstance boot_isinstance (aU (pv 0) (aU (pK rfl T.int boot_int (v:=.ty "int") rfl) aa)))
   (dB (Dk (aQ gk rfl T.isinstance boot_isinstance (aU (pv 0) (aU (pK rfl T.bool boot_bool (v:=.ty "bool") rfl) aa))))))),?_⟩
  refine ⟨_,rfl,v,_,"int",qb d,rfl,th.ty,Az d,_,rfl,?_⟩;have fin:=q H (Same.refl H);unfold cR at fin
  cases e:qb d with
  | false =>
   rw [e] at fin;exact bI fin
  | true =>
   rw [e] at fin;exact bV ⟨_,rfl,v,_,"bool",qd d,rfl,th.ty,xX d,_,rfl,fin⟩
theorem sc2:FnScope ["thing","fewest","most"] ["thing","fewest","most"] (aK (top 14)):=fS
theorem mG (F:Fun K "is_tuple_of" "is_tuple_of" (top 14) f fd)(T:Mg mg):FnOk P w K mg base CX0 1 f fd ["thing","fewest","most"] (jn bB):=by
 refine F.ok sc2 (fun vs H Q E h=>?_) (fun av A outer s H vs Q E hr h=>?_)
 ·obtain ⟨S,v,d,n,m,rfl,_⟩:=h;rfl
 ·obtain ⟨S,v,d,n,m,rfl,th,hz,q⟩:=h
  refine ⟨_,aG (aR (cg (aQ gk rfl T.isinstance boot_isinstance (aU (pv 0) (aU (pK rfl T.tuple boot_tuple (v:=.ty "tuple") rfl) aa)))
   (dB (cC bY bY (pv 1) (aQ bT rfl T.len PySem.boot_len (aU (pv 0) aa)) (pv 2))))),?_⟩
  refine ⟨_,rfl,v,_,"tuple",qe d,rfl,th.ty,Ba d,_,rfl,?_⟩;have fin:=q H (Same.refl H);unfold bB at fin
  cases e:qe d with
  | false =>
   rw [e] at fin;exact bI fin
  | true =>
   rw [e] at fin;refine bV ?_
   cases th with
   | @tup a xs ds ea r =>
    have hl:=r.length;refine ⟨_,rfl,_,rfl,a,xs,rfl,.inr (SqT.of ea),_,_,rfl,rfl,_,rfl,?_⟩;rw [hl];have fin:Q (.bl (true && (decide (n<=(ds.length:Int)) && decide ((ds.length:Int)<=m)))) H:=fin
    cases e1:decide (n<=(ds.length:Int)) with
    | false =>
     rw [e1] at fin;exact bI fin
    | true =>
     rw [e1] at fin;exact bV ⟨_,rfl,_,_,rfl,rfl,fin⟩
   | _=>cases e
theorem sc3:FnScope ["thing","many"] ["thing","many"] (aK (top 15)):=fS
theorem nH (F:Fun K "are_wholes" "are_wholes" (top 15) f fd)(T:Mg mg)(c1:Cal P w K mg base 1 "is_whole" ["thing"] (spT cR))(c2:Cal P w K mg base 1 "is_tuple_of" ["thing","fewest","most"] (jn bB)) :
  FnOk P w K mg base CX0 2 f fd ["thing","many"] (yw bx):=by
 refine F.ok sc3 (fun vs H Q E h=>?_) (fun av A outer s H vs Q E hr h=>?_)
 ·obtain ⟨S,v,d,n,rfl,_⟩:=h;rfl
 ·obtain ⟨S,v,d,n,rfl,th,hz,q⟩:=h
  refine ⟨_,aG (aR (cg (aD c2 hr (aU (pv 0) (aU (pv 1) (aU (pv 1) aa))))
   (dB (aQ (dI rfl) rfl T.all boot_all (aU (bA ["part"] [none] rfl (dM (pv 0))
    (fun C fp pins s₂ H₂=>⟨aZ (i:=0) (nd1 _) rfl (Or.inl rfl),bh,aD c1 hr (aU (pv 0) aa)⟩) (fun C=>trivial) ⟨rfl,rfl,rfl,rfl⟩) aa))))),?_⟩
  refine ⟨_,rfl,_,rfl,_,rfl,S,v,d,n,n,rfl,th,hz,fun H1 s1=>⟨_,rfl,?_⟩⟩;have bX:=th.same s1
  cases e:bB d n n with
  | false =>
   refine bI ?_;have fin:=q H1 s1;unfold bx at fin;rw [e] at fin;exact fin
  | true =>
   refine bV ?_
   cases bX with
   | @tup a xs ds ea r =>
    have ew:bx (.tuple ds) n=ds.all cR:=by unfold bx;rw [e];rfl
    refine cX cR rfl ea r (eU r hz) (fun v d H2 Q2 hm s2 t2 q2=>⟨_,rfl,S,v,d,rfl,t2,j8 hm hz,q2⟩) fun H2 s2=>?_;rw [<- ew];exact q _ (s1.trans s2)
   | _=>cases e
theorem sc13:FnScope ["thing"] ["thing"] (aK (top 26)):=fS
theorem tZ (F:Fun K "is_clip" "is_clip" (top 26) f fd)(T:Mg mg)(N:Nums mg)(c1:Cal P w K mg base 2 "are_wholes" ["thing","many"] (yw bx)) :
  FnOk P w K mg base CX0 3 f fd ["thing"] (spT oO):=by
 refine F.ok sc13 (fun vs H Q E h=>?_) (fun av A outer s H vs Q E hr h=>?_)
 ·obtain ⟨S,v,d,rfl,_⟩:=h;rfl
 ·obtain ⟨S,v,d,rfl,th,hz,q⟩:=h;obtain ⟨t3,e3⟩:=N.sorts;obtain ⟨t9,e9⟩:=N.wool
  refine ⟨_,aG (aR (cg (aD c1 hr (aU (pv 0) (aU (bK (v:=.int 3) rfl e3 ⟨_,rfl⟩) aa)))
   (dB (aQ (dI rfl) rfl T.all boot_all (aU (bA ["sacks"] [none] rfl (dM (pv 0))
    (fun C fp pins s₂ H₂=>⟨aZ (i:=0) (nd1 _) rfl (Or.inl rfl),bh,cC bY bY az (pv 0) (bK (v:=.int 999) rfl e9 ⟨_,rfl⟩)⟩) (fun C=>trivial) ⟨rfl,rfl,rfl,rfl⟩) aa))))),?_⟩
  refine ⟨_,rfl,S,v,d,3,rfl,th,hz,fun H1 s1=>⟨_,rfl,?_⟩⟩;have bX:=th.same s1;have fin:=fun H' (s:Same H H')=>q H' s;unfold oO at fin
  cases e:bx d 3 with
  | false =>
   rw [e] at fin;exact bI (fin _ s1)
  | true =>
   rw [e] at fin;refine bV ?_;obtain ⟨e1,e2⟩:=jo e
   cases bX with
   | @tup a xs ds ea r =>
    refine cX (fun x=>decide (0<=intOf x) && decide (intOf x<=999)) rfl ea r (eU r hz) (fun v d H2 Q2 hm s2 t2 q2=>?_) fun H2 s2=>fin _ (s1.trans s2);obtain ⟨i,rfl,rfl⟩:=jq t2 (e2 d hm);refine ⟨_,rfl,_,_,rfl,rfl,_,rfl,?_⟩;have q3:=q2 H2 (Same.refl _);show if decide ((0:Int)<=i)=true then _ else _
    cases e5:decide ((0:Int)<=i) with
    | false =>
     refine bI ?_;have q3:Q2 (.bl (decide ((0:Int)<=i) && decide (i<=999))) H2:=q3;rw [e5] at q3;exact q3
    | true =>
     refine bV ⟨_,_,rfl,rfl,?_⟩;have q3:Q2 (.bl (decide ((0:Int)<=i) && decide (i<=999))) H2:=q3;rw [e5] at q3;exact q3
   | _=>cases e1
theorem sc14:FnScope ["thing"] ["thing"] (aK (top 27)):=fS
theorem qz (F:Fun K "are_clips" "are_clips" (top 27) f fd)(T:Mg mg)(N:Nums mg)(c1:Cal P w K mg base 3 "is_clip" ["thing"] (spT oO))(c2:Cal P w K mg base 1 "is_tuple_of" ["thing","fewest","most"] (jn bB)) :
  FnOk P w K mg base CX0 4 f fd ["thing"] (spT eQ):=by
 refine F.ok sc14 (fun vs H Q E h=>?_) (fun av A outer s H vs Q E hr h=>?_)
 ·obtain ⟨S,v,d,rfl,_⟩:=h;rfl
 ·obtain ⟨S,v,d,rfl,th,hz,q⟩:=h;obtain ⟨t3,e3⟩:=N.clips
  refine ⟨_,aG (aR (cg (aD c2 hr (aU (pv 0) (aU az (aU (bK (v:=.int 20) rfl e3 ⟨_,rfl⟩) aa))))
   (dB (aQ (dI rfl) rfl T.all boot_all (aU (bA ["part"] [none] rfl (dM (pv 0))
    (fun C fp pins s₂ H₂=>⟨aZ (i:=0) (nd1 _) rfl (Or.inl rfl),bh,aD c1 hr (aU (pv 0) aa)⟩) (fun C=>trivial) ⟨rfl,rfl,rfl,rfl⟩) aa))))),?_⟩
  refine ⟨_,rfl,S,v,d,1,20,rfl,th,hz,fun H1 s1=>⟨_,rfl,?_⟩⟩;have bX:=th.same s1;have fin:=fun H' (s:Same H H')=>q H' s;unfold eQ at fin
  cases e:bB d 1 20 with
  | false =>
   rw [e] at fin;exact bI (fin _ s1)
  | true =>
   rw [e] at fin;refine bV ?_
   cases bX with
   | @tup a xs ds ea r=>exact cX oO rfl ea r (eU r hz) (fun v d H2 Q2 hm s2 t2 q2=>⟨_,rfl,S,v,d,rfl,t2,j8 hm hz,q2⟩) fun H2 s2=>fin _ (s1.trans s2)
   | _=>cases e
theorem sc15:FnScope ["thing","holder","sort","first","last","sacks","price"] ["thing"] (aK (top 29)):=fS
theorem nJ (F:Fun K "is_promise" "is_promise" (top 29) f fd)(T:Mg mg)(N:Nums mg)(c1:Cal P w K mg base 2 "are_wholes" ["thing","many"] (yw bx)) :
  FnOk P w K mg base CX0 3 f fd ["thing"] (spT j7):=by
 refine F.ok sc15 (fun vs H Q E h=>?_) (fun av A outer s H vs Q E hr h=>?_)
 ·obtain ⟨S,v,d,rfl,_⟩:=h;rfl
 ·obtain ⟨S,v,d,rfl,th,hz,q⟩:=h;obtain ⟨t1,e1⟩:=N.holders;obtain ⟨t2,e2⟩:=N.sorts;obtain ⟨t3,e3⟩:=N.year;obtain ⟨t4,e4⟩:=N.sacks;obtain ⟨t5,e5⟩:=N.price
  refine ⟨_,aB (bW (cH (dq (aD c1 hr (aU (pv 0) (aU az aa))))) (aG (aR iB)) bf)
   (aB (cj (pv 0) (bU rfl (au (pgn 1 sc15.nd) (au (pgn 2 sc15.nd) (au (pgn 3 sc15.nd)
    (au (pgn 4 sc15.nd) (au (pgn 5 sc15.nd) (au (pgn 6 sc15.nd) aY))))))))
   (aG (aR (cg (cC bY gh az (pv 1) (bK (v:=.int 8) rfl e1 ⟨_,rfl⟩)) (cg (cC bY gh az (pv 2) (bK (v:=.int 3) rfl e2 ⟨_,rfl⟩))
    (cg (wy bY bY bY az (pv 3) (pv 4) (bK (v:=.int 19) rfl e3 ⟨_,rfl⟩)) (cg (cC bY bY az (pv 5) (bK (v:=.int 99) rfl e4 ⟨_,rfl⟩))
     (dB (cC bY bY az (pv 6) (bK (v:=.int 1000000) rfl e5 ⟨_,rfl⟩)))))))))),?_⟩
  refine ⟨_,rfl,S,v,d,6,rfl,th,hz,fun H1 s1=>⟨_,rfl,?_⟩⟩;have bX:=th.same s1;have fin:=fun H' (s:Same H H')=>q H' s;unfold j7 at fin
  cases e:bx d 6 with
  | false =>
   rw [e] at fin;exact bV (fin _ s1)
  | true =>
   rw [e] at fin;refine bI ?_;obtain ⟨z1,z2⟩:=jo e
   cases bX with
   | @tup a xs ds ea r =>
    have hl:ds.length=6:=by
     have:=wR z1;lia
    obtain ⟨i1,i2,i3,i4,i5,i6,rfl,rfl⟩:=yx r hl z2;refine ⟨_,rfl,a,_,rfl,SqT.of ea,rfl,_,_,rfl,_,_,rfl,_,_,rfl,_,_,rfl,_,_,rfl,_,_,rfl,rfl,?_⟩;refine gn (cB fV (eO rfl) fV) (fun _=>gn (cB fV (eO rfl) fV) fun _=>gn (wz fV (eO rfl) (eO rfl) fV) fun _=>gn (cB fV (eO rfl) fV) fun _=>cB fV (eO rfl) fV) _ ?_;exact fin H1 s1
   | _=>cases z1
theorem Hw:FnScope ["thing"] ["thing"] (aK (top 30)):=fS
theorem jM (F:Fun K "are_promises" "are_promises" (top 30) f fd)(T:Mg mg)(N:Nums mg)(c1:Cal P w K mg base 3 "is_promise" ["thing"] (spT j7))(c2:Cal P w K mg base 1 "is_tuple_of" ["thing","fewest","most"] (jn bB)) :
  FnOk P w K mg base CX0 4 f fd ["thing"] (spT dO):=by
 refine F.ok Hw (fun vs H Q E h=>?_) (fun av A outer s H vs Q E hr h=>?_)
 ·obtain ⟨S,v,d,rfl,_⟩:=h;rfl
 ·obtain ⟨S,v,d,rfl,th,hz,q⟩:=h;obtain ⟨t3,e3⟩:=N.proms
  refine ⟨_,aG (aR (cg (aD c2 hr (aU (pv 0) (aU az (aU (bK (v:=.int 10) rfl e3 ⟨_,rfl⟩) aa))))
   (dB (aQ (dI rfl) rfl T.all boot_all (aU (bA ["part"] [none] rfl (dM (pv 0))
    (fun C fp pins s₂ H₂=>⟨aZ (i:=0) (nd1 _) rfl (Or.inl rfl),bh,aD c1 hr (aU (pv 0) aa)⟩) (fun C=>trivial) ⟨rfl,rfl,rfl,rfl⟩) aa))))),?_⟩
  refine ⟨_,rfl,S,v,d,0,10,rfl,th,hz,fun H1 s1=>⟨_,rfl,?_⟩⟩;have bX:=th.same s1;have fin:=fun H' (s:Same H H')=>q H' s;unfold dO at fin
  cases e:bB d 0 10 with
  | false =>
   rw [e] at fin;exact bI (fin _ s1)
  | true =>
   rw [e] at fin;refine bV ?_
   cases bX with
   | @tup a xs ds ea r=>exact cX j7 rfl ea r (eU r hz) (fun v d H2 Q2 hm s2 t2 q2=>⟨_,rfl,S,v,d,rfl,t2,j8 hm hz,q2⟩) fun H2 s2=>fin _ (s1.trans s2)
   | _=>cases e
def jN (d:PyData)(lo hi:Int):Bool:=cR d && (decide (lo<=intOf d) && decide (intOf d<=hi))
theorem fJ {X:Cx}{K:PySem.W.Frag}(hK:X.K=K):IxR X (Fv K):=by
 subst hK;exact bL
theorem boot_min:bootBuiltins "min" = some (.builtin "min"):=by decide +kernel
theorem room_un {A:Around}{k:Nat}(hr:Room k A):A.units < cLine:=by
 have:=hr.un;lia
def rowD (r:List Int):PyData:=.tuple (r.map .int)
def bM (rs:List (List Int)):PyData:=.tuple (rs.map rowD)
def fl (r:List Int)(i:Nat):Int:=r.getD i 0
def okP (r:List Int):Prop:=r.length=6/\(0<=fl r 0/\fl r 0 < 8)/\(0<=fl r 1/\fl r 1 < 3)/\(0<=fl r 2/\fl r 2<=fl r 3/\fl r 3<=19)/\(1<=fl r 4/\fl r 4<=99)/\(0<=fl r 5/\fl r 5<=1000000)
def dR (d:PyData):Bool:=bB d 0 12 && (items d).all fun x=>bx x 5
def rowsOf (d:PyData):List (List Int):=(items d).map fun x=>(items x).map intOf
theorem yz:∀ {ds:List PyData},(∀ x∈ds,cR x=true)->ds=(ds.map intOf).map PyData.int
 | [],_=>rfl
 | d::ds,h=>by
  rw [zAk,zAk,<- yz fun x hx=>h x (List.mem_cons_of_mem _ hx)];have:=h d List.mem_cons_self
  cases d with
  | int i=>rfl
  | _=>cases this
theorem iy {x:PyData}{n:Nat}(h:bx x n=true):x=rowD ((items x).map intOf)/\((items x).map intOf).length=n:=by
 obtain ⟨h1,h2⟩:=jo h;unfold bB at h1;rw [zAc,zAc,decide_eq_true_eq,decide_eq_true_eq] at h1;obtain ⟨ht,gI,kP⟩:=h1
 cases x with
 | tuple ds =>
  have gI:(n:Int)<=ds.length:=gI;have kP:(ds.length:Int)<=n:=kP;refine ⟨?_,by show (ds.map intOf).length=n;rw [zA1];lia⟩;exact congrArg PyData.tuple (yz h2)
 | _=>cases ht
theorem uW {ds:List PyData}{n:Nat}(h:∀ x∈ds,bx x n=true):ds=(ds.map fun x=>(items x).map intOf).map rowD:=by
 induction ds with
 | nil=>rfl
 | cons d ds ih =>
  rw [zAk,zAk,<- ih fun x hx=>h x (List.mem_cons_of_mem _ hx),<- (iy (h d List.mem_cons_self)).1]
theorem jr {d:PyData}{f m:Int}(h:bB d f m=true):∃ ds,d=.tuple ds/\f<=ds.length/\(ds.length:Int)<=m:=by
 unfold bB at h;rw [zAc,zAc,decide_eq_true_eq,decide_eq_true_eq] at h
 cases d with
 | tuple ds=>exact ⟨ds,rfl,h.2⟩
 | _=>cases h.1
theorem oR (r:List Int)(i:Nat)(h:i < r.length):at_ (rowD r) i=fl r i:=by
 show intOf ((r.map PyData.int).getD i .none)=r.getD i 0;rw [zA7,zA7,zAb,zA0 h];rfl
theorem u0 {d:PyData}(h:dO d=true):d=bM (rowsOf d)/\(rowsOf d).length<=10/\∀ r∈rowsOf d,okP r:=by
 unfold dO at h;rw [zAc] at h;obtain ⟨ds,rfl,_,hl⟩:=jr h.1;have h2:∀ x∈ds,j7 x=true:=List.all_eq_true.mp h.2
 have h3:∀ x∈ds,bx x 6=true:=fun x hx=>by
  have:=h2 x hx;unfold j7 at this;rw [zAc] at this;exact this.1
 refine ⟨congrArg PyData.tuple (uW (n:=6) h3),by show (ds.map _).length<=10;rw [zA1];lia,fun r hr=>?_⟩;obtain ⟨x,hx,rfl⟩:=zA5.mp hr;have hx:x∈ds:=hx;obtain ⟨e,Lo⟩:=iy (n:=6) (h3 x hx);have:=h2 x hx;unfold j7 at this;rw [zAc] at this;have p:=this.2;rw [e] at p;rw [oR _ 0 (by lia),oR _ 1 (by lia),oR _ 2 (by lia),oR _ 3 (by lia),oR _ 4 (by lia),oR _ 5 (by lia)] at p;unfold qw at p;simp only [Bool.and_eq_true,decide_eq_true_eq] at p;obtain ⟨⟨a1,a2⟩,⟨b1,b2⟩,⟨c1,c2,c3⟩,⟨d1,d2⟩,e1,e2⟩:=p;exact ⟨Lo,⟨a1,a2⟩,⟨b1,b2⟩,⟨c1,c2,c3⟩,⟨d1,d2⟩,e1,e2⟩
theorem u5 {d:PyData}(h:dR d=true):d=bM (rowsOf d)/\(rowsOf d).length<=12/\∀ r∈rowsOf d,r.length=5:=by
 unfold dR at h;rw [zAc] at h;obtain ⟨ds,rfl,_,hl⟩:=jr h.1;have h3:∀ x∈ds,bx x 5=true:=List.all_eq_true.mp h.2;refine ⟨congrArg PyData.tuple (uW (n:=5) h3),by show (ds.map _).length<=12;rw [zA1];lia,fun r hr=>?_⟩;obtain ⟨x,hx,rfl⟩:=zA5.mp hr;exact (iy (n:=5) (h3 x hx)).2
structure RowsAt (H:Hp)(a:Addr)(xs:List V)(rs:List (List Int)):Prop where
 e:H a=some (.tup xs)
 l:xs.length=rs.length
 g:∀ (i:Nat) (r:List Int),rs[i]?=some r->∃ t,xs[i]?=some (V.ref t)/\H t=some (.tup (r.map V.int))
theorem RowsAt.keep {H H':Hp}{a:Addr}{xs:List V}{rs:List (List Int)}(h:RowsAt H a xs rs)(k:∀ b l,H b=some (.tup l)->H' b=some (.tup l)):RowsAt H' a xs rs :=
 ⟨k _ _ h.e,h.l,fun i r e=>by
  obtain ⟨t,e1,e2⟩:=h.g i r e
  exact ⟨t,e1,k _ _ e2⟩⟩
theorem RowsAt.same {H H':Hp}{a:Addr}{xs:List V}{rs:List (List Int)}(h:RowsAt H a xs rs)(s:Same H H'):RowsAt H' a xs rs:=h.keep fun _ _ e=>s _ _ e
theorem rN {S:Addr->Prop}{H:Hp}:∀ {r:List Int} {xs:List V},IsThs S H xs (r.map .int)->xs=r.map V.int
 | [],_,.nil=>rfl
 | i::r,_,.cons h t=>by
  cases h;rw [rN (r:=r) t];rfl
theorem Ec {S:Addr->Prop}{H:Hp}{v:V}{r:List Int}(h:IsTh S H v (rowD r)):∃ t,v=V.ref t/\H t=some (.tup (r.map V.int)):=by
 generalize hd:rowD r=d at h
 cases h with
 | @tup a xs ds e t =>
  injection hd with hd;subst hd;rw [rN t] at e;exact ⟨a,rfl,e⟩
 | _=>cases hd
theorem th_rows {S:Addr->Prop}{H:Hp}{v:V}{rs:List (List Int)}(h:IsTh S H v (bM rs)):∃ a xs,v=.ref a/\RowsAt H a xs rs:=by
 generalize hd:bM rs=d at h
 cases h with
 | @tup a xs ds e t =>
  injection hd with hd;subst hd;refine ⟨a,xs,rfl,e,by rw [t.length,zA1],fun i r hr=>?_⟩;have hi:i < rs.length:=(zAa.mp hr).1;have hx:xs[i]?=some (xs[i]'(by rw [t.length,zA1];exact hi)):=zA0 _;obtain ⟨d,h1,h2⟩:=t.get hx;rw [zAb,hr] at h1;injection h1 with h1;subst h1;obtain ⟨t',e1,e2⟩:=Ec h2;exact ⟨t',by rw [hx,e1],e2⟩
 | _=>cases hd
theorem RowsAt.th {H:Hp}{a:Addr}:∀ {rs:List (List Int)} {xs:List V},RowsAt H a xs rs->IsTh (fun _=>False) H (.ref a) (bM rs):=by
 intro rs xs h;refine .tup h.e ?_
 have gen:∀ (rs:List (List Int)) (xs:List V),xs.length=rs.length->(∀ (i:Nat) (r:List Int),rs[i]?=some r->∃ t,xs[i]?=some (V.ref t)/\H t=some (.tup (r.map V.int)))->IsThs (fun _=>False) H xs (rs.map rowD):=by
  intro rs
  induction rs with
  | nil =>
   intro xs hl _;have:xs=[]:=List.length_eq_zero_iff.mp hl;subst this;exact .nil
  | cons r rs ih =>
   intro xs hl hg
   cases xs with
   | nil=>simp at hl
   | cons x xs =>
    obtain ⟨t,e1,e2⟩:=hg 0 r rfl;have e1:x=.ref t:=by simpa using e1
    subst e1;exact .cons (.tup e2 (IsThs.ints r)) (ih xs (by simpa using hl) fun i r' e=>hg (i+1) r' (by simpa using e))
 exact gen rs xs h.l h.g
def fK (L:List Int)(i:Int)(v:Int):List Int:=L.set i.toNat (L.getD i.toNat 0+v)
def hstep (n y:Int)(L:List Int)(s:List Int):List Int:=if fl s 0=n/\fl s 4<=y then fK (fK L (fl s 1) (-(fl s 3))) (fl s 2) (fl s 3) else L
def base0 (p:List Int):List Int:=(List.replicate 8 0).set (fl p 0).toNat (fl p 4)
def cz (p:List Int)(ss:List (List Int))(n y:Int):List Int:=if fl p 2<=y/\y<=fl p 3 then ss.foldl (hstep n y) (base0 p) else List.replicate 8 0
def qC (ps:List (List Int))(s:List Int):List Int:=ps.getD (fl s 0).toNat []
def rO (ps:List (List Int))(s:List Int):Bool:=(decide (0<=fl s 0) && decide (fl s 0 < ps.length)) && ((decide (0<=fl s 1) && decide (fl s 1 < 8)) && ((decide (0<=fl s 2) && decide (fl s 2 < 8)) && ((!decide (fl s 1=fl s 2)) && ((decide (1<=fl s 3) && decide (fl s 3<=99)) && (decide (fl (qC ps s) 2<=fl s 4) && decide (fl s 4<=fl (qC ps s) 3))))))
def years (a b:Int):List Int:=(List.range (b+1 - a).toNat).map fun (i:Nat)=>a+i
def cu (ps ss:List (List Int))(s:List Int):Bool:=rO ps s && (years (fl s 4) (fl (qC ps s) 3)).all fun y=>decide (fl s 3<=(cz (qC ps s) ss (fl s 0) y).getD (fl s 1).toNat 0)
def un (ps ss:List (List Int)):Option Nat:=(List.range ss.length).find? fun i=>!cu ps (ss.take i) (ss.getD i [])
theorem gA (L:List Int)(i v:Int):(fK L i v).length=L.length:=by unfold fK;rw [List.length_set]
theorem wU (n y:Int)(L s:List Int):(hstep n y L s).length=L.length:=by
 unfold hstep;split
 ·rw [gA,gA]
 ·rfl
theorem dY (p:List Int)(ss:List (List Int))(n y:Int):(cz p ss n y).length=8:=by
 unfold cz;split
 ·have:∀ (ss:List (List Int)) (L:List Int),L.length=8->(ss.foldl (hstep n y) L).length=8:=by
   intro ss
   induction ss with
   | nil=>exact fun L h=>h
   | cons s ss ih=>exact fun L h=>ih _ (by rw [wU];exact h)
  exact this ss _ (by unfold base0;rw [List.length_set,List.length_replicate])
 ·rw [List.length_replicate]
theorem gP {X:Cx}:Fe X (fun x y H Q=>∃ p xs i v,x=.ref p/\y=.int i/\SqL X.K H p xs/\0<=i/\xs[i.toNat]?=some v/\Q v H):=by
 intro pins s σ H x y v u Q I rx ry h;obtain ⟨p,xs,i,z,rfl,rfl,hq,h0,he,q⟩:=h;cases rx;obtain ⟨t,rfl⟩:=ry;obtain ⟨its,r,pl,hz⟩:=I.list hq;obtain ⟨w,ew,fw⟩:=r.get he;have hn:=lq;have hl:=r.length;have hi:=(zAa.mp he).1;exact PySem.wpAny_getItem_list pl.isList h0 (by lia) (by simpa using ew) ⟨z,H,I,fw,q⟩
theorem six_row {p:List Int}(h:p.length=6):p=[fl p 0,fl p 1,fl p 2,fl p 3,fl p 4,fl p 5]:=by
 obtain ⟨a,b,c,d,e,f,rfl⟩:=Gf h;rfl
theorem jb {p:List Int}(h:p.length=5):p=[fl p 0,fl p 1,fl p 2,fl p 3,fl p 4]:=by
 obtain ⟨a,b,c,d,e,rfl⟩:=Ge h;rfl
theorem jV (L:List Int)(i:Nat)(v:Int):(L.map V.int).set i (.int v)=(L.set i v).map V.int:=by rw [List.map_set]
theorem dz {L:List Int}{i:Nat}(h:i < L.length):(L.map V.int)[i]?=some (.int (L.getD i 0)):=by
 rw [zAb,zA0 h,zA7,zA0 h];rfl
theorem rP {n:Nat}{i:Int}(h0:0<=i)(h1:i < n):ixN n i=some i.toNat:=by
 unfold ixN;rw [zAx h0,zAx h1]
def okS (s:List Int):Prop:=s.length=5/\(0<=fl s 1/\fl s 1 < 8)/\(0<=fl s 2/\fl s 2 < 8)
inductive SpHeldI (vs:List V)(H:Hp)(Q:VK):Prop
 | mk:∀ ap xp ps ah xs ss n y,(vs=[.ref ap,.ref ah,.int n,.int y])->(RowsAt H ap xp ps)->(RowsAt H ah xs ss)->(0<=n)->(n < ps.length)->(okP (ps.getD n.toNat []))->(ss.length<=12)->((∀ s∈ss,okS s))->(∀ l H',Same H H'->H' l=some (.lst ((cz (ps.getD n.toNat []) ss n y).map V.int))->Q (.ref l) H')->SpHeldI  vs H Q
def u6:Sp:=fun vs H Q _=>SpHeldI  vs H Q
structure MS (mg:Str->Option Value):Prop where
 sales:∃ t,mg "MOST_SALES" = some (.int 12 t)
theorem Gg:FnScope ["thing"] ["thing"] (aK (top 31)):=fS
theorem qD (F:Fun K "are_sales" "are_sales" (top 31) f fd)(T:Mg mg)(N:MS mg)(c1:Cal P w K mg base 2 "are_wholes" ["thing","many"] (yw bx))(c2:Cal P w K mg base 1 "is_tuple_of" ["thing","fewest","most"] (jn bB)) :
  FnOk P w K mg base CX0 3 f fd ["thing"] (spT dR):=by
 refine F.ok Gg (fun vs H Q E h=>?_) (fun av A outer s H vs Q E hr h=>?_)
 ·obtain ⟨S,v,d,rfl,_⟩:=h;rfl
 ·obtain ⟨S,v,d,rfl,th,hz,q⟩:=h;obtain ⟨t3,e3⟩:=N.sales
  refine ⟨_,aG (aR (cg (aD c2 hr (aq (pv 0) (aq az (aq (bK (v:=.int 12) rfl e3 ⟨_,rfl⟩) aa))))
   (dB (aQ (dI rfl) rfl T.all boot_all (aq (bA ["part"] [none] rfl (dM (pv 0))
    (fun C fp pins s₂ H₂=>⟨aZ (i:=0) (nd1 _) rfl (Or.inl rfl),bh,aD c1 hr (aq (pv 0) (aq az aa))⟩) (fun C=>trivial) ⟨rfl,rfl,rfl,rfl⟩) aa))))),?_⟩
  refine ⟨_,rfl,S,v,d,0,12,rfl,th,hz,fun H1 s1=>⟨_,rfl,?_⟩⟩;have bX:=th.same s1;have fin:=fun H' (s:Same H H')=>q H' s;unfold dR at fin
  cases e:bB d 0 12 with
  | false =>
   rw [e] at fin;exact bI (fin _ s1)
  | true =>
   rw [e] at fin;refine bV ?_
   cases bX with
   | @tup a xs ds ea r=>exact cX (fun x=>bx x 5) rfl ea r (eU r hz) (fun v d H2 Q2 hm s2 t2 q2=>⟨_,rfl,S,v,d,5,rfl,t2,j8 hm hz,q2⟩) fun H2 s2=>fin _ (s1.trans s2)
   | _=>cases e
theorem sc23s:FnScope ["promises","sales","number","year","holder","sort","first","last","sacks","price","held","promise","seller","buyer","sold","since"] ["promises","sales","number","year"] (aK (top 32)):=fS
theorem Bp (F:Fun K "held_in" "held_in" (top 32) f fd)(N:Nums mg):FnOk P w K mg base CX0 1 f fd ["promises","sales","number","year"] u6:=by
 refine F.ok sc23s (fun vs H Q E h=>?_) (fun av A outer s H vs Q E hr h=>?_)
 ·obtain ⟨ap,xp,ps,ah,xs,ss,n,y,rfl,_⟩:=h;rfl
 ·obtain ⟨ap,xp,ps,ah,xs,ss,n,y,rfl,rp,rs,n0,n1,okp,hl,ff,q⟩:=h;obtain ⟨t1,e1⟩:=N.holders
  refine ⟨_,aB (cj (pX cM (pv 0) (pv 2)) (bU rfl (au (pgn 4 sc23s.nd) (au (pgn 5 sc23s.nd) (au (pgn 6 sc23s.nd)
    (au (pgn 7 sc23s.nd) (au (pgn 8 sc23s.nd) (au (pgn 9 sc23s.nd) aY))))))))
   (aB (pss 10 sc23s.nd (aV Dy (dN (aq az aa)) (bK (v:=.int 8) rfl e1 ⟨_,rfl⟩)))
   (aB (bW (cH (kZ bY bY (pv 6) (pv 3) (pv 7))) (aG (aR (pv 10))) bf)
   (aB (cj (pv 8) (ie (pv 10) (pv 4) set_list))
   (aB (cV zB8 rfl (dM (pv 1)) (bU rfl (au (pgn 11 sc23s.nd) (au (pgn 12 sc23s.nd) (au (pgn 13 sc23s.nd)
     (au (pgn 14 sc23s.nd) (au (pgn 15 sc23s.nd) aY))))))
    (aG (bW (PW.pt (sX (bw kY (pv 11) (pv 2) (bF _)) (pL (bw bY (pv 15) (pv 3) (bF _)))))
     (aB (pN (pv 10) (pv 12) gP (pv 14) xN set_list) (aG (pN (pv 10) (pv 13) gP (pv 14) xM set_list))) bf)))
   (aG (aR (pv 10))))))),?_⟩
  obtain ⟨p,hp⟩:∃ p,ps[n.toNat]?=some p:=⟨_,zA0 (by lia)⟩
  have ep:ps.getD n.toNat []=p:=by rw [zA7,hp];rfl
  rw [ep] at okp q;obtain ⟨t,ex,et⟩:=rp.g _ _ hp;have p6:=six_row okp.1;obtain ⟨l6,⟨a1,a2⟩,b,⟨c1,c2,c3⟩,⟨d1,d2⟩,ee⟩:=id okp
  have f7:atI xp n=some (.ref t):=by
   have:=bQ ex;rw [show ((n.toNat:Nat):Int)=n by lia] at this;exact this
  rw [p6] at et;refine aF ?_;refine ⟨_,rfl,_,rfl,ap,xp,n,.ref t,rfl,rfl,SqT.of rp.e,f7,?_⟩;refine ⟨t,_,rfl,SqT.of et,rfl,_,_,rfl,_,_,rfl,_,_,rfl,_,_,rfl,_,_,rfl,_,_,rfl,rfl,?_⟩;dsimp only;refine aF (aX ?_);refine ⟨zL,fun l0 IU=>⟨l0,8,_,rfl,rfl,aj,by decide,by decide,zL,fun l1 gI=>?_⟩⟩;have s1:Same H (upd (upd H l0 (.lst [V.int 0])) l1 (.lst (List.replicate (8:Int).toNat [V.int 0]).flatten)):=(Same.upd IU).updR gI;have el1:upd (upd H l0 (.lst [V.int 0])) l1 (.lst (List.replicate (8:Int).toNat [V.int 0]).flatten) l1=some (.lst ((List.replicate 8 (0:Int)).map V.int)):=aj;have A9:H l1=none:=(Same.upd IU).free gI;generalize upd (upd H l0 (.lst [V.int 0])) l1 (.lst (List.replicate (8:Int).toNat [V.int 0]).flatten)=H1 at s1 el1 ⊢;refine aM ?_;dsimp only;refine aF ?_;refine cB (p:=fun i j=>decide (i<=j)) (q:=fun i j=>decide (i<=j)) (i:=fl p 2) (j:=y) (k:=fl p 3) (eO rfl) (eO rfl) (eO rfl) _ ⟨_,rfl,?_⟩;by_cases nB:fl p 2<=y/\y<=fl p 3
  ·rw [decide_eq_true nB.1,decide_eq_true nB.2];refine bI (dw ?_);dsimp only;refine aF ?_;refine ⟨_,rfl,_,rfl,_,rfl,l1,_,fl p 0,(fl p 0).toNat,rfl,rfl,el1,rP a1 (by show fl p 0 < 8;exact a2),?_⟩;rw [jV];dsimp only;refine aF ?_;have Lp:ah≠l1:=aC rs.e A9;refine ⟨_,rfl,ah,rfl,⟨xs,SqT.of (by rw [aA Lp];exact s1 _ _ rs.e)⟩,?_⟩
   have DS:∀ {Hc:Hp} {o:HO},Same H Hc->Same H (upd Hc l1 o):=fun {Hc o} sm b u e=>by
    rw [aA (aC e A9)];exact sm _ _ e
   refine Ah (xs:=xs) (fun i σ Hc=>∃ cx cy cE cK de,σ=[some (.ref ap),some (.ref ah),some (.int n),some (.int y),some (.int (fl p 0)),some (.int (fl p 1)),some (.int (fl p 2)),some (.int (fl p 3)),some (.int (fl p 4)),some (.int (fl p 5)),some (.ref l1),cx,cy,cE,cK,de]/\Same H Hc/\Hc l1=some (.lst (((ss.take i).foldl (hstep n y) (base0 p)).map V.int))) ?_ ?_ ?_ ?_
   ·exact ⟨none,none,none,none,none,rfl,DS s1,aj⟩
   ·rintro i σ Hc hi ⟨cx,cy,cE,cK,de,rfl,sm,el⟩;exact SqT.of (sm _ _ rs.e)
   ·rintro i x σ Hc hx ⟨cx,cy,cE,cK,de,rfl,sm,el⟩
    have hi:i < ss.length:=by
     have:=(zAa.mp hx).1;rw [rs.l] at this;exact this
    obtain ⟨tr,hU,fq⟩:=rs.g i ss[i] (zA0 hi)
    have:x=.ref tr:=by
     rw [hx] at hU;exact zAl hU
    subst this;obtain ⟨o1,⟨o2,o3⟩,o4,o5⟩:=ff ss[i] (zAh hi);have s5:=jb o1;have dA:ss.take (i+1)=ss.take i++[ss[i]]:=by rw [zAj,zA0 hi];rfl
    have yb:(ss.take (i+1)).foldl (hstep n y) (base0 p)=hstep n y ((ss.take i).foldl (hstep n y) (base0 p)) ss[i]:=by rw [dA,List.foldl_append];rfl
    rw [yb];generalize hL:(ss.take i).foldl (hstep n y) (base0 p)=L at el ⊢
    have lL:L.length=8:=by
     have:=dY p (ss.take i) n y;unfold cz at this;rw [zAx nB,hL] at this;exact this
    generalize ss[i]=r at fq s5 o2 o3 o4 o5 ⊢;rw [s5] at fq;refine ⟨tr,_,rfl,SqT.of (sm _ _ fq),rfl,_,_,rfl,_,_,rfl,_,_,rfl,_,_,rfl,_,_,rfl,rfl,?_⟩;refine ⟨_,rfl,_,rfl,rfl,_,rfl,?_⟩;by_cases hn:fl r 0=n
    ·rw [zAt (show V.int (fl r 0)=V.int n by rw [hn])];refine bV ?_;refine ⟨_,rfl,_,rfl,_,_,rfl,rfl,_,rfl,?_⟩;by_cases hy:fl r 4<=y
     ·rw [zAt hy];refine bV ?_;have e1:hstep n y L r=fK (fK L (fl r 1) (-(fl r 3))) (fl r 2) (fl r 3):=zAx ⟨hn,hy⟩;rw [e1];refine aF ?_;refine ⟨_,rfl,_,rfl,l1,_,fl r 1,_,rfl,rfl,SqL.of el,o2,dz (by lia),_,rfl,_,_,rfl,rfl,l1,_,fl r 1,(fl r 1).toNat,rfl,rfl,el,rP o2 (by rw [zA1];lia),?_⟩;rw [jV]
      have e2:L.set (fl r 1).toNat (L.getD (fl r 1).toNat 0 - fl r 3)=fK L (fl r 1) (-(fl r 3)):=by
       unfold fK;rw [Int.sub_eq_add_neg]
      rw [e2];generalize Lq:fK L (fl r 1) (-(fl r 3))=L1;have QN:L1.length=8:=by rw [<- Lq,gA];exact lL
      refine ⟨_,rfl,_,rfl,l1,_,fl r 2,_,rfl,rfl,SqL.of aj,o4,dz (by lia),_,rfl,_,_,rfl,rfl,l1,_,fl r 2,(fl r 2).toNat,rfl,rfl,aj,rP o4 (by rw [zA1];lia),?_⟩;rw [jV];exact ⟨_,_,_,_,_,rfl,DS (DS sm),aj⟩
     ·rw [zB1 hy];refine bI ?_;have e1:hstep n y L r=L:=zAu fun z=>hy z.2;rw [e1];exact ⟨_,_,_,_,_,rfl,sm,el⟩
    ·rw [zB1 (fun z:V.int (fl r 0)=V.int n=>hn (by injection z))];refine bI (bI ?_);have e1:hstep n y L r=L:=zAu fun z=>hn z.1;rw [e1];exact ⟨_,_,_,_,_,rfl,sm,el⟩
   ·rintro σ Hc ⟨cx,cy,cE,cK,de,rfl,sm,el⟩;rw [rs.l,zAm] at el;refine ⟨_,rfl,q _ _ sm ?_⟩;unfold cz;rw [zAx nB];exact el
  ·have hb:(decide (fl p 2<=y) && decide (y<=fl p 3))=false:=by
    cases e:(decide (fl p 2<=y) && decide (y<=fl p 3)) with
    | false=>rfl
    | true =>
     rw [zAc,decide_eq_true_eq,decide_eq_true_eq] at e;exact absurd e nB
   rw [hb];refine bV ⟨_,rfl,q _ _ s1 ?_⟩;unfold cz;rw [zAu nB];exact el1
theorem yC {te:TE}{lo:Int}{n:Nat}{fh:St}{j:Nat}{H0:Hp}{Fin:List V->Hp->Prop}(Pv:List V->Hp->Prop)(h0:Pv [] H0)(hz:n < sizeLine)
  (step:∀ i ys H Q,i < n->ys.length=i->Pv ys H->(∀ y H',Pv (ys++[y]) H'->Q y H')->te (fh.set j (some (.int (lo+i)))) H Q)
  (fin:∀ ys H,ys.length=n->Pv ys H->Fin ys H):jC (Itr lo n) (bG j) w5 te Fin fh H0:=by
 refine ⟨fun i m ys σ H=>m=n - i/\i<=n/\ys.length=i/\(∀ o,σ.set j o=fh.set j o)/\Pv ys H,⟨_,rfl,zAp _,rfl,fun _=>rfl,h0⟩,?_⟩;rintro i m ys σ H ⟨rfl,hi,hy,nv,p⟩;refine ⟨by lia,?_⟩;by_cases aT:i < n
 ·refine .inr ⟨aT,fun x H' y=>?_⟩;obtain ⟨e,e2⟩:=y;subst e;subst e2;show te (σ.set j (some (.int (lo+i)))) H' _;rw [nv]
  exact step i ys H' _ aT hy p fun y H2 p2=>⟨n - (i+1),by lia,rfl,aT,by rw [zA2,hy];rfl,fun o=>by rw [List.set_set],p2⟩
 ·have e:i=n:=by lia
  subst e;exact .inl ⟨zA3 _,fin ys H hy p⟩
theorem Gh {σ:St}{H:Hp}{ta tb:TE}{i j:Int}(a:Ev σ H ta (.int i))(b:Ev σ H tb (.int j)):Ev σ H (tOp rNe ta tb) (.bl (!decide (i=j))):=fun Q q=>a _ (b _ ⟨rfl,by
 have ed:decide (V.int i=V.int j)=decide (i=j):=decide_eq_decide.mpr ⟨fun z=>by injection z,fun z=>by rw [z]⟩;rw [ed]
 exact q⟩)
theorem wV (a b:Int):(years a b).length=(b+1 - a).toNat:=by unfold years;rw [zA1,List.length_range]
theorem wW {a b:Int}{i:Nat}(h:i < (b+1 - a).toNat):(years a b)[i]?=some (a+i):=by
 unfold years;rw [zAb,List.getElem?_range h];rfl
theorem wX {α β:Type}{l:List α}{f:α->β}{ys:List β}{x:α}(ey:ys=(l.take ys.length).map f)(hx:l[ys.length]?=some x):ys++[f x]=(l.take (ys++[f x]).length).map f:=by
 rw [zA2,List.length_singleton,zAj,hx,zA4,<- ey];rfl
inductive SpBetwI (vs:List V)(H:Hp)(Q:VK):Prop
 | mk:∀ ap xp ps t s,(vs=[.ref ap,.ref t])->(RowsAt H ap xp ps)->((∀ r∈ps,okP r))->(H t=some (.tup (s.map V.int)))->(s.length=5)->(Q (.bl (rO ps s)) H)->SpBetwI  vs H Q
def yD:Sp:=fun vs H Q _=>SpBetwI  vs H Q
inductive SpHoldsI (vs:List V)(H:Hp)(Q:VK):Prop
 | mk:∀ ap xp ps ah xs ss t s,(vs=[.ref ap,.ref ah,.ref t])->(RowsAt H ap xp ps)->((∀ r∈ps,okP r))->(RowsAt H ah xs ss)->(ss.length<=12)->((∀ s∈ss,okS s))->(H t=some (.tup (s.map V.int)))->(s.length=5)->(∀ H',Same H H'->Q (.bl (cu ps ss s)) H')->SpHoldsI  vs H Q
def uX:Sp:=fun vs H Q _=>SpHoldsI  vs H Q
def unV:Option Nat->V
 | none=>.non
 | some i=>.int i
inductive SpFirstI (vs:List V)(H:Hp)(Q:VK):Prop
 | mk:∀ S v d S' u e,(vs=[v,u])->(IsTh S H v d)->(IsTh S' H u e)->(dO d=true)->(dR e=true)->(sz d<=4000)->(sz e<=4000)->(∀ H',Same H H'->Q (unV (un (rowsOf d) (rowsOf e))) H')->SpFirstI  vs H Q
def uY:Sp:=fun vs H Q _=>SpFirstI  vs H Q
theorem prom_ok {ps:List (List Int)}{n:Int}(h:∀ r∈ps,okP r)(h0:0<=n)(h1:n < ps.length):∃ p,ps[n.toNat]?=some p/\ps.getD n.toNat []=p/\okP p:=by
 have hn:n.toNat < ps.length:=by lia
 refine ⟨ps[n.toNat],zA0 hn,?_,h _ (zAh hn)⟩;rw [zA7,zA0 hn];rfl
theorem rows_at {H:Hp}{a:Addr}{xs:List V}{rs:List (List Int)}{n:Int}{r:List Int}(h:RowsAt H a xs rs)(h0:0<=n)(e:rs[n.toNat]?=some r):∃ t,atI xs n=some (.ref t)/\H t=some (.tup (r.map V.int)):=by
 obtain ⟨t,e1,e2⟩:=h.g _ _ e;refine ⟨t,?_,e2⟩;have:=bQ e1;rw [show ((n.toNat:Nat):Int)=n by lia] at this;exact this
theorem sc24s:FnScope ["promises","sale","number","seller","buyer","sacks","year","holder","sort","first","last","due","price"] ["promises","sale"] (aK (top 33)):=fS
theorem Bq (F:Fun K "is_sale_between" "is_sale_between" (top 33) f fd)(T:Mg mg)(N:Nums mg):FnOk P w K mg base CX0 1 f fd ["promises","sale"] yD:=by
 refine F.ok sc24s (fun vs H Q E h=>?_) (fun av A outer s H vs Q E hr h=>?_)
 ·obtain ⟨ap,xp,ps,t,r,rfl,_⟩:=h;rfl
 ·obtain ⟨ap,xp,ps,t,r,rfl,rp,okp,et,h5,q⟩:=h;obtain ⟨t1,e1⟩:=N.holders;obtain ⟨t4,e4⟩:=N.sacks
  refine ⟨_,aB (cj (pv 1) (bU rfl (au (pgn 2 sc24s.nd) (au (pgn 3 sc24s.nd) (au (pgn 4 sc24s.nd) (au (pgn 5 sc24s.nd) (au (pgn 6 sc24s.nd) aY)))))))
   (aB (bW (cH (kZ bY gh az (pv 2) (aQ bT rfl T.len PySem.boot_len (aq (pv 0) aa)))) (aG (aR iB)) bf)
   (aB (cj (pX cM (pv 0) (pv 2)) (bU rfl (au (pgn 7 sc24s.nd) (au (pgn 8 sc24s.nd) (au (pgn 9 sc24s.nd)
    (au (pgn 10 sc24s.nd) (au (pgn 11 sc24s.nd) (au (pgn 12 sc24s.nd) aY))))))))
   (aG (aR (cg (cC bY gh az (pv 3) (bK (v:=.int 8) rfl e1 ⟨_,rfl⟩)) (cg (cC bY gh az (pv 4) (bK (v:=.int 8) rfl e1 ⟨_,rfl⟩)) (cg (jR Fo (pv 3) (pv 4) (bF _))
    (cg (cC bY bY az (pv 5) (bK (v:=.int 99) rfl e4 ⟨_,rfl⟩)) (dB (cC bY bY (pv 9) (pv 6) (pv 10))))))))))),?_⟩
  rw [jb h5] at et;refine aF ?_;refine ⟨_,rfl,t,_,rfl,SqT.of et,rfl,_,_,rfl,_,_,rfl,_,_,rfl,_,_,rfl,_,_,rfl,rfl,?_⟩;dsimp only;refine aF ?_;refine cB (p:=fun i j=>decide (i<=j)) (q:=fun i j=>decide (i < j)) (i:=0) (j:=fl r 0) (k:=(xp.length:Int)) fV (eO rfl) (fun Q h=>⟨_,rfl,ap,xp,rfl,.inr (SqT.of rp.e),h⟩) _ ⟨_,rfl,?_⟩;have fin:=q;unfold rO at fin;rw [rp.l]
  cases e:(decide (0<=fl r 0) && decide (fl r 0 < ps.length)) with
  | false =>
   rw [e] at fin;exact bV fin
  | true =>
   rw [e] at fin;rw [zAc,decide_eq_true_eq,decide_eq_true_eq] at e;obtain ⟨p,hp,ep,op⟩:=prom_ok okp e.1 e.2;obtain ⟨tp,f7,hV⟩:=rows_at rp e.1 hp;rw [six_row op.1] at hV;refine bI (dw ?_);dsimp only;refine aF ?_;refine ⟨_,rfl,_,rfl,ap,xp,_,.ref tp,rfl,rfl,SqT.of rp.e,f7,?_⟩;refine ⟨tp,_,rfl,SqT.of hV,rfl,_,_,rfl,_,_,rfl,_,_,rfl,_,_,rfl,_,_,rfl,_,_,rfl,rfl,?_⟩;have DT:qC ps r=p:=ep;rw [DT] at fin;exact gn (cB fV (eO rfl) fV) (fun _=>gn (cB fV (eO rfl) fV) fun _=>gn (Gh (eO rfl) (eO rfl)) fun _=>gn (cB fV (eO rfl) fV) fun _=>cB (eO rfl) (eO rfl) (eO rfl)) _ fin
theorem sc25s:FnScope ["promises","ahead","sale","number","seller","buyer","sacks","year","last"] ["promises","ahead","sale"] (aK (top 34)):=fS
theorem Hx:(["at","promises","ahead","number","seller","sacks"]:List Str).Nodup:=by decide +kernel
theorem yE (F:Fun K "sale_holds" "sale_holds" (top 34) f fd)(T:Mg mg)(Tr:mg "range" = none)(c1:Cal P w K mg base 1 "is_sale_between" ["promises","sale"] yD)(c2:Cal P w K mg base 1 "held_in" ["promises","sales","number","year"] u6) :
  FnOk P w K mg base CX0 2 f fd ["promises","ahead","sale"] uX:=by
 refine F.ok sc25s (fun vs H Q E h=>?_) (fun av A outer s H vs Q E hr h=>?_)
 ·obtain ⟨ap,xp,ps,ah,xs,ss,t,r,rfl,_⟩:=h;rfl
 ·obtain ⟨ap,xp,ps,ah,xs,ss,t,r,rfl,rp,okp,rs,hl,ff,et,h5,q⟩:=h
  refine ⟨_,aB (bW (cH (dq (aD c1 hr (aq (pv 0) (aq (pv 2) aa))))) (aG (aR iB)) bf)
   (aB (cj (pv 2) (bU rfl (au (aZ (i:=3) sc25s.nd rfl (Or.inr rfl)) (au (aZ (i:=4) sc25s.nd rfl (Or.inr rfl)) (au (pgn 5 sc25s.nd) (au (aZ (i:=6) sc25s.nd rfl (Or.inr rfl)) (au (pgn 7 sc25s.nd) aY)))))))
   (aB (pss 8 sc25s.nd (pX cM (pX cM (pv 0) (pv 3)) az))
   (aG (aR (aQ (dI rfl) rfl T.all boot_all (aq (bA ["at","promises","ahead","number","seller","sacks"] [none,some 0,some 1,some 3,some 4,some 6] rfl (nY rfl Tr (aq (pv 7) (aq (aV bC (pv 8) az) aa)))
    (fun C fp pins s₂ H₂=>⟨pgn 0 Hx,bh,jR Cq (pX (fJ (K:=K) rfl) (aD c2 hr (aq (pv 1) (aq (pv 2) (aq (pv 3) (aq (pv 0) aa))))) (pv 4)) (pv 5) (bF _)⟩)
    (fun C=>cI (cI (cI (cI (cI trivial))))) ⟨rfl,rfl,rfl,rfl⟩) aa)))))),?_⟩
  have fin:=q;unfold cu at fin;refine aF ?_;refine ⟨_,rfl,_,rfl,ap,xp,ps,t,r,rfl,rp,okp,et,h5,_,rfl,?_⟩
  cases e:rO ps r with
  | false =>
   rw [e] at fin;exact bV (fin _ (Same.refl _))
  | true =>
   rw [e] at fin;refine bI (dw ?_);dsimp only;refine aF ?_;unfold rO at e;simp only [Bool.and_eq_true,decide_eq_true_eq] at e;obtain ⟨⟨n0,n1⟩,⟨b0,b1⟩,_,_,⟨k0,k1⟩,y0,y1⟩:=e;obtain ⟨p,hp,ep,op⟩:=prom_ok okp n0 n1;have DT:qC ps r=p:=ep;rw [DT] at fin y0 y1;obtain ⟨tp,f7,hV⟩:=rows_at rp n0 hp;rw [jb h5] at et;rw [six_row op.1] at hV;obtain ⟨_,_,_,⟨g1,g2,g3⟩,_⟩:=id op;refine ⟨_,rfl,t,_,rfl,SqT.of et,rfl,_,_,rfl,_,_,rfl,_,_,rfl,_,_,rfl,_,_,rfl,rfl,?_⟩;dsimp only;refine aF (aX ?_);refine ⟨_,rfl,_,rfl,ap,xp,_,.ref tp,rfl,rfl,SqT.of rp.e,f7,tp,_,3,.int (fl p 3),rfl,rfl,SqT.of hV,rfl,?_⟩;refine aM ?_;dsimp only;refine ⟨_,rfl,_,rfl,_,_,rfl,rfl,fl r 4,fl p 3+1,rfl,⟨by lia,by lia,by lia,by lia⟩,?_⟩;refine yC (fun ys Hc=>Same H Hc/\ys=((years (fl r 4) (fl p 3)).take ys.length).map fun y=>V.bl (decide (fl r 3<=(cz p ss (fl r 0) y).getD (fl r 1).toNat 0))) ⟨Same.refl _,rfl⟩ (by rw [sizeLine_eq];lia) ?_ ?_
   ·rintro i ys Hc Qc hi hy ⟨sc,ey⟩ qc;refine ⟨_,rfl,_,rfl,_,rfl,_,rfl,ap,xp,ps,ah,xs,ss,fl r 0,fl r 4+i,rfl,rp.same sc,rs.same sc,n0,n1,by rw [ep];exact op,hl,ff,fun l H' s' el=>?_⟩;rw [ep] at el;refine ⟨_,rfl,l,_,fl r 1,.int ((cz p ss (fl r 0) (fl r 4+i)).getD (fl r 1).toNat 0),rfl,rfl,SqL.of el,?_,_,rfl,_,_,rfl,rfl,qc _ _ ⟨sc.trans s',?_⟩⟩
    ·unfold atI;rw [rP b0 (by rw [zA1,dY];lia)];exact dz (by rw [dY];lia)
    ·have hx:(years (fl r 4) (fl p 3))[ys.length]?=some (fl r 4+(i:Int)):=by
      rw [hy];exact wW hi
     exact wX ey hx
   ·rintro ys Hc hy ⟨sc,ey⟩ D hD;rw [List.take_of_length_le (by rw [wV,hy];exact zA3 _)] at ey;refine ⟨D,(years (fl r 4) (fl p 3)).map fun y=>decide (fl r 3<=(cz p ss (fl r 0) y).getD (fl r 1).toNat 0),rfl,SqL.of (by rw [zAr];rw [ey];exact aj),?_⟩;rw [List.all_map];exact fin _ (sc.updR hD)
theorem jc {xs:List V}{i:Nat}(h:i<=xs.length):iH xs none (some (i:Int))=xs.take i:=by
 unfold iH;rw [HT.sIx_none,HT.sIx_nat,List.drop_zero,Nat.min_eq_left h,Nat.sub_zero]
theorem RowsAt.cut {H:Hp}{a p:Addr}{xs:List V}{rs:List (List Int)}(h:RowsAt H a xs rs)(i:Nat)(hp:H p=none):RowsAt (upd H p (.tup (xs.take i))) p (xs.take i) (rs.take i):=by
 refine ⟨aj,by rw [zAd,zAd,h.l],fun j r e=>?_⟩
 have hj:j < i:=by
  rw [List.getElem?_take] at e;split at e
  ·assumption
  ·cases e
 rw [List.getElem?_take_of_lt hj] at e;obtain ⟨t,e1,e2⟩:=h.g j r e;exact ⟨t,by rw [List.getElem?_take_of_lt hj];exact e1,Same.upd hp _ _ e2⟩
theorem uZ {ps ss:List (List Int)}{i:Nat}(h:∀ j,j < i->cu ps (ss.take j) (ss.getD j [])=true)(hi:i < ss.length)(hn:cu ps (ss.take i) (ss.getD i [])=false):un ps ss=some i:=by
 unfold un;rw [List.find?_range_eq_some];exact ⟨by rw [hn];rfl,List.mem_range.mpr hi,fun j hj=>by rw [h j hj];rfl⟩
theorem v7 {ps ss:List (List Int)}(h:∀ j,j < ss.length->cu ps (ss.take j) (ss.getD j [])=true):un ps ss=none:=by
 unfold un;rw [List.find?_range_eq_none]
 exact fun j hj=>by rw [h j hj];rfl
theorem mH {ps ss:List (List Int)}{s:List Int}(h5:s.length=5)(h:cu ps ss s=true):okS s:=by
 unfold cu rO at h;simp only [Bool.and_eq_true,decide_eq_true_eq] at h;exact ⟨h5,h.1.2.1,h.1.2.2.1⟩
theorem getD_get {ss:List (List Int)}{i:Nat}(h:i < ss.length):ss.getD i []=ss[i]:=by
 rw [zA7,zA0 h];rfl
def part (d:PyData)(i:Nat):PyData:=(items d).getD i .none
def gZ (d:PyData):Bool:=bB d 3 3 && (eQ (part d 0) && (dO (part d 1) && (dR (part d 2) && (un (rowsOf (part d 1)) (rowsOf (part d 2))).isNone)))
theorem sc26s:FnScope ["promises","sales","at","sale"] ["promises","sales"] (aK (top 35)):=fS
theorem yF (F:Fun K "first_unheld" "first_unheld" (top 35) f fd)(Te:mg "enumerate" = none)(c1:Cal P w K mg base 4 "are_promises" ["thing"] (spT dO))(c2:Cal P w K mg base 3 "are_sales" ["thing"] (spT dR))(c3:Cal P w K mg base 2 "sale_holds" ["promises","ahead","sale"] uX) :
  FnOk P w K mg base CX0 5 f fd ["promises","sales"] uY:=by
 refine F.ok sc26s (fun vs H Q E h=>?_) (fun av A outer s H vs Q E hr h=>?_)
 ·obtain ⟨S,v,d,S',u,e,rfl,_⟩:=h;rfl
 ·obtain ⟨S,v,d,S',u,e,rfl,IV,ths,hp,hs,zp,zs,q⟩:=h
  refine ⟨_,aB (bW (cH (dq (aD c1 hr (aq (pv 0) aa)))) nW bf)
   (aB (bW (cH (dq (aD c2 hr (aq (pv 1) aa)))) nW bf)
   (aB (cV zB8 rfl (pi_enum rfl Te (aq (pv 1) aa)) (bU rfl (au (pgn 2 sc26s.nd) (au (pgn 3 sc26s.nd) aY)))
    (aG (bW (cH (dq (aD c3 hr (aq (pv 0) (aq (gj uJ (pv 1) iD (iG (pv 2))) (aq (pv 3) aa)))))) (aG (aR (pv 2))) bf)))
   (aG (aR pJ)))),?_⟩
  refine aF ?_;refine ⟨_,rfl,S,v,d,rfl,IV,zp,fun H1 s1=>⟨_,rfl,?_⟩⟩;rw [hp];refine bI (dw ?_);dsimp only;refine aF ?_;refine ⟨_,rfl,S',u,e,rfl,ths.same s1,zs,fun H2 s2=>⟨_,rfl,?_⟩⟩;rw [hs];refine bI (dw ?_);dsimp only;have l9:=s1.trans s2;obtain ⟨ep,lp,okp⟩:=u0 hp;obtain ⟨es,ls,ff⟩:=u5 hs;have bX:=IV.same l9;have tw:=ths.same l9;rw [ep] at bX;rw [es] at tw;generalize rowsOf d=ps at q lp okp bX;generalize rowsOf e=ss at q ls ff tw;obtain ⟨ap,xp,rfl,rp⟩:=th_rows bX;obtain ⟨ah,xs,rfl,rs⟩:=th_rows tw;refine aF ?_;refine ⟨_,rfl,ah,xs,rfl,SqT.of rs.e,?_⟩;refine iR (xs:=xs) (fun i σ Hc=>∃ x2 x3,σ=[some (.ref ap),some (.ref ah),x2,x3]/\Same H2 Hc/\∀ j,j < i->cu ps (ss.take j) (ss.getD j [])=true) ?_ ?_ ?_ ?_
  ·exact ⟨none,none,rfl,Same.refl _,fun j hj=>absurd hj (Nat.not_lt_zero _)⟩
  ·rintro i σ Hc hi ⟨x2,x3,rfl,sm,hh⟩;exact SqT.of (sm _ _ rs.e)
  ·rintro i x σ Hc T0 hx ⟨x2,x3,rfl,sm,hh⟩ nT
   have hi:i < ss.length:=by
    have:=(zAa.mp hx).1;rw [rs.l] at this;exact this
   have tF:i < xs.length:=by rw [rs.l];exact hi
   obtain ⟨tr,hU,fq⟩:=rs.g i ss[i] (zA0 hi)
   have:x=.ref tr:=by
    rw [hx] at hU;exact zAl hU
   subst this;have h5:=ff ss[i] (zAh hi);have sT:=sm.updR (o:=.tup [V.int i,V.ref tr]) nT;refine ⟨T0,_,rfl,SqT.of aj,rfl,_,_,rfl,_,_,rfl,rfl,?_⟩;refine ⟨_,rfl,_,rfl,_,rfl,i,rfl,ah,xs,rfl,SqT.of (sT _ _ rs.e),fun hw=>?_,fun _ p IW=>?_⟩
   ·have:=hw.2;rw [HT.sIx_nat] at this;exact absurd this (by lia)
   rw [jc (Nat.le_of_lt tF)];have sp:=sT.updR (o:=.tup (xs.take i)) IW;refine ⟨_,rfl,ap,xp,ps,p,xs.take i,ss.take i,tr,ss[i],rfl,rp.same sp,okp,(rs.same sT).cut i IW,?_,?_,sp _ _ fq,h5,fun H' s'=>⟨_,rfl,?_⟩⟩
   ·rw [zAd];lia
   ·intro s cb;obtain ⟨j,hj,e'⟩:=List.getElem_of_mem cb;rw [zAd] at hj;have Lr:j < i:=by lia
    have IX:j < ss.length:=by lia
    have e2:ss[j]=s:=by rw [<- e',List.getElem_take]
    rw [<- e2];have:=hh j Lr;rw [getD_get IX] at this;exact mH (ff _ (zAh IX)) this
   ·cases eh:cu ps (ss.take i) ss[i] with
    | false =>
     refine bV ⟨_,rfl,?_⟩;have:=q H' (l9.trans (sp.trans s'));rw [uZ hh hi (by rw [getD_get hi];exact eh)] at this;exact this
    | true =>
     refine bI ⟨_,_,rfl,sp.trans s',fun j hj=>?_⟩;rcases Nat.lt_succ_iff_lt_or_eq.mp hj with z | z
     ·exact hh j z
     ·rw [z,getD_get hi];exact eh
  ·rintro σ Hc ⟨x2,x3,rfl,sm,hh⟩;have:=q Hc (l9.trans sm);rw [v7 fun j hj=>hh j (by rw [rs.l];exact hj)] at this;exact this
theorem sc27s:FnScope ["thing","clips","promises","sales"] ["thing"] (aK (top 36)):=fS
theorem ok_book (F:Fun K "is_book" "is_book" (top 36) f fd)(c0:Cal P w K mg base 1 "is_tuple_of" ["thing","fewest","most"] (jn bB))(c1:Cal P w K mg base 4 "are_clips" ["thing"] (spT eQ))(c2:Cal P w K mg base 4 "are_promises" ["thing"] (spT dO))(c3:Cal P w K mg base 3 "are_sales" ["thing"] (spT dR))(c4:Cal P w K mg base 5 "first_unheld" ["promises","sales"] uY) :
  FnOk P w K mg base CX0 6 f fd ["thing"] (spT gZ):=by
 refine F.ok sc27s (fun vs H Q E h=>?_) (fun av A outer s H vs Q E hr h=>?_)
 ·obtain ⟨S,v,d,rfl,_⟩:=h;rfl
 ·obtain ⟨S,v,d,rfl,th,hz,q⟩:=h
  refine ⟨_,aB (bW (cH (dq (aD c0 hr (aq (pv 0) (aq az (aq az aa)))))) (aG (aR iB)) bf)
   (aB (cj (pv 0) (bU rfl (au (pgn 1 sc27s.nd) (au (pgn 2 sc27s.nd) (au (pgn 3 sc27s.nd) aY)))))
   (aG (aR (cg (aD c1 hr (aq (pv 1) aa)) (cg (aD c2 hr (aq (pv 2) aa)) (cg (aD c3 hr (aq (pv 3) aa)) (dB (jR xQ (aD c4 hr (aq (pv 2) (aq (pv 3) aa))) pJ (bF _))))))))),?_⟩
  have fin:=q;unfold gZ at fin;refine aF ?_;refine ⟨_,rfl,S,v,d,3,3,rfl,th,hz,fun H1 s1=>⟨_,rfl,?_⟩⟩
  cases e:bB d 3 3 with
  | false =>
   rw [e] at fin;exact bV (fin _ s1)
  | true =>
   rw [e] at fin;refine bI (dw ?_);dsimp only;obtain ⟨ds,rfl,l1,l2⟩:=jr e;have bX:=th.same s1
   cases bX with
   | @tup a xs _ ea r =>
    obtain ⟨v0,v1,v2,d0,d1,d2,rfl,rfl,h0,h1,h2⟩:=wQ r (show ds.length=3 by lia);have z0:=j8 (d:=d0) (by simp) hz;have z1:=j8 (d:=d1) (by simp) hz;have z2:=j8 (d:=d2) (by simp) hz;refine aF ?_;refine ⟨_,rfl,a,_,rfl,SqT.of ea,rfl,_,_,rfl,_,_,rfl,_,_,rfl,rfl,?_⟩;dsimp only;have fin:∀ H',Same H H'->Q (.bl (true && (eQ d0 && (dO d1 && (dR d2 && (un (rowsOf d1) (rowsOf d2)).isNone))))) H':=fin;refine ⟨_,rfl,S,_,d0,rfl,h0,z0,fun H2 s2=>⟨_,rfl,?_⟩⟩
    cases e0:eQ d0 with
    | false =>
     rw [e0] at fin;exact bI (fin _ (s1.trans s2))
    | true =>
     rw [e0] at fin;refine bV ?_;refine ⟨_,rfl,S,_,d1,rfl,h1.same s2,z1,fun H3 s3=>⟨_,rfl,?_⟩⟩
     cases e1:dO d1 with
     | false =>
      rw [e1] at fin;exact bI (fin _ ((s1.trans s2).trans s3))
     | true =>
      rw [e1] at fin;refine bV ?_;refine ⟨_,rfl,S,_,d2,rfl,h2.same (s2.trans s3),z2,fun H4 s4=>⟨_,rfl,?_⟩⟩
      cases e2:dR d2 with
      | false =>
       rw [e2] at fin;exact bI (fin _ (((s1.trans s2).trans s3).trans s4))
      | true =>
       rw [e2] at fin;refine bV ?_;have DU:=(s2.trans s3).trans s4;refine ⟨_,rfl,_,rfl,S,_,d1,S,_,d2,rfl,h1.same DU,h2.same DU,e1,e2,z1,z2,fun H5 s5=>⟨rfl,?_⟩⟩;have:=fin H5 (s1.trans (DU.trans s5))
       cases eu:un (rowsOf d1) (rowsOf d2) with
       | none =>
        rw [eu] at this;exact this
       | some i =>
        rw [eu] at this;exact this
def Els (H:Hp)(xs:List V)(rs:List (List Int)):Prop:=xs.length=rs.length/\∀ (i:Nat) (r:List Int),rs[i]?=some r->∃ t,xs[i]?=some (V.ref t)/\H t=some (.tup (r.map V.int))
theorem Els.keep {H H':Hp}{xs:List V}{rs:List (List Int)}(h:Els H xs rs)(k:∀ b l,H b=some (.tup l)->H' b=some (.tup l)):Els H' xs rs :=
 ⟨h.1,fun i r e=>by
  obtain ⟨t,e1,e2⟩:=h.2 i r e
  exact ⟨t,e1,k _ _ e2⟩⟩
theorem Els.same {H H':Hp}{xs:List V}{rs:List (List Int)}(h:Els H xs rs)(s:Same H H'):Els H' xs rs:=h.keep fun _ _ e=>s _ _ e
theorem Els.nil {H:Hp}:Els H [] []:=⟨rfl,fun i r e=>by simp at e⟩
theorem Els.app {H:Hp}{xs ys:List V}{rs qs:List (List Int)}(h:Els H xs rs)(g:Els H ys qs):Els H (xs++ys) (rs++qs):=by
 refine ⟨by rw [zA2,zA2,h.1,g.1],fun i r e=>?_⟩;by_cases hi:i < rs.length
 ·rw [zB5 hi] at e;obtain ⟨t,e1,e2⟩:=h.2 i r e;exact ⟨t,by rw [zB5 (by rw [h.1];exact hi)];exact e1,e2⟩
 ·rw [zB7 (by lia)] at e;obtain ⟨t,e1,e2⟩:=g.2 _ r e;exact ⟨t,by rw [zB7 (by rw [h.1];lia),h.1];exact e1,e2⟩
theorem Els.one {H:Hp}{t:Addr}{r:List Int}(e:H t=some (.tup (r.map V.int))):Els H [.ref t] [r]:=⟨rfl,fun i q e'=>by
 cases i with
 | zero =>
  rw [List.getElem?_cons_zero] at e';cases e';exact ⟨t,rfl,e⟩
 | succ i=>simp at e'⟩
theorem fM {r:List Int}(h:r.length=4):r=[fl r 0,fl r 1,fl r 2,fl r 3]:=by
 match r,h with
 | [a,b,c,d],_=>rfl
theorem wY {t:TS}{D:Ends}{N:L2.St->Hp->Prop}{σ:L2.St}{H:Hp}(h:∀ D':Ends,(∀ σ H,N σ H->D'.nx σ H)->t D' σ H):t { D with nx:=N,ct:=N,bk:=D.nx } σ H:=h _ fun _ _ z=>z
theorem bu {J:It}{g:TG}{te:TE}{fh:St}{H0:Hp}{Fin:List V->Hp->Prop}(n:Nat)(Pv:Nat->List V->St->Hp->Prop)(h0:Pv 0 [] fh H0)(hz:n < sizeLine)
  (step:∀ i ys σ H,i < n->ys.length=i->Pv i ys σ H->J.go i H/\∀ x H',J.yld i H x H'->∀ R:V->St->Hp->Prop,(∀ y ba H4,Pv (i+1) (ys++[y]) ba H4->R y ba H4)->g x σ H' fun ba H2=>te ba H2 fun y H4=>R y ba H4)
  (fin:∀ ys σ H,ys.length=n->Pv n ys σ H->J.stop n H/\Fin ys H):jC J g w5 te Fin fh H0:=by
 refine ⟨fun i m ys σ H=>m=n - i/\i<=n/\ys.length=i/\Pv i ys σ H,⟨_,rfl,zAp _,rfl,h0⟩,?_⟩;rintro i m ys σ H ⟨rfl,hi,hy,p⟩;refine ⟨by lia,?_⟩;by_cases aT:i < n
 ·obtain ⟨go,st⟩:=step i ys σ H aT hy p;exact .inr ⟨go,fun x H' y=>st x H' y _ fun y ba H4 p2=>⟨n - (i+1),by lia,rfl,aT,by rw [zA2,hy];rfl,p2⟩⟩
 ·have e:i=n:=by lia
  subst e;exact .inl (fin ys σ H hy p)
def wts (rs:List (List Int)):List Int:=rs.map fun r=>fl r 3
def aN (rs:List (List Int)):Int:=(wts rs).sum
inductive SpSacksI (vs:List V)(H:Hp)(Q:VK):Prop
 | mk:∀ l xs rs,(vs=[.ref l])->(H l=some (.lst xs))->(Els H xs rs)->((∀ r∈rs,r.length=4))->(rs.length<=100000)->(∀ H',Same H H'->Q (.int (aN rs)) H')->SpSacksI  vs H Q
def jW:Sp:=fun vs H Q _=>SpSacksI  vs H Q
theorem boot_sum:bootBuiltins "sum" = some (.builtin "sum"):=by decide +kernel
theorem nd4:(["due","number","holder","sacks"]:List Str).Nodup:=by decide +kernel
theorem Hy:FnScope ["rows"] ["rows"] (aK (top 47)):=fS
theorem yG (F:Fun K "sacks_of" "sacks_of" (top 47) f fd)(Ts:mg "sum" = none):FnOk P w K mg base CX0 1 f fd ["rows"] jW:=by
 refine F.ok Hy (fun vs H Q E h=>?_) (fun av A outer s H vs Q E hr h=>?_)
 ·obtain ⟨l,xs,rs,rfl,_⟩:=h;rfl
 ·obtain ⟨l,xs,rs,rfl,el,els,h4,hz,q⟩:=h
  refine ⟨_,aG (aR (aQ (cZ rfl) rfl Ts boot_sum (aq (bA (g:=iC K 4 (bR (bG 0) (bR (bG 1) (bR (bG 2) (bR (bG 3) jh))))) ["due","number","holder","sacks"] [none,none,none,none] rfl (dG (pv 0))
   (fun C fp pins s₂ H₂=>⟨cU rfl rfl (au (pgn 0 nd4) (au (pgn 1 nd4) (au (pgn 2 nd4) (au (pgn 3 nd4) aY)))),bh,pv 3⟩) (fun C=>trivial) ⟨rfl,rfl,rfl,rfl⟩) aa))),?_⟩
  refine ⟨_,rfl,l,rfl,⟨_,SqL.of el⟩,bu rs.length (fun i ys σ Hc=>Same H Hc/\(∃ o1 o2 o3 o4,σ=[o1,o2,o3,o4])/\ys=(wts (rs.take i)).map V.int) ⟨Same.refl H,⟨_,_,_,_,rfl⟩,rfl⟩ (by rw [sizeLine_eq];lia) ?_ ?_⟩
  ·rintro i ys σ Hc hi hy ⟨s1,⟨o1,o2,o3,o4,rfl⟩,rfl⟩;obtain ⟨t,ex,et⟩:=els.2 i rs[i] (zA0 hi);rw [fM (h4 _ (zAh hi))] at et;refine ⟨⟨_,_,SqL.of (s1 _ _ el),ex⟩,fun v H' y R hR=>?_⟩;obtain ⟨rfl,y⟩:=y;have hv:=y _ (SqL.of (s1 _ _ el));rw [ex] at hv;cases hv;refine ⟨t,_,rfl,SqT.of (s1 _ _ et),rfl,_,_,rfl,_,_,rfl,_,_,rfl,_,_,rfl,rfl,_,rfl,hR _ _ _ ⟨s1,⟨_,_,_,_,rfl⟩,?_⟩⟩;unfold wts;rw [zAj,zA0 hi,zA4,zA4];rfl
  ·rintro ys σ Hc hy ⟨s1,_,rfl⟩;refine ⟨⟨_,SqL.of (s1 _ _ el),by rw [els.1];exact zA3 _⟩,fun D hD=>?_⟩;rw [zAm];exact ⟨D,wts rs,rfl,.inl (SqL.of aj),q _ (s1.updR hD)⟩
end K92
open K92 (top cR items intOf bB nd1 yu qx qy j8 eU spT jn Mg boot_tuple boot_all cX Cal aD jN boot_sum bu sc1 gP jc)
namespace K92P
open PySem L2
structure Nums (mg:Str->Option Value):Prop where
 many:∃ t,mg "MOST_WEIGHTS" = some (.int 80 t)
 most:∃ t,mg "MOST_WEIGHT" = some (.int 99 t)
def gB (d:PyData):Bool:=bB d 1 80 && (items d).all fun x=>jN x 1 99
theorem boot_sorted:bootBuiltins "sorted" = some (.builtin "sorted"):=by decide +kernel
theorem nd2 (x y:Str)(h:x≠y):([x,y]:List Str).Nodup:=by simp [h]
section
variable {P:Program}{w:World}{K:PySem.W.Frag}{mg:Str->Option Value}{base:Heap}{f:Addr}{fd:FuncData}
theorem HB:FnScope ["thing"] ["thing"] (aK (top 41)):=fS
theorem ok_are_weights (F:Fun K "are_weights" "are_weights" (top 41) f fd)(T:Mg mg)(N:Nums mg)(c1:Cal P w K mg base 2 "is_whole_from" ["thing","least","most"] (jn jN))(c2:Cal P w K mg base 1 "is_tuple_of" ["thing","fewest","most"] (jn bB)) :
  FnOk P w K mg base CX0 4 f fd ["thing"] (spT gB):=by
 refine F.ok HB (fun vs H Q E h=>?_) (fun av A outer s H vs Q E hr h=>?_)
 ·obtain ⟨S,v,d,rfl,_⟩:=h;rfl
 ·obtain ⟨S,v,d,rfl,th,hz,q⟩:=h;obtain ⟨t3,e3⟩:=N.many;obtain ⟨t4,e4⟩:=N.most
  refine ⟨_,aG (aR (cg (aD c2 hr (aU (pv 0) (aU az (aU (bK (v:=.int 80) rfl e3 ⟨_,rfl⟩) aa))))
   (dB (aQ (dI rfl) rfl T.all boot_all (aU (bA ["part"] [none] rfl (dM (pv 0))
    (fun C fp pins s₂ H₂=>⟨aZ (i:=0) (nd1 _) rfl (Or.inl rfl),bh,aD c1 hr (aU (pv 0) (aU az (aU (bK (v:=.int 99) rfl e4 ⟨_,rfl⟩) aa)))⟩) (fun C=>trivial) ⟨rfl,rfl,rfl,rfl⟩) aa))))),?_⟩
  refine ⟨_,rfl,S,v,d,1,80,rfl,th,hz,fun H1 s1=>⟨_,rfl,?_⟩⟩;have bX:=th.same s1;have fin:=fun H' (s:Same H H')=>q H' s;unfold gB at fin
  cases e:bB d 1 80 with
  | false =>
   rw [e] at fin;exact bI (fin _ s1)
  | true =>
   rw [e] at fin;refine bV ?_
   cases bX with
   | @tup a xs ds ea r=>exact cX (fun x=>jN x 1 99) rfl ea r (eU r hz) (fun v d H2 Q2 hm s2 t2 q2=>⟨_,rfl,S,v,d,1,99,rfl,t2,j8 hm hz,q2⟩) fun H2 s2=>fin _ (s1.trans s2)
   | _=>cases e
end
section
variable {X:Cx}{K:PySem.W.Frag}{tg l:Expr}{tl:TE}
theorem yH (hK:X.K=K)(hl:PE X l tl):PI X tg l (Cp K tl):=by
 subst hK;exact dG hl
theorem ix_tupK (hK:X.K=K):IxR X (Fw K):=by
 subst hK;exact cM
theorem call_tuple_ofK (hK:X.K=K):du X (.type "tuple") (fun xs H Q=>∃ p ys,xs=[.ref p]/\((SqL K H p ys/\∀ l,H l=none->Q (.ref l) (upd H l (.tup ys)))\/(SqT K H p ys/\Q (.ref p) H))):=by
 subst hK;exact bH
end
def StAt (H:Hp)(st:Addr):Prop:=∃ a b c:Int,H st=some (.lst [.int a,.int b,.int c])/\0<=a/\0<=b/\b < 4294967296
structure Dr (st:Addr)(H H':Hp):Prop where
 bt:∀ b o,H b=some o->b≠st->H' b=some o
 sa:StAt H' st
theorem Dr.same {st:Addr}{H H1 H2:Hp}(g:Dr st H H1)(s:Same H1 H2):Dr st H H2:=by
 obtain ⟨a,b,c,e,h⟩:=g.sa;exact ⟨fun b' o' e' ne=>s _ _ (g.bt b' o' e' ne),a,b,c,s _ _ e,h⟩
theorem Dr.trans {st:Addr}{H H1 H2:Hp}(g:Dr st H H1)(g':Dr st H1 H2):Dr st H H2:=⟨fun b' o' e' ne=>g'.bt _ _ (g.bt b' o' e' ne) ne,g'.sa⟩
theorem Dr.refl {st:Addr}{H:Hp}(h:StAt H st):Dr st H H:=⟨fun _ _ e _=>e,h⟩
theorem Dr.draw {st:Addr}{H H1:Hp}(g:Dr st H H1){a b c:Int}(h1:0<=a)(h2:0<=b)(h3:b < 4294967296):Dr st H (upd H1 st (.lst [.int a,.int b,.int c])) :=
 ⟨fun b' o' e' ne=>by rw [aA ne];exact g.bt _ _ e' ne,a,b,c,aj,h1,h2,h3⟩
theorem Dr.ne {st p:Addr}{H H1:Hp}(g:Dr st H H1)(hp:H1 p=none):p≠st:=fun z=>by
 obtain ⟨a,b,c,e,_⟩:=g.sa;rw [z,e] at hp;cases hp
theorem Dr.tups {st:Addr}{H H1:Hp}(g:Dr st H H1)(h0:StAt H st):∀ b xs,H b=some (.tup xs)->H1 b=some (.tup xs):=fun b xs e=>g.bt _ _ e fun z=>by
 obtain ⟨_,_,_,e',_⟩:=h0;rw [z,e'] at e;cases e
theorem Dr.ths {st:Addr}{H H1:Hp}{vs:List V}{ds:List PyData}(g:Dr st H H1)(h0:StAt H st)(t:IsThs (fun _=>False) H vs ds):IsThs (fun _=>False) H1 vs ds:=t.keep (g.tups h0) (fun _ _ z _=>z.elim) fun _ _ z _=>z.elim
inductive SpCellI (K:PySem.W.Frag)(vs:List V)(H:Hp)(Q:VK):Prop
 | mk:∀ (a:Addr) (ns:List Int) (k:Int),(vs=[.ref a,.int k])->(SqL K H a (ns.map V.int))->(0<=k)->(∀ i,Q (.int i) H)->SpCellI K vs H Q
def yI (K:PySem.W.Frag):Sp:=fun vs H Q _=>SpCellI K vs H Q
inductive SpStateI (K:PySem.W.Frag)(vs:List V)(H:Hp)(Q:VK):Prop
 | mk:∀ (a:Addr) (ns:List Int) (k:Int),(vs=[.ref a,.int k])->(SqL K H a (ns.map V.int))->(0<=k)->(∀ (p:Addr) (x y z:Int),H p=none->0<=x->0<=y->y < 4294967296->Q (.ref p) (upd H p (.lst [.int x,.int y,.int z])))->SpStateI K vs H Q
def spState (K:PySem.W.Frag):Sp:=fun vs H Q _=>SpStateI K vs H Q
inductive SpChoiceI (vs:List V)(H:Hp)(Q:VK):Prop
 | mk:∀ (st:Addr) (n:Int),(vs=[.ref st,.int n])->(StAt H st)->(1<=n)->(n < 1073741824)->(∀ r a b c:Int,0<=r->r < n->0<=a->0<=b->b < 4294967296->Q (.int r) (upd H st (.lst [.int a,.int b,.int c])))->SpChoiceI  vs H Q
def spChoice:Sp:=fun vs H Q _=>SpChoiceI  vs H Q
theorem oU:bootBuiltins "max" = some (.builtin "max"):=by decide +kernel
theorem oV:bootBuiltins "min" = some (.builtin "min"):=by decide +kernel
section
variable {P:Program}{w:World}{K:PySem.W.Frag}{mg:Str->Option Value}{base:Heap}{f:Addr}{fd:FuncData}
theorem HD:FnScope ["_law_script","_law_k"] ["_law_script","_law_k"] (aK (top 72)):=fS
theorem ok_cell (F:Fun K "_law_cell_at" "_law_cell_at" (top 72) f fd)(T:Mg mg):FnOk P w K mg base CX0 1 f fd ["_law_script","_law_k"] (yI K):=by
 refine F.ok HD (fun vs H Q E h=>?_) (fun av A outer s H vs Q E hr h=>?_)
 ·obtain ⟨a,ns,k,rfl,_⟩:=h;rfl
 ·obtain ⟨a,ns,k,rfl,hS,h0,q⟩:=h;refine ⟨_,aB (bW (bw gh (pv 1) (aQ bT rfl T.len PySem.boot_len (aU (pv 0) aa)) (bF _)) (aG (aR (pX bL (pv 0) (pv 1)))) bf) (aG (aR az)),?_⟩;refine ⟨_,rfl,_,rfl,a,_,rfl,.inl hS,_,_,rfl,rfl,_,rfl,?_⟩;refine vZ (fun c=>?_) (fun _=>q 0);have c:=zB6 c;rw [zA1] at c;have hk:k.toNat < ns.length:=by lia
  refine ⟨_,rfl,_,rfl,a,_,k,.int ns[k.toNat],rfl,rfl,hS,?_,q _⟩;have e:(ns.map V.int)[k.toNat]?=some (.int ns[k.toNat]):=by rw [zAb,zA0 hk];rfl
  have:=bQ e;rw [show ((k.toNat:Nat):Int)=k by lia] at this;exact this
theorem sc26:FnScope ["_law_script","_law_k","_law_cell"] ["_law_script","_law_k"] (aK (top 73)):=fS
theorem ok_state (F:Fun K "_law_state" "_law_state" (top 73) f fd)(Tm:mg "max" = none)(c1:Cal P w K mg base 1 "_law_cell_at" ["_law_script","_law_k"] (yI K)):FnOk P w K mg base CX0 2 f fd ["_law_script","_law_k"] (spState K):=by
 refine F.ok sc26 (fun vs H Q E h=>?_) (fun av A outer s H vs Q E hr h=>?_)
 ·obtain ⟨a,ns,k,rfl,_⟩:=h;rfl
 ·obtain ⟨a,ns,k,rfl,hS,h0,q⟩:=h
  refine ⟨_,aB (pss 2 sc26.nd (aD c1 hr (aU (pv 0) (aU (pv 1) aa))))
   (aG (aR (dN (aq (aQ (gJ rfl) rfl Tm oU (aq az (aq (aV cJ (pv 2) (aV Do az az)) aa))) (aq (aV bC (aV ig (pv 2) az) az) (aq az aa)))))),?_⟩
  refine ⟨_,rfl,_,rfl,a,ns,k,rfl,hS,h0,fun c=>?_⟩;refine ⟨_,rfl,_,_,rfl,rfl,⟨by decide,by decide,by decide⟩,_,_,rfl,rfl,_,_,rfl,_,rfl,_,_,rfl,rfl,(by show (0:Int) < 2147483629;decide),_,_,rfl,rfl,zL,fun p hp=>?_⟩;refine q p _ _ _ hp ?_ ?_ ?_
  ·split <;> lia
  ·show 0<=c % 2147483629+1;lia
  ·show c % 2147483629+1 < 4294967296;lia
theorem sc27:FnScope ["_law_state_here","_law_many","_law_found","_law_mixed"] ["_law_state_here","_law_many"] (aK (top 74)):=fS
theorem ok_choice (F:Fun K "_law_choice" "_law_choice" (top 74) f fd):FnOk P w K mg base CX0 1 f fd ["_law_state_here","_law_many"] spChoice:=by
 refine F.ok sc27 (fun vs H Q E h=>?_) (fun av A outer s H vs Q E hr h=>?_)
 ·obtain ⟨st,n,rfl,_⟩:=h;rfl
 ·obtain ⟨st,n,rfl,⟨a,b,c,es,ha,hb,qr⟩,h1,h2,q⟩:=h
  refine ⟨_,aB (bW (bw gW (pX bL (pv 0) az) az (bF _))
    (aB (pss 2 sc27.nd (aV ig (pX bL (pv 0) az) (pv 1)))
     (aB (cj (aV jQ (pX bL (pv 0) az) (pv 1)) (ie (pv 0) az set_list)) (aG (aR (pv 2))))) bf)
   (aB (cj (aV bC (pX bL (pv 0) az) az) (ie (pv 0) az set_list))
   (aB (cj (aV ig (aV bC (aV bC (aV fQ (pX bL (pv 0) az) az) az) (pX bL (pv 0) az)) az) (ie (pv 0) az set_list))
   (aB (pss 3 sc27.nd (aV ig (aV bC (aV bC (aV fQ (pX bL (pv 0) az) (pX bL (pv 0) az)) (aV fQ az (pX bL (pv 0) az))) az) az))
   (aB (pss 3 sc27.nd (aV ig (aV bC (aV fQ (pv 3) (pv 3)) (aV fQ az (pv 3))) az))
   (aG (aR (aV ig (aV jQ (pv 3) az) (pv 1)))))))),?_⟩
  refine ⟨_,rfl,st,_,0,.int a,rfl,rfl,SqL.of es,rfl,_,_,rfl,rfl,_,rfl,?_⟩;refine vZ (fun hc=>?_) (fun _=>?_)
  ·refine ⟨_,rfl,st,_,0,.int a,rfl,rfl,SqL.of es,rfl,_,rfl,_,_,rfl,rfl,(by show 0 < n;lia),?_⟩;refine ⟨_,rfl,st,_,0,.int a,rfl,rfl,SqL.of es,rfl,_,rfl,_,_,rfl,rfl,⟨by lia,h2⟩,_,rfl,st,_,0,0,rfl,rfl,es,rfl,_,rfl,?_⟩;exact q (a % n) (a / n) b c (Int.emod_nonneg a (by lia)) (Int.emod_lt_of_pos a (by lia)) (Int.ediv_nonneg ha (by lia)) hb qr
  ·refine ⟨_,rfl,st,_,2,.int c,rfl,rfl,SqL.of es,rfl,_,_,rfl,rfl,_,rfl,st,_,2,2,rfl,rfl,es,rfl,?_⟩;have eL:([V.int a,V.int b,V.int c].set 2 ((fun i j:Int=>V.int (i+j)) c 1))=[V.int a,V.int b,V.int (c+1)]:=rfl;rw [eL];have kg:upd H st (.lst [.int a,.int b,.int (c+1)]) st=some (.lst [.int a,.int b,.int (c+1)]):=aj;refine ⟨_,rfl,st,_,1,.int b,rfl,rfl,SqL.of kg,rfl,_,_,rfl,rfl,.inl ⟨by lia,by lia⟩,_,_,rfl,rfl,_,rfl,st,_,2,.int (c+1),rfl,rfl,SqL.of kg,rfl,_,_,rfl,rfl,_,_,rfl,rfl,(by show (0:Int) < 2147483647;decide),_,rfl,st,_,1,1,rfl,rfl,kg,rfl,?_⟩;have yi:0<=(b * 48271+29+(c+1)) % 2147483647:=Int.emod_nonneg _ (by decide);have Ls:(b * 48271+29+(c+1)) % 2147483647 < 2147483647:=Int.emod_lt_of_pos _ (by decide)
   obtain ⟨m,hm⟩:∃ m,m=(b * 48271+29+(c+1)) % 2147483647:=⟨_,rfl⟩
   rw [<- hm] at yi Ls;have eL:([V.int a,V.int b,V.int (c+1)].set 1 ((fun i j:Int=>V.int (i % j)) (b * 48271+29+(c+1)) 2147483647))=[V.int a,V.int m,V.int (c+1)]:=by rw [hm];rfl
   rw [eL]
   have eu:upd (upd H st (.lst [.int a,.int b,.int (c+1)])) st (.lst [.int a,.int m,.int (c+1)])=upd H st (.lst [.int a,.int m,.int (c+1)]):=by
    funext z;by_cases hz:z=st
    ·rw [hz,aj,aj]
    ·rw [aA hz,aA hz,aA hz]
   rw [eu];have fv:upd H st (.lst [.int a,.int m,.int (c+1)]) st=some (.lst [.int a,.int m,.int (c+1)]):=aj;refine ⟨_,rfl,st,_,1,.int m,rfl,rfl,SqL.of fv,rfl,_,rfl,st,_,1,.int m,rfl,rfl,SqL.of fv,rfl,_,_,rfl,rfl,.inl ⟨by lia,by lia⟩,_,rfl,st,_,1,.int m,rfl,rfl,SqL.of fv,rfl,_,_,rfl,rfl,.inl ⟨by decide,by decide⟩,_,_,rfl,rfl,_,_,rfl,rfl,_,_,rfl,rfl,(by show (0:Int) < 2147483629;decide),?_⟩;have DV:0<=(m * m+39373 * m+7) % 2147483629:=Int.emod_nonneg _ (by decide);have qv:(m * m+39373 * m+7) % 2147483629 < 2147483629:=Int.emod_lt_of_pos _ (by decide);refine ⟨_,rfl,_,rfl,_,_,rfl,rfl,.inl ⟨Int.lt_of_lt_of_le (by decide) DV,Int.lt_trans qv (by decide)⟩,_,rfl,_,_,rfl,rfl,.inl ⟨by decide,by decide⟩,_,_,rfl,rfl,_,_,rfl,rfl,(by show (0:Int) < 2147483587;decide),?_⟩;refine ⟨_,rfl,_,_,rfl,rfl,⟨by decide,by decide⟩,_,rfl,_,_,rfl,rfl,(by show 0 < n;lia),?_⟩;exact q _ a m (c+1) (Int.emod_nonneg _ (by lia)) (Int.emod_lt_of_pos _ (by lia)) ha yi (by lia)
end
theorem ok_b {X:Cx}{body:List Stmt}{t:TS}{R:TS->Prop}(h:BSs X body t)(q:R t):∃ t,PSs X body t/\R t:=⟨t,h.run,q⟩
def rr (rs:List Int)(i:Nat):Int:=rs.getD i 0
def bef (rs:List Int)(i j:Nat):Bool:=decide (rr rs j < rr rs i) || (decide (rr rs i=rr rs j) && decide (i<=j))
theorem jd {rs:List Int}{i j:Nat}:bef rs i j=true↔rr rs j < rr rs i\/(rr rs i=rr rs j/\i<=j):=by
 unfold bef;rw [Bool.or_eq_true,zAc,decide_eq_true_iff,decide_eq_true_iff,decide_eq_true_iff]
structure Ord (rs:List Int)(pl:List Nat):Prop where
 pm:pl.Perm (List.range rs.length)
 so:pl.Pairwise fun i j=>bef rs i j=true
theorem gC (rs:List Int):∃ pl,Ord rs pl:=by
 refine ⟨(List.range rs.length).mergeSort (bef rs),List.mergeSort_perm _ _,List.pairwise_mergeSort (fun a b c h1 h2=>?_) (fun a b=>?_) _⟩
 ·rw [jd] at h1 h2 ⊢;lia
 ·rw [Bool.or_eq_true,jd,jd];lia
theorem Ed {rs:List Int}{p q:List Nat}(h:Ord rs p)(h':Ord rs q):p=q:=by
 refine List.Perm.eq_of_pairwise (fun a b _ _ h1 h2=>?_) h.so h'.so (h.pm.trans h'.pm.symm);rw [jd] at h1 h2;lia
def di (fs:List Int)(pl:List Nat):List Int:=pl.foldl (fun l i=>l.set i (l.getD i 0+1)) fs
theorem u9 (fs:List Int)(pl:List Nat)(i:Nat):di fs (pl++[i])=(di fs pl).set i ((di fs pl).getD i 0+1):=by
 unfold di;rw [List.foldl_append];rfl
theorem jt:∀ (pl:List Nat) (fs:List Int),(di fs pl).length=fs.length
 | [],_=>rfl
 | i::pl,fs=>by
  show (di (fs.set i _) pl).length=_;rw [jt pl,List.length_set]
def fs (n:Int)(ws:List Int):List Int:=ws.map fun w=>n * w / ws.sum
def rs (n:Int)(ws:List Int):List Int:=ws.map fun w=>n * w % ws.sum
def lf (n:Int)(ws:List Int):Int:=n - (fs n ws).sum
def OkW (ws:List Int):Prop:=1<=ws.length/\ws.length<=80/\∀ w∈ws,1<=w/\w<=99
theorem qF {B:Int}:∀ {l:List Int},(∀ a∈l,a<=B)->l.sum<=B * l.length
 | [],_=>by simp
 | a::l,h=>by
  have h1:=qF (B:=B) (l:=l) fun b hb=>h b (.tail _ hb);have h2:=h a (.head _);rw [List.sum_cons,List.length_cons,show B * ((l.length+1:Nat):Int)=B * l.length+B by rw [Int.natCast_add,Int.mul_add];simp];lia
theorem fZ:∀ {l:List Int},(∀ a∈l,0<=a)->0<=l.sum
 | [],_=>by simp
 | a::l,h=>by
  have h1:=fZ (l:=l) fun b hb=>h b (.tail _ hb);have h2:=h a (.head _);rw [List.sum_cons];lia
theorem OkW.pos {ws:List Int}(h:OkW ws):1<=ws.sum:=by
 obtain ⟨h1,_,h3⟩:=h
 match ws,h1,h3 with
 | w::ws,_,h3 =>
  have:=fZ (l:=ws) fun a ha=>by have:=h3 a (.tail _ ha);lia
  have:=h3 w (.head _);rw [List.sum_cons];lia
theorem OkW.top {ws:List Int}(h:OkW ws):ws.sum<=7920:=by
 have h1:=qF (B:=99) fun a ha=>(h.2.2 a ha).2;have:=h.2.1;lia
theorem divs (n T:Int):∀ ws:List Int,T * (ws.map fun w=>n * w / T).sum+(ws.map fun w=>n * w % T).sum=n * ws.sum
 | []=>by simp
 | w::ws=>by
  have h1:=divs n T ws;have h2:=Int.mul_ediv_add_emod (n * w) T;simp only [List.map_cons,List.sum_cons,Int.mul_add];lia
theorem Ef (n:Int)(ws:List Int):ws.sum * lf n ws=(rs n ws).sum:=by
 have h:=divs n ws.sum ws;unfold lf fs rs;rw [Int.mul_sub,Int.mul_comm ws.sum n];lia
theorem Gi {n:Int}{ws:List Int}(h:OkW ws):∀ r∈rs n ws,0<=r:=fun r hr=>by
 obtain ⟨w,_,rfl⟩:=zA5.mp hr;have:=h.pos;exact Int.emod_nonneg _ (by lia)
theorem Gj {n:Int}{ws:List Int}(h:OkW ws):∀ r∈rs n ws,r<=ws.sum:=fun r hr=>by
 obtain ⟨w,_,rfl⟩:=zA5.mp hr;have:=h.pos;exact Int.le_of_lt (Int.emod_lt_of_pos _ (by lia))
theorem qG (n:Int)(ws:List Int):(fs n ws).length=ws.length:=zA1 _
theorem ju (n:Int)(ws:List Int):(rs n ws).length=ws.length:=zA1 _
theorem yJ {n:Int}{ws:List Int}(h:OkW ws):0<=lf n ws:=by
 have h1:=Ef n ws;have h2:=fZ (Gi (n:=n) h);have h3:=h.pos;refine Int.le_of_not_gt fun c=>?_;have:=Int.mul_le_mul_of_nonneg_left (c:=ws.sum) (show lf n ws<=-1 by lia) (by lia);lia
theorem CJ {n:Int}{ws:List Int}(h:OkW ws):lf n ws<=ws.length:=by
 have h1:=Ef n ws;have h2:=qF (Gj (n:=n) h);rw [ju] at h2;have h3:=h.pos;refine Int.le_of_not_gt fun c=>?_;have:=Int.mul_le_mul_of_nonneg_left (c:=ws.sum) (show (ws.length:Int)+1<=lf n ws by lia) (by lia);rw [Int.mul_add] at this;lia
theorem Eg {ws:List Int}(h:OkW ws):lf ws.sum ws=0:=by
 have h1:=Ef ws.sum ws
 have h2:(rs ws.sum ws).sum<=0:=by
  have:=qF (B:=0) (l:=rs ws.sum ws) fun r hr=>by
   obtain ⟨w,_,rfl⟩:=zA5.mp hr;rw [Int.mul_emod_right];exact Int.le_refl _
  lia
 have h3:=h.pos;have h4:=yJ (n:=ws.sum) h;refine Int.le_antisymm (Int.le_of_not_gt fun c=>?_) h4;have:=Int.mul_le_mul_of_nonneg_left (c:=ws.sum) (show 1<=lf ws.sum ws by lia) (by lia);lia
theorem oW:∀ (pl:List Nat) (l:List Int) (i:Nat),i < l.length->(di l pl).getD i 0=l.getD i 0+pl.count i
 | [],l,i,_=>by simp [di]
 | j::pl,l,i,h=>by
  show (di (l.set j (l.getD j 0+1)) pl).getD i 0=_;rw [oW pl _ i (by rw [List.length_set];exact h),List.count_cons];by_cases e:j=i
  ·subst e;rw [zA7,List.getElem?_set_self h,Option.getD_some,beq_self_eq_true,zAx rfl];lia
  ·rw [List.getD_eq_getElem?_getD,List.getElem?_set_ne e,<- List.getD_eq_getElem?_getD,if_neg (by simp [e])];lia
theorem Ord.nd {r:List Int}{pl:List Nat}(h:Ord r pl):pl.Nodup:=h.pm.nodup_iff.mpr List.nodup_range
theorem Ord.len {r:List Int}{pl:List Nat}(h:Ord r pl):pl.length=r.length:=by rw [h.pm.length_eq,List.length_range]
theorem Ord.lt {r:List Int}{pl:List Nat}(h:Ord r pl):∀ i∈pl,i < r.length:=fun i hi=>List.mem_range.mp (h.pm.mem_iff.mp hi)
def res (n:Int)(ws:List Int):List Int:=di (fs n ws) ((gC (rs n ws)).choose.take (lf n ws).toNat)
theorem Eh {n:Int}{ws:List Int}{pl:List Nat}(h:Ord (rs n ws) pl):di (fs n ws) (pl.take (lf n ws).toNat)=res n ws:=by
 unfold res;rw [Ed h (gC (rs n ws)).choose_spec]
theorem res_len (n:Int)(ws:List Int):(res n ws).length=ws.length:=by
 unfold res;rw [jt,qG]
theorem res_get {n:Int}{ws:List Int}(h:OkW ws)(n0:0<=n)(n1:n<=ws.sum){i:Nat}{r w:Int}(hr:(res n ws)[i]?=some r)(hw:ws[i]?=some w):0<=r/\r<=w:=by
 have hi:i < ws.length:=(zAa.mp hw).1;have hp:=h.pos;have ww:=h.2.2 w (zBa hw)
 have e:r=n * w / ws.sum+((gC (rs n ws)).choose.take (lf n ws).toNat).count i:=by
  have:=oW ((gC (rs n ws)).choose.take (lf n ws).toNat) (fs n ws) i (by rw [qG];exact hi)
  have e2:(fs n ws).getD i 0=n * w / ws.sum:=by
   unfold fs;rw [zA7,zAb,hw];rfl
  rw [e2] at this;rw [<- this,show di (fs n ws) _=res n ws from rfl,zA7,hr];rfl
 have c1:((gC (rs n ws)).choose.take (lf n ws).toNat).count i<=1:=List.nodup_iff_count.mp ((gC (rs n ws)).choose_spec.nd.sublist (List.take_sublist _ _)) i;have q0:0<=n * w / ws.sum:=Int.ediv_nonneg (Int.mul_nonneg n0 (by lia)) (by lia);refine ⟨by lia,?_⟩;by_cases en:n=ws.sum
 ·have:((gC (rs n ws)).choose.take (lf n ws).toNat)=[]:=by
   rw [en,Eg h];rfl
  rw [this] at e;rw [en,Int.mul_ediv_cancel_left _ (by lia)] at e;simp at e;lia
 ·have:n * w / ws.sum < w:=by
   refine Int.ediv_lt_of_lt_mul (by lia) ?_;rw [Int.mul_comm w];exact Int.mul_lt_mul_of_pos_right (by lia) (by lia)
  lia
theorem oX {K:PySem.W.Frag}{te:TE}{p:Addr}{ws:List Int}{fh:St}{H0:Hp}{Fin:List V->Hp->Prop}(f:Int->Int)(ep:H0 p=some (.tup (ws.map V.int)))(hl:ws.length < sizeLine)
  (wx:∀ (z:Int) (Q:VK),z∈ws->Q (.int (f z)) H0->te (fh.set 0 (some (.int z))) H0 Q) (fin:Fin ((ws.map f).map V.int) H0):jC (Itt K p) (bG 0) w5 te Fin fh H0:=by
 refine bu ws.length (fun i ys σ H=>H=H0/\(∀ o,σ.set 0 o=fh.set 0 o)/\ys=((ws.take i).map f).map V.int) ⟨rfl,fun _=>rfl,rfl⟩ hl ?_ ?_
 ·rintro i ys σ H hi hy ⟨rfl,nv,rfl⟩;have hz:(ws.map V.int)[i]?=some (.int ws[i]):=by rw [zAb,zA0 hi];rfl
  refine ⟨⟨_,_,SqT.of ep,hz⟩,fun v H' y' R hR=>?_⟩;obtain ⟨rfl,y'⟩:=y';have hv:=y' _ (SqT.of ep);rw [hz] at hv;cases hv;show te (σ.set 0 (some (.int ws[i]))) _ _;rw [nv];refine wx ws[i] _ (zAh hi) (hR _ _ _ ⟨rfl,fun o=>by rw [List.set_set],?_⟩);rw [zAj,zA0 hi,zA4,zA4];rfl
 ·rintro ys σ H hy ⟨rfl,nv,rfl⟩;refine ⟨⟨_,SqT.of ep,by rw [zA1];exact zA3 _⟩,?_⟩;rw [zAm];exact fin
def wD (ws:List Int):PyData:=.tuple (ws.map PyData.int)
theorem rQ:∀ (r:List Int),szs (r.map PyData.int)=r.length
 | []=>rfl
 | _::r=>by
  show 1+szs (r.map PyData.int)=r.length+1;rw [rQ r,Nat.add_comm]
theorem HF (ws:List Int):sz (wD ws)=1+ws.length:=by
 show 1+szs (ws.map PyData.int)=_;rw [rQ]
theorem HJ {ws:List Int}(h:OkW ws):gB (wD ws)=true:=by
 unfold gB;rw [zAc];refine ⟨?_,List.all_eq_true.mpr fun d hd=>?_⟩
 ·show (true && (decide (1<=((ws.map PyData.int).length:Int)) && decide (((ws.map PyData.int).length:Int)<=80)))=true;have h1:=h.1;have h2:=h.2.1;rw [zA1,zAt (by lia),zAt (by lia)];rfl
 ·obtain ⟨w,hw,rfl⟩:=zA5.mp hd;have:=h.2.2 w hw;show (true && (decide (1<=w) && decide (w<=99)))=true;rw [zAt this.1,zAt this.2];rfl
inductive SpRefuseI (vs:List V)(H:Hp)(Q:VK):Prop
 | mk:∀ n p ws,(vs=[.int n,.ref p])->(H p=some (.tup (ws.map V.int)))->(OkW ws)->(0<=n)->(n<=ws.sum)->(∀ H',Same H H'->Q .non H')->SpRefuseI  vs H Q
def rR:Sp:=fun vs H Q _=>SpRefuseI  vs H Q
inductive SpPlacesI (vs:List V)(H:Hp)(Q:VK):Prop
 | mk:∀ p rests,(vs=[.ref p])->(H p=some (.lst ((rests:List Int).map V.int)))->(rests.length < sizeLine)->(∀ H' q pl,Ord rests pl->Same H H'->H q=none->H' q=some (.lst (pl.map fun j:Nat=>V.int (j:Int)))->Q (.ref q) H')->SpPlacesI  vs H Q
def rT:Sp:=fun vs H Q _=>SpPlacesI  vs H Q
inductive SpPartsI (vs:List V)(H:Hp)(Q:VK):Prop
 | mk:∀ n p ws,(vs=[.int n,.ref p])->(H p=some (.tup (ws.map V.int)))->(OkW ws)->(0<=n)->(n<=ws.sum)->(∀ H' q,Same H H'->H' q=some (.tup ((res n ws).map V.int))->Q (.ref q) H')->SpPartsI  vs H Q
def spParts:Sp:=fun vs H Q _=>SpPartsI  vs H Q
def gb (H:Hp)(a:Addr):Nat:=match H a with
 | some (.tup [_,.int y])=>y.toNat
 | _=>0
def rowAt (H:Hp)(a:Addr):List Int:=match H a with
 | some (.tup [.int x,.int y])=>[x,y]
 | _=>[]
theorem Gk {rests:List Int}{i:Nat}{x:Int}(h:rests[i]?=some x):rr rests i=x:=by
 unfold rr;rw [zA7,h];rfl
theorem Br {rests:List Int}{i j:Nat}(h:HT.lexLt [-(rr rests j),(j:Int)] [-(rr rests i),(i:Int)]=false):bef rests i j=true:=by
 rw [jd];rw [HT.lexLt_cons] at h;by_cases e:-(rr rests j)=-(rr rests i)
 ·rw [zAx e,HT.lexLt_cons] at h;by_cases e2:(j:Int)=(i:Int)
  ·exact .inr ⟨by lia,by lia⟩
  ·rw [zAu e2] at h;have:=of_decide_eq_false h;exact .inr ⟨by lia,by lia⟩
 ·rw [zAu e] at h;have:=of_decide_eq_false h;exact .inl (by lia)
section
variable {P:Program}{w:World}{K:PySem.W.Frag}{mg:Str->Option Value}{base:Heap}{f:Addr}{fd:FuncData}
theorem HN:FnScope ["sacks","weights"] ["sacks","weights"] (aK (top 42)):=fS
theorem ok_refuse (F:Fun K "refuse_unpartable" "refuse_unpartable" (top 42) f fd)(Ts:mg "sum" = none)(c1:Cal P w K mg base 4 "are_weights" ["thing"] (spT gB))(c2:Cal P w K mg base 2 "is_whole_from" ["thing","least","most"] (jn jN)) :
  FnOk P w K mg base CX0 5 f fd ["sacks","weights"] rR:=by
 refine F.ok HN (fun vs H Q E h=>?_) (fun av A outer s H vs Q E hr h=>?_)
 ·obtain ⟨n,p,ws,rfl,_⟩:=h;rfl
 ·obtain ⟨n,p,ws,rfl,ep,ok,n0,n1,q⟩:=h
  refine ⟨_,aB (bW (cH (dq (aD c1 hr (aU (pv 1) aa)))) (aG dH) bf)
   (aG (bW (cH (dq (aD c2 hr (aU (pv 0) (aU az (aU (aQ (cZ rfl) rfl Ts boot_sum (aq (pv 1) aa)) aa)))))) (aG dH) bf)),?_⟩
  refine aF ?_;refine ⟨_,rfl,fun _=>False,_,wD ws,rfl,.tup ep (IsThs.ints ws),by rw [HF];have:=ok.2.1;lia,fun H1 s1=>⟨_,rfl,?_⟩⟩;rw [HJ ok];refine bI ?_;dsimp only;refine ⟨_,rfl,_,rfl,p,ws,rfl,.inr (SqT.of (s1 _ _ ep)),fun _=>False,_,.int n,0,_,rfl,.int n,(by show 1<=4000;decide),fun H2 s2=>⟨_,rfl,?_⟩⟩
  have e:jN (.int n) 0 ws.sum=true:=by
   show (true && (decide (0<=n) && decide (n<=ws.sum)))=true;rw [zAt n0,zAt n1];rfl
  rw [e];exact bI (q H2 (s1.trans s2))
theorem sc13:FnScope ["rests","ranked"] ["rests"] (aK (top 43)):=fS
theorem ok_places (F:Fun K "places_by_rest" "places_by_rest" (top 43) f fd)(Te:mg "enumerate" = none)(Ts:mg "sorted" = none):FnOk P w K mg base CX0 1 f fd ["rests"] rT:=by
 refine F.ok sc13 (fun vs H Q E h=>?_) (fun av A outer s H vs Q E hr h=>?_)
 ·obtain ⟨p,rests,rfl,_⟩:=h;rfl
 ·obtain ⟨p,rests,rfl,ep,hz,q⟩:=h
  refine ⟨_,aB (pss 1 sc13.nd (aQ qp rfl Ts boot_sorted (aq (bA (g:=iC K 2 (bR (bG 0) (bR (bG 1) jh))) ["at","rest"] [none,none] rfl (EL.pi_enum rfl Te (aq (pv 0) aa))
    (fun C fp pins s₂ H₂=>⟨cU rfl rfl (au (aZ (i:=0) (nd2 _ _ (by decide)) rfl (Or.inl rfl) (Or.inr rfl)) (au (aZ (i:=1) (nd2 _ _ (by decide)) rfl (Or.inl rfl) (Or.inr rfl)) aY)),bh,
     bJ (aq (xO tE (pv 1)) (aq (pv 0) aa))⟩) (fun C=>trivial) ⟨rfl,rfl,rfl,rfl⟩) aa)))
   (aG (aR (bA (g:=iC K 2 (bR (bG 0) (bR (bG 1) jh))) ["minus","at"] [none,none] rfl (dG (pv 1))
    (fun C fp pins s₂ H₂=>⟨cU rfl rfl (au (aZ (i:=0) (nd2 _ _ (by decide)) rfl (Or.inl rfl) (Or.inr rfl)) (au (aZ (i:=1) (nd2 _ _ (by decide)) rfl (Or.inl rfl) (Or.inr rfl)) aY)),bh,
     pv 1⟩) (fun C=>trivial) ⟨rfl,rfl,rfl,rfl⟩))),?_⟩
  refine aF ?_;refine ⟨_,rfl,p,_,rfl,SqL.of ep,bu rests.length (fun i ys σ Hc=>Same H Hc/\(∃ o1 o2,σ=[o1,o2])/\∃ ts:List Addr,ys=ts.map V.ref/\∀ j,j < i->∃ a,ts[j]?=some a/\Hc a=some (.tup [.int (-(rr rests j)),.int (j:Int)])) ⟨Same.refl H,⟨_,_,rfl⟩,[],rfl,fun j hj=>absurd hj (Nat.not_lt_zero _)⟩ hz ?_ ?_⟩
  ·rintro i ys σ Hc hi hy ⟨s1,⟨o1,o2,rfl⟩,ts,rfl,Bi⟩;rw [zA1] at hy;have hX:SqL K Hc p (rests.map V.int):=SqL.of (s1 _ _ ep)
   have hx:(rests.map V.int)[i]?=some (.int (rr rests i)):=by
    rw [zAb,zA0 hi,Gk (zA0 hi)];rfl
   refine ⟨⟨_,_,hX,hx⟩,fun v H' y R hR=>?_⟩;obtain ⟨T,nT,rfl,y⟩:=y;obtain ⟨x',fx,rfl⟩:=y _ hX;rw [hx] at fx;cases fx;have s2:=s1.updR (o:=.tup [.int (i:Int),.int (rr rests i)]) nT;refine ⟨T,_,rfl,SqT.of aj,rfl,_,_,rfl,_,_,rfl,rfl,_,rfl,rr rests i,rfl,_,rfl,zL,fun t ht=>?_⟩;refine hR _ _ _ ⟨s2.updR ht,⟨_,_,rfl⟩,ts++[t],by rw [zA4];rfl,fun j hj=>?_⟩;by_cases e:j < i
   ·obtain ⟨a,h1,h2⟩:=Bi j e;refine ⟨a,by rw [zB5 (by lia)];exact h1,?_⟩;exact Same.upd ht _ _ (Same.upd nT _ _ h2)
   ·have e:j=i:=by lia
    subst e;refine ⟨t,by rw [zB7 (by lia),hy,Nat.sub_self];rfl,aj⟩
  ·rintro ys σ Hc hy ⟨s1,_,ts,rfl,Bi⟩;rw [zA1] at hy;refine ⟨⟨_,SqL.of (s1 _ _ ep),by rw [zA1];exact zA3 _⟩,fun D hD=>?_⟩;have s2:=s1.updR (o:=.lst (ts.map V.ref)) hD
   have qA:∀ j,j < rests.length->∃ a,ts[j]?=some a/\upd Hc D (.lst (ts.map V.ref)) a=some (.tup [.int (-(rr rests j)),.int (j:Int)]):=fun j hj=>by
    obtain ⟨a,h1,h2⟩:=Bi j hj;exact ⟨a,h1,Same.upd hD _ _ h2⟩
   have eD:=aj (H:=Hc) (a:=D) (o:=.lst (ts.map V.ref));generalize upd Hc D (.lst (ts.map V.ref))=H2 at s2 qA eD ⊢;clear Bi hD s1
   have nN:∀ a∈ts,∃ j,j < rests.length/\H2 a=some (.tup [.int (-(rr rests j)),.int (j:Int)]):=fun a ha=>by
    obtain ⟨j,hj,e⟩:=List.getElem_of_mem ha;obtain ⟨b,h1,h2⟩:=qA j (by lia);rw [zA0 hj] at h1;injection h1 with h1;refine ⟨j,by lia,?_⟩;rw [<- e,h1];exact h2
   refine ⟨D,ts,rowAt H2,rfl,SqL.of eD,fun a ha=>?_,fun q' l' hq pm so=>?_⟩
   ·obtain ⟨j,hj,e⟩:=nN a ha;have er:rowAt H2 a=[-(rr rests j),(j:Int)]:=by unfold rowAt;rw [e]
    rw [er];exact ⟨SqT.of e,by simp⟩
   have tI:∀ a∈l',∃ j,j < rests.length/\H2 a=some (.tup [.int (-(rr rests j)),.int (j:Int)]):=fun a ha=>nN a (pm.mem_iff.mp ha)
   have sn:∀ a∈l',H2 a=some (.tup [.int (-(rr rests (gb H2 a))),.int (gb H2 a:Int)])/\rowAt H2 a=[-(rr rests (gb H2 a)),(gb H2 a:Int)]:=fun a ha=>by
    obtain ⟨j,hj,e⟩:=tI a ha;have er:rowAt H2 a=[-(rr rests j),(j:Int)]:=by unfold rowAt;rw [e]
    have es:gb H2 a=j:=by unfold gb;rw [e];exact zAi j
    rw [er,es];exact ⟨e,rfl⟩
   have ord:Ord rests (l'.map (gb H2)):=by
    refine ⟨?_,?_⟩
    ·refine (pm.map _).trans (List.Perm.of_eq (List.ext_getElem? fun j=>?_));by_cases hj:j < rests.length
     ·obtain ⟨a,h1,h2⟩:=qA j hj;rw [zAb,h1,List.getElem?_range hj];show some (gb H2 a)=some j;unfold gb;rw [h2];exact congrArg some (zAi j)
     ·rw [List.getElem?_eq_none (by rw [zA1];lia),List.getElem?_eq_none (by rw [List.length_range];lia)]
    ·refine List.pairwise_map.mpr (so.imp_of_mem fun {a b} ha hb h=>?_);rw [(sn a ha).2,(sn b hb).2] at h;exact Br h
   have s3:=s2.updR (o:=.lst (l'.map V.ref)) hq;have QO:l'.length=rests.length:=by rw [pm.length_eq,hy]
   have yn:=aj (H:=H2) (a:=q') (o:=.lst (l'.map V.ref));have DZ:∀ a∈l',upd H2 q' (.lst (l'.map V.ref)) a=some (.tup [.int (-(rr rests (gb H2 a))),.int (gb H2 a:Int)]):=fun a ha=>Same.upd hq _ _ (sn a ha).1;generalize gb H2=sd at ord DZ;generalize upd H2 q' (.lst (l'.map V.ref))=H3 at s3 yn DZ ⊢;dsimp only;refine fX ?_;refine ⟨_,rfl,q',rfl,⟨_,SqL.of yn⟩,bu rests.length (fun i ys σ Hc=>Same H3 Hc/\(∃ o1 o2,σ=[o1,o2])/\ys=((l'.take i).map sd).map fun j:Nat=>V.int (j:Int)) ⟨Same.refl H3,⟨_,_,rfl⟩,rfl⟩ hz ?_ ?_⟩
   ·rintro i ys σ Hc hi hy ⟨s4,⟨o1,o2,rfl⟩,rfl⟩;have hG:i < l'.length:=by lia
    have hu:(l'.map V.ref)[i]?=some (.ref l'[i]):=by rw [zAb,zA0 hG];rfl
    refine ⟨⟨_,_,SqL.of (s4 _ _ yn),hu⟩,fun v H' y R hR=>?_⟩;obtain ⟨rfl,y⟩:=y;have hv:=y _ (SqL.of (s4 _ _ yn));rw [hu] at hv;cases hv;refine ⟨l'[i],_,rfl,SqT.of (s4 _ _ (DZ _ (zAh hG))),rfl,_,_,rfl,_,_,rfl,rfl,_,rfl,hR _ _ _ ⟨s4,⟨_,_,rfl⟩,?_⟩⟩;rw [zAj,zA0 hG,zA4,zA4];rfl
   ·rintro ys σ Hc nS ⟨s4,_,rfl⟩;refine ⟨⟨_,SqL.of (s4 _ _ yn),by rw [zA1];lia⟩,fun D' IY=>?_⟩;have s5:=s3.trans s4;have hn:H D'=none:=s5.free IY;refine q _ D' _ ord (s5.updR IY) hn ?_;rw [aj,List.take_of_length_le (by lia)]
end
theorem Bs {n j:Nat}(h:j < n):ixN n (j:Int)=some j:=by
 unfold ixN;rw [zAx (by lia),zAx (by lia),zAi]
theorem Ei {ws:List Int}(ok:OkW ws):ws.length < sizeLine:=by
 have:=ok.2.1;rw [sizeLine_eq];lia
section
variable {P:Program}{w:World}{K:PySem.W.Frag}{mg:Str->Option Value}{base:Heap}{f:Addr}{fd:FuncData}
theorem Gm:(["weight","sacks","together"]:List Str).Nodup:=by decide +kernel
theorem sc14:FnScope ["sacks","weights","together","parts","rests","left","at"] ["sacks","weights"] (aK (top 44)):=fS
theorem ok_parts (F:Fun K "parts_of" "parts_of" (top 44) f fd)(T:Mg mg)(Ts:mg "sum" = none)(c1:Cal P w K mg base 1 "places_by_rest" ["rests"] rT):FnOk P w K mg base CX0 2 f fd ["sacks","weights"] spParts:=by
 refine F.ok sc14 (fun vs H Q E h=>?_) (fun av A outer s H vs Q E hr h=>?_)
 ·obtain ⟨n,p,ws,rfl,_⟩:=h;rfl
 ·obtain ⟨n,p,ws,rfl,ep,ok,n0,n1,q⟩:=h
  refine ⟨_,aB (pM (i:=2) sc14.nd rfl (Or.inr rfl) (aQ (cZ rfl) rfl Ts boot_sum (aq (pv 1) aa)))
   (aB (fU (i:=3) ["weight","sacks","together"] [none,some 0,some 2] rfl sc14.nd rfl (Or.inl rfl) (dM (pv 1))
    (fun C fp pins s₂ H₂=>⟨pgn 0 Gm,bh,aV jQ (aV fQ (pv 1) (pv 0)) (pv 2)⟩) (fun C=>cI (cI trivial)) ⟨rfl,rfl,rfl,rfl⟩)
   (aB (fU (i:=4) ["weight","sacks","together"] [none,some 0,some 2] rfl sc14.nd rfl (Or.inl rfl) (dM (pv 1))
    (fun C fp pins s₂ H₂=>⟨pgn 0 Gm,bh,aV ig (aV fQ (pv 1) (pv 0)) (pv 2)⟩) (fun C=>cI (cI trivial)) ⟨rfl,rfl,rfl,rfl⟩)
   (aB (pss 5 sc14.nd (aV cJ (pv 0) (aQ (cZ rfl) rfl Ts boot_sum (aq (pv 3) aa))))
   (aB (cV zB8 rfl (dG (gj Ao (aD c1 hr (aq (pv 4) aa)) iD (iG (pv 5)))) (pgn 6 sc14.nd)
    (aG (pN (pv 3) (pv 6) gP az xM set_list)))
   (aG (aR (bO bH rfl T.tuple boot_tuple (aq (pv 3) aa)))))))),?_⟩
  have hp:=ok.pos;have ht:=ok.top;have yy:=Ei ok;refine aF ?_;refine ⟨_,rfl,p,ws,rfl,.inr (SqT.of ep),?_⟩;dsimp only;refine aF ?_;refine ⟨_,rfl,p,rfl,⟨_,SqT.of ep⟩,oX (fun z=>n * z / ws.sum) ep yy (fun z Q hz h=>⟨_,rfl,_,rfl,_,_,rfl,rfl,.inl ⟨by lia,by lia⟩,_,rfl,_,_,rfl,rfl,⟨by lia,by lia⟩,h⟩) ?_⟩;rw [show ws.map (fun z=>n * z / ws.sum)=fs n ws from rfl];intro l1 gI;have s1:=Same.upd (o:=.lst ((fs n ws).map V.int)) gI;have el1:=aj (H:=H) (a:=l1) (o:=.lst ((fs n ws).map V.int));generalize upd H l1 _=H1 at s1 el1 ⊢;dsimp only;refine aF ?_;refine ⟨_,rfl,p,rfl,⟨_,SqT.of (s1 _ _ ep)⟩,oX (fun z=>n * z % ws.sum) (s1 _ _ ep) yy (fun z Q hz h=>⟨_,rfl,_,rfl,_,_,rfl,rfl,.inl ⟨by lia,by lia⟩,_,rfl,_,_,rfl,rfl,(by show 0 < ws.sum;lia),h⟩) ?_⟩;rw [show ws.map (fun z=>n * z % ws.sum)=rs n ws from rfl];intro l2 kP;have s2:=s1.updR (o:=.lst ((rs n ws).map V.int)) kP;have el2:=aj (H:=H1) (a:=l2) (o:=.lst ((rs n ws).map V.int));have kr:=Same.upd (o:=.lst ((rs n ws).map V.int)) kP _ _ el1;have A9:H l1=none:=gI;clear gI kP;generalize upd H1 l2 _=H2 at s2 el2 kr ⊢;clear el1 s1;dsimp only;refine aF ?_;refine ⟨_,rfl,_,rfl,l1,fs n ws,rfl,.inl (SqL.of kr),_,_,rfl,rfl,?_⟩;show _;dsimp only;rw [show n - (fs n ws).sum=lf n ws from rfl];refine aF ?_;refine ⟨_,rfl,l2,rs n ws,rfl,el2,by rw [ju];exact yy,fun H3 l3 pl ord s3 Lu el3=>⟨_,rfl,_,rfl,l3,_,rfl,SqL.of el3,fun l4 tJ=>⟨l4,rfl,⟨_,SqL.of aj⟩,?_⟩⟩⟩;have QP:=yJ (n:=n) ok;have QQ:=CJ (n:=n) ok;have Lv:=ord.len;rw [ju] at Lv
  have D0:iH (pl.map fun j:Nat=>V.int (j:Int)) none (some (lf n ws))=(pl.take (lf n ws).toNat).map fun j:Nat=>V.int (j:Int):=by
   rw [List.map_take,<- jc (i:=(lf n ws).toNat) (by rw [zA1];lia),show ((lf n ws).toNat:Int)=lf n ws by lia]
  rw [D0];have fin:=Eh ord
  have inr:∀ j∈pl.take (lf n ws).toNat,j < ws.length:=fun j hj=>by
   have:=ord.lt j (List.mem_of_mem_take hj);rw [ju] at this;exact this
  generalize pl.take (lf n ws).toNat=pk at fin inr tJ ⊢;have s4:=(s2.trans s3).updR (o:=.lst (pk.map fun j:Nat=>V.int (j:Int))) tJ;have el4:=aj (H:=H3) (a:=l4) (o:=.lst (pk.map fun j:Nat=>V.int (j:Int)));have yA:=Same.upd (o:=.lst (pk.map fun j:Nat=>V.int (j:Int))) tJ _ _ (s3 _ _ kr)
  have Lw:l4≠l1:=fun z=>by
   rw [z,s3 _ _ kr] at tJ;cases tJ
  generalize upd H3 l4 (.lst (pk.map fun j:Nat=>V.int (j:Int)))=H4 at s4 el4 yA ⊢;clear tJ el3 Lu s3 kr el2 s2;refine kW (xs:=pk.map fun j:Nat=>V.int (j:Int)) (fun i σ Hc=>∃ o6,σ=[some (.int n),some (.ref p),some (.int ws.sum),some (.ref l1),some (.ref l2),some (.int (lf n ws)),o6]/\Same H Hc/\Hc l4=some (.lst (pk.map fun j:Nat=>V.int (j:Int)))/\Hc l1=some (.lst ((di (fs n ws) (pk.take i)).map V.int))) ?_ ?_ ?_ ?_
  ·exact ⟨none,rfl,s4,el4,yA⟩
  ·rintro i σ Hc hi ⟨o6,rfl,s5,e4,e1⟩;exact SqL.of e4
  ·rintro i v σ Hc hv ⟨o6,rfl,s5,e4,e1⟩;rw [zAb] at hv
   cases hj:pk[i]? with
   | none=>rw [hj] at hv;cases hv
   | some j =>
    rw [hj] at hv;cases hv;refine aM ?_
    have kp:∀ o,Same H (upd Hc l1 o):=fun o b u e=>by
     rw [aA (aC e A9)];exact s5 _ _ e
    have aT:j < (di (fs n ws) (pk.take i)).length:=by
     rw [jt,qG];exact inr j (zBa hj)
    have hx:((di (fs n ws) (pk.take i)).map V.int)[((j:Nat):Int).toNat]?=some (.int ((di (fs n ws) (pk.take i)).getD j 0)):=by
     rw [zAi,zAb,zA0 aT,zA7,zA0 aT];rfl
    refine ⟨_,rfl,_,rfl,l1,_,(j:Int),_,rfl,rfl,SqL.of e1,by lia,hx,_,_,rfl,rfl,l1,_,(j:Int),j,rfl,rfl,e1,Bs (by rw [zA1];exact aT),?_⟩;refine ⟨_,rfl,kp _,by rw [aA Lw];exact e4,?_⟩;rw [aj,zAj,hj];show _=some (HO.lst ((di (fs n ws) (pk.take i++[j])).map V.int));rw [u9,List.map_set]
  ·rintro σ Hc ⟨o6,rfl,s5,e4,e1⟩;rw [zA1,zAm,fin] at e1;dsimp only;refine fX ?_;exact ⟨_,rfl,l1,_,rfl,.inl ⟨SqL.of e1,fun t ht=>q _ t (s5.updR ht) aj⟩⟩
theorem sc15:FnScope ["sacks","weights"] ["sacks","weights"] (aK (top 45)):=fS
theorem ok_parted (F:Fun K "parted" "parted" (top 45) f fd)(c1:Cal P w K mg base 5 "refuse_unpartable" ["sacks","weights"] rR)(c2:Cal P w K mg base 2 "parts_of" ["sacks","weights"] spParts):FnOk P w K mg base CX0 6 f fd ["sacks","weights"] spParts:=by
 refine F.ok sc15 (fun vs H Q E h=>?_) (fun av A outer s H vs Q E hr h=>?_)
 ·obtain ⟨n,p,ws,rfl,_⟩:=h;rfl
 ·obtain ⟨n,p,ws,rfl,ep,ok,n0,n1,q⟩:=h;refine ⟨_,aB (cT (aD c1 hr (aq (pv 0) (aq (pv 1) aa)))) (aG (aR (aD c2 hr (aq (pv 0) (aq (pv 1) aa))))),?_⟩;refine aF ?_;refine ⟨_,rfl,_,rfl,n,p,ws,rfl,ep,ok,n0,n1,fun H1 s1=>?_⟩;dsimp only;refine fX ?_;exact ⟨_,rfl,_,rfl,n,p,ws,rfl,s1 _ _ ep,ok,n0,n1,fun H2 t s2 et=>q H2 t (s1.trans s2) et⟩
end
end K92P
namespace K92
open PySem L2
def cD:Int->List (List Int)->List Int
 | _,[]=>[]
 | w,r::rs=>(if w < fl r 3 then w else fl r 3)::cD (w - (if w < fl r 3 then w else fl r 3)) rs
theorem iz:∀ (w:Int) (rs:List (List Int)) (r:List Int),cD w (rs++[r])=cD w rs++[if w - (cD w rs).sum < fl r 3 then w - (cD w rs).sum else fl r 3]
 | w,[],r=>by
  show [_]=[_];rw [show (cD w []).sum=0 from rfl,Int.sub_zero]
 | w,q::rs,r=>by
  rw [List.cons_append];unfold cD;rw [iz _ rs r,List.cons_append,List.sum_cons,show ∀ a b c:Int,a - b - c=a - (b+c) from fun a b c=>by lia]
theorem dZ:∀ (w:Int) (rs:List (List Int)),(cD w rs).length=rs.length
 | _,[]=>rfl
 | w,r::rs=>by
  unfold cD;rw [zAe,zAe,dZ]
inductive SpMadeI (vs:List V)(H:Hp)(Q:VK):Prop
 | mk:∀ w l xs rs,(vs=[.int w,.ref l])->(H l=some (.lst xs))->(Els H xs rs)->((∀ r∈rs,r.length=4))->(rs.length<=100000)->(∀ m H',Same H H'->H m=none->H' m=some (.lst ((cD w rs).map V.int))->Q (.ref m) H')->SpMadeI  vs H Q
def yK:Sp:=fun vs H Q _=>SpMadeI  vs H Q
def bz (w:Int)(rs:List (List Int)):List Int:=if (wts rs).sum<=w then wts rs else K92P.res w (wts rs)
inductive SpSharesI (vs:List V)(H:Hp)(Q:VK):Prop
 | mk:∀ w l xs rs,(vs=[.int w,.ref l])->(H l=some (.lst xs))->(Els H xs rs)->((∀ r∈rs,r.length=4/\1<=fl r 3/\fl r 3<=99))->(rs.length<=80)->(0<=w)->(∀ t H',Same H H'->H' t=some (.tup ((bz w rs).map V.int))->Q (.ref t) H')->SpSharesI  vs H Q
def rY:Sp:=fun vs H Q _=>SpSharesI  vs H Q
variable {P:Program}{w:World}{K:PySem.W.Frag}{mg:Str->Option Value}{base:Heap}{f:Addr}{fd:FuncData}
theorem scT1:FnScope ["wool","owed","shares","left","due","number","holder","sacks","share"] ["wool","owed"] (aK (top 50)):=fS
theorem Bt (F:Fun K "made_good" "made_good" (top 50) f fd)(Tn:mg "min" = none):FnOk P w K mg base CX0 1 f fd ["wool","owed"] yK:=by
 refine F.ok scT1 (fun vs H Q E h=>?_) (fun av A outer s H vs Q E hr h=>?_)
 ·obtain ⟨w0,l,xs,rs,rfl,_⟩:=h;rfl
 ·obtain ⟨w0,l,xs,rs,rfl,el,els,h4,hz,q⟩:=h
  refine ⟨_,aB (pss 2 scT1.nd (dN aa))
   (aB (pss 3 scT1.nd (pv 0))
   (aB (cV zB8 rfl (dG (pv 1)) (bU rfl (au (pgn 4 scT1.nd) (au (pgn 5 scT1.nd) (au (pgn 6 scT1.nd) (au (pgn 7 scT1.nd) aY)))))
    (aB (pss 8 scT1.nd (aQ (dX rfl) rfl Tn boot_min (aq (pv 7) (aq (pv 3) aa))))
    (aB (cT (uB zBg zBf zBe gK (pv 2) (aq (pv 8) aa)))
    (aG (kJ (i:=3) scT1.nd rfl (Or.inl rfl) (pv 8) xN)))))
   (aG (aR (pv 2))))),?_⟩
  refine aF (aX ?_);refine ⟨zL,fun m hm=>?_⟩;refine aM ?_;dsimp only;refine aF (aX ?_);refine ⟨_,rfl,?_⟩;refine aM ?_;dsimp only;refine aF ?_;have s1:=Same.upd (o:=.lst []) hm;have nl:l≠m:=aC el hm;refine ⟨_,rfl,l,rfl,⟨_,SqL.of (s1 _ _ el)⟩,?_⟩;refine kW (xs:=xs) (fun i σ Hc=>∃ x4 x5 x6 x7 x8,σ=[some (.int w0),some (.ref l),some (.ref m),some (.int (w0 - (cD w0 (rs.take i)).sum)),x4,x5,x6,x7,x8]/\(∀ b o,H b=some o->Hc b=some o)/\Hc m=some (.lst ((cD w0 (rs.take i)).map V.int))) ?_ ?_ ?_ ?_
  ·refine ⟨none,none,none,none,none,?_,fun b o e=>s1 _ _ e,aj⟩;rw [List.take_zero,show (cD w0 []).sum=0 from rfl,Int.sub_zero];rfl
  ·rintro i σ Hc hi ⟨x4,x5,x6,x7,x8,rfl,k,em⟩;exact SqL.of (k _ _ el)
  ·rintro i x σ Hc hx ⟨x4,x5,x6,x7,x8,rfl,k,em⟩
   have hi:i < rs.length:=by
    have:=(zAa.mp hx).1;rw [els.1] at this;exact this
   obtain ⟨t,ex,et⟩:=els.2 i rs[i] (zA0 hi);rw [ex] at hx;cases hx;rw [fM (h4 _ (zAh hi))] at et;refine ⟨t,_,rfl,SqT.of (k _ _ et),rfl,_,_,rfl,_,_,rfl,_,_,rfl,_,_,rfl,rfl,?_⟩;refine aF (aX ?_);refine ⟨_,rfl,_,rfl,_,_,rfl,?_⟩;refine aM ?_;dsimp only;refine aF ?_;refine ⟨_,rfl,.inl ⟨rfl,_,SqL.of em⟩,_,rfl,m,_,_,rfl,rfl,em,?_,?_⟩
   ·rw [zA1,dZ,zAd,sizeLine_eq];lia
   have dA:rs.take (i+1)=rs.take i++[rs[i]]:=by rw [zAj,zA0 hi];rfl
   dsimp only;refine ⟨_,rfl,_,rfl,_,_,rfl,rfl,some (.int (fl rs[i] 0)),some (.int (fl rs[i] 1)),some (.int (fl rs[i] 2)),some (.int (fl rs[i] 3)),some (.int (if w0 - (cD w0 (rs.take i)).sum < fl rs[i] 3 then w0 - (cD w0 (rs.take i)).sum else fl rs[i] 3)),?_,fun b o e=>?_,?_⟩
   ·rw [dA,iz,List.sum_append,List.sum_cons,List.sum_nil,Int.add_zero,show ∀ a b c:Int,a - (b+c)=a - b - c from fun a b c=>by lia];rfl
   ·rw [aA (aC e hm)];exact k _ _ e
   ·rw [aj,dA,iz,zA4];rfl
  ·rintro σ Hc ⟨x4,x5,x6,x7,x8,rfl,k,em⟩;rw [show xs.length=rs.length from els.1,zAm] at em;exact ⟨_,rfl,q m Hc (fun b o e=>k b o e) hm em⟩
theorem scT2:FnScope ["wool","claims","weights"] ["wool","claims"] (aK (top 49)):=fS
theorem wZ (F:Fun K "shares_of" "shares_of" (top 49) f fd)(T:Mg mg)(Ts:mg "sum" = none)(c1:Cal P w K mg base 6 "parted" ["sacks","weights"] K92P.spParts):FnOk P w K mg base CX0 7 f fd ["wool","claims"] rY:=by
 refine F.ok scT2 (fun vs H Q E h=>?_) (fun av A outer s H vs Q E hr h=>?_)
 ·obtain ⟨w0,l,xs,rs,rfl,_⟩:=h;rfl
 ·obtain ⟨w0,l,xs,rs,rfl,el,els,h4,hz,hw,q⟩:=h
  refine ⟨_,aB (pss 2 scT2.nd (bO bH rfl T.tuple boot_tuple (aq (bA (g:=iC K 4 (bR (bG 0) (bR (bG 1) (bR (bG 2) (bR (bG 3) jh))))) ["due","number","holder","sacks"] [none,none,none,none] rfl (dG (pv 1))
    (fun C fp pins s₂ H₂=>⟨cU rfl rfl (au (pgn 0 nd4) (au (pgn 1 nd4) (au (pgn 2 nd4) (au (pgn 3 nd4) aY)))),bh,pv 3⟩) (fun C=>trivial) ⟨rfl,rfl,rfl,rfl⟩) aa)))
   (aG (aR (qP (bw bY (aQ (cZ rfl) rfl Ts boot_sum (aq (pv 2) aa)) (pv 0) (bF _)) (pv 2) (aD c1 hr (aq (pv 0) (aq (pv 2) aa)))))),?_⟩
  refine aF (aX ?_);refine ⟨_,rfl,l,rfl,⟨_,SqL.of el⟩,bu rs.length (fun i ys σ Hc=>Same H Hc/\(∃ o1 o2 o3 o4,σ=[o1,o2,o3,o4])/\ys=(wts (rs.take i)).map V.int) ⟨Same.refl H,⟨_,_,_,_,rfl⟩,rfl⟩ (by rw [sizeLine_eq];lia) ?_ ?_⟩
  ·rintro i ys σ Hc hi hy ⟨s1,⟨o1,o2,o3,o4,rfl⟩,rfl⟩;obtain ⟨t,ex,et⟩:=els.2 i rs[i] (zA0 hi);rw [fM (h4 _ (zAh hi)).1] at et;refine ⟨⟨_,_,SqL.of (s1 _ _ el),ex⟩,fun v H' y R hR=>?_⟩;obtain ⟨rfl,y⟩:=y;have hv:=y _ (SqL.of (s1 _ _ el));rw [ex] at hv;cases hv;refine ⟨t,_,rfl,SqT.of (s1 _ _ et),rfl,_,_,rfl,_,_,rfl,_,_,rfl,_,_,rfl,rfl,_,rfl,hR _ _ _ ⟨s1,⟨_,_,_,_,rfl⟩,?_⟩⟩;unfold wts;rw [zAj,zA0 hi,zA4,zA4];rfl
  ·rintro ys σ Hc hy ⟨s1,_,rfl⟩;refine ⟨⟨_,SqL.of (s1 _ _ el),by rw [els.1];exact zA3 _⟩,fun D hD=>?_⟩;rw [zAm];refine ⟨D,_,rfl,.inl ⟨SqL.of aj,fun t ht=>?_⟩⟩;have s2:=(s1.updR (o:=.lst ((wts rs).map V.int)) hD).updR (o:=.tup ((wts rs).map V.int)) ht;have et:=aj (H:=upd Hc D (.lst ((wts rs).map V.int))) (a:=t) (o:=.tup ((wts rs).map V.int));generalize upd (upd Hc D (.lst ((wts rs).map V.int))) t (.tup ((wts rs).map V.int))=H2 at s2 et ⊢;refine aM ?_;dsimp only;refine ⟨_,rfl,t,wts rs,rfl,.inr (SqT.of et),_,rfl,_,_,rfl,rfl,_,rfl,?_⟩;by_cases hs:(wts rs).sum<=w0
   ·rw [zAt hs];refine bV ⟨_,rfl,q t H2 s2 ?_⟩;unfold bz;rw [zAx hs];exact et
   ·rw [zB1 hs];refine bI ⟨_,rfl,_,rfl,w0,t,wts rs,rfl,et,⟨?_,?_,fun x hx=>?_⟩,hw,by lia,fun H3 t3 s3 e3=>q t3 H3 (s2.trans s3) ?_⟩
    ·cases qB:rs with
     | nil =>
      rw [qB] at hs;exact absurd hw hs
     | cons r qE =>
      unfold wts;rw [zA1,zAe];lia
    ·unfold wts;rw [zA1];exact hz
    ·obtain ⟨r,qB,rfl⟩:=zA5.mp hx;exact (h4 r qB).2
    ·unfold bz;rw [zAu hs];exact e3
theorem gD {J:It}{g:TG}{tt:TT}{te:TE}{fh:St}{H0:Hp}{Fin:List V->Hp->Prop}(n:Nat)(Pv:Nat->List V->St->Hp->Prop)(h0:Pv 0 [] fh H0)(hz:n < sizeLine)
  (step:∀ i ys σ H,i < n->ys.length<=i->Pv i ys σ H->J.go i H/\∀ x H',J.yld i H x H'->∀ R:List V->St->Hp->Prop,(∀ nK ba H4,nK.length<=i+1->Pv (i+1) nK ba H4->R nK ba H4)->g x σ H' fun ba H2=>tt ba H2 fun b H3=>if b=true then te ba H3 fun y H4=>R (ys++[y]) ba H4 else R ys ba H3)
  (fin:∀ ys σ H,ys.length<=n->Pv n ys σ H->J.stop n H/\Fin ys H):jC J g tt te Fin fh H0:=by
 refine ⟨fun i m ys σ H=>m=n - i/\i<=n/\ys.length<=i/\Pv i ys σ H,⟨_,rfl,zAp _,zA3 _,h0⟩,?_⟩;rintro i m ys σ H ⟨rfl,hi,hy,p⟩;refine ⟨by lia,?_⟩;by_cases aT:i < n
 ·obtain ⟨go,st⟩:=step i ys σ H aT hy p;exact .inr ⟨go,fun x H' y=>st x H' y (fun nK ba H4=>∃ m',m' < n - i/\m'=n - (i+1)/\i+1<=n/\nK.length<=i+1/\Pv (i+1) nK ba H4) fun nK ba H4 l2 p2=>⟨n - (i+1),by lia,rfl,aT,l2,p2⟩⟩
 ·have e:i=n:=by lia
  subst e;exact .inl (fin ys σ H hy p)
def eV (P:List (List Int×Int)):List (List Int):=(P.filter fun p=>decide (0 < p.2)).map fun p=>[fl p.1 0,fl p.1 1,fl p.1 2,p.2]
def cP (P:List (List Int×Int)):List (List Int):=(P.filter fun p=>decide (p.2 < fl p.1 3)).map fun p=>[fl p.1 0,fl p.1 1,fl p.1 2,fl p.1 3 - p.2]
theorem oY (P:List (List Int×Int))(p:List Int×Int):eV (P++[p])=eV P++(if 0 < p.2 then [[fl p.1 0,fl p.1 1,fl p.1 2,p.2]] else []):=by
 unfold eV;rw [List.filter_append,zA4];congr 1;by_cases h:0 < p.2
 ·rw [zAx h,zBd (p:=fun (p:List Int×Int)=>decide (0 < p.2)) (zAt h)];rfl
 ·rw [zAu h,zBc (p:=fun (p:List Int×Int)=>decide (0 < p.2)) (by rw [decide_eq_true_eq];exact h)];rfl
theorem mJ (P:List (List Int×Int))(p:List Int×Int):cP (P++[p])=cP P++(if p.2 < fl p.1 3 then [[fl p.1 0,fl p.1 1,fl p.1 2,fl p.1 3 - p.2]] else []):=by
 unfold cP;rw [List.filter_append,zA4];congr 1;by_cases h:p.2 < fl p.1 3
 ·rw [zAx h,zBd (p:=fun (p:List Int×Int)=>decide (p.2 < fl p.1 3)) (zAt h)];rfl
 ·rw [zAu h,zBc (p:=fun (p:List Int×Int)=>decide (p.2 < fl p.1 3)) (by rw [decide_eq_true_eq];exact h)];rfl
theorem shares_len {w:Int}{rs:List (List Int)}:(bz w rs).length=rs.length:=by
 unfold bz;split
 ·unfold wts;rw [zA1]
 ·rw [K92P.res_len];unfold wts;rw [zA1]
def shr (w:Int)(cl ow:List (List Int)):List Int:=bz w cl++cD (w - (bz w cl).sum) ow
inductive SpSortI (vs:List V)(H:Hp)(Q:VK):Prop
 | mk:∀ w lc xc cl lo xo ow,(vs=[.int w,.ref lc,.ref lo])->(H lc=some (.lst xc))->(Els H xc cl)->((∀ r∈cl,r.length=4/\1<=fl r 3/\fl r 3<=99))->(cl.length<=80)->(0<=w)->(H lo=some (.lst xo))->(Els H xo ow)->((∀ r∈ow,r.length=4))->(ow.length<=10000)->(∀ t g k xg xk H',Same H H'->H' t=some (.tup [.ref g,.ref k])->H g=none->H k=none->H' g=some (.lst xg)->Els H' xg (eV ((cl++ow).zip (shr w cl ow)))->H' k=some (.lst xk)->Els H' xk (cP ((cl++ow).zip (shr w cl ow)))->Q (.ref t) H')->SpSortI  vs H Q
def yL:Sp:=fun vs H Q _=>SpSortI  vs H Q
theorem jF:bootBuiltins "list" = some (.type "list"):=by decide +kernel
theorem nd5:(["due","number","holder","sacks","share"]:List Str).Nodup:=by decide +kernel
theorem scU1:FnScope ["wool","claims","owed","shares","rows","gifts","lacking"] ["wool","claims","owed"] (aK (top 51)):=fS
theorem yM (F:Fun K "sort_given" "sort_given" (top 51) f fd)(Ts:mg "sum" = none)(Tl:mg "list" = none)(Tz:mg "zip" = none)(c1:Cal P w K mg base 7 "shares_of" ["wool","claims"] rY)(c2:Cal P w K mg base 1 "made_good" ["wool","owed"] yK):FnOk P w K mg base CX0 8 f fd ["wool","claims","owed"] yL:=by
 refine F.ok scU1 (fun vs H Q E h=>?_) (fun av A outer s H vs Q E hr h=>?_)
 ·obtain ⟨w0,lc,xc,cl,lo,xo,ow,rfl,_⟩:=h;rfl
 ·obtain ⟨w0,lc,xc,cl,lo,xo,ow,rfl,ec,yB,IZ,Lx,hw,eo,ma,Ja,Lz,q⟩:=h
  refine ⟨_,aB (pss 3 scU1.nd (bO iI rfl Tl jF (aq (aD c1 hr (aq (pv 0) (aq (pv 1) aa))) aa)))
   (aB (pss 4 scU1.nd (aV Dw (pv 1) (pv 2)))
   (aB (kJ (i:=3) scU1.nd rfl (Or.inl rfl) (aD c2 hr (aq (aV cJ (pv 0) (aQ (cZ rfl) rfl Ts boot_sum (aq (pv 3) aa))) (aq (pv 2) aa))) qt)
   (aB (fU (g:=iC K 2 (bR (iC K 4 (bR (bG 0) (bR (bG 1) (bR (bG 2) (bR (bG 3) jh))))) (bR (bG 4) jh))) (i:=5) ["due","number","holder","sacks","share"] [none,none,none,none,none] rfl scU1.nd rfl (Or.inl rfl) (ZL.pi_zip rfl Tz (aq (pv 4) (aq (pv 3) aa))) (fun C fp pins s₂ H₂=>⟨cU rfl rfl (au (cU rfl rfl (au (pgn 0 nd5) (au (pgn 1 nd5) (au (pgn 2 nd5) (au (pgn 3 nd5) aY))))) (au (pgn 4 nd5) aY)),iJ (bw gW (pv 4) az (bF _)),bJ (aq (pv 0) (aq (pv 1) (aq (pv 2) (aq (pv 4) aa))))⟩) (fun C=>trivial) ⟨rfl,rfl,rfl,rfl⟩)
   (aB (fU (g:=iC K 2 (bR (iC K 4 (bR (bG 0) (bR (bG 1) (bR (bG 2) (bR (bG 3) jh))))) (bR (bG 4) jh))) (i:=6) ["due","number","holder","sacks","share"] [none,none,none,none,none] rfl scU1.nd rfl (Or.inl rfl) (ZL.pi_zip rfl Tz (aq (pv 4) (aq (pv 3) aa))) (fun C fp pins s₂ H₂=>⟨cU rfl rfl (au (cU rfl rfl (au (pgn 0 nd5) (au (pgn 1 nd5) (au (pgn 2 nd5) (au (pgn 3 nd5) aY))))) (au (pgn 4 nd5) aY)),iJ (bw gW (pv 3) (pv 4) (bF _)),bJ (aq (pv 0) (aq (pv 1) (aq (pv 2) (aq (aV cJ (pv 3) (pv 4)) aa))))⟩) (fun C=>trivial) ⟨rfl,rfl,rfl,rfl⟩)
   (aG (aR (bJ (aq (pv 5) (aq (pv 6) aa))))))))),?_⟩
  refine f9 fun c_ gc=>?_;refine aX ?_;refine ⟨_,rfl,_,rfl,w0,lc,xc,cl,rfl,ec,yB,IZ,Lx,hw,fun t H1 s1 et=>⟨t,_,rfl,.inr (SqT.of et),fun ls yT=>?_⟩⟩;have s2:=s1.updR (o:=.lst ((bz w0 cl).map V.int)) yT;have LA:H ls=none:=s1.free yT;have els:=aj (H:=H1) (a:=ls) (o:=.lst ((bz w0 cl).map V.int));generalize upd H1 ls (.lst ((bz w0 cl).map V.int))=H2 at s2 els ⊢;refine aM ?_;refine gc _ _ ?_;clear gc c_
  try dsimp only
  refine f9 fun c_ gc=>?_;refine aX ?_;refine ⟨_,rfl,_,rfl,lc,lo,xc,xo,rfl,rfl,s2 _ _ ec,s2 _ _ eo,by rw [yB.1,ma.1,sizeLine_eq];lia,fun lr ix=>?_⟩;have s3:=s2.updR (o:=.lst (xc++xo)) ix;have QR:H lr=none:=s2.free ix;have md:=Same.upd (o:=.lst (xc++xo)) ix _ _ els;have D1:=aj (H:=H2) (a:=lr) (o:=.lst (xc++xo))
  have LB:lr≠ls:=fun z=>by rw [z,els] at ix;cases ix
  generalize upd H2 lr (.lst (xc++xo))=H3 at s3 md D1 ⊢;refine aM ?_;refine gc _ _ ?_;clear gc c_
  try dsimp only
  refine f9 fun c_ gc=>?_;refine ⟨_,rfl,_,rfl,_,rfl,ls,bz w0 cl,rfl,.inl (SqL.of md),_,_,rfl,rfl,_,rfl,_,lo,xo,ow,rfl,s3 _ _ eo,ma.same s3,Ja,by lia,fun m H4 s4 nm em=>?_⟩;refine ⟨ls,m,_,_,rfl,rfl,s4 _ _ md,em,by rw [zA1,zA1,shares_len,dZ,sizeLine_eq];lia,?_⟩;have Jb:(bz w0 cl).map V.int++(cD (w0 - (bz w0 cl).sum) ow).map V.int=(shr w0 cl ow).map V.int:=by unfold shr;rw [zA4]
  rw [Jb]
  have qS:(shr w0 cl ow).length=(cl++ow).length:=by
   unfold shr;rw [zA2,zA2,shares_len,dZ]
  generalize shr w0 cl ow=SH at q qS;refine gc _ _ ?_;clear gc c_
  try dsimp only
  have k5:Same H (upd H4 ls (.lst (SH.map V.int))):=fun b o e=>by
   rw [aA (aC e LA)];exact s4 _ _ (s3 _ _ e)
  have eI:=aj (H:=H4) (a:=ls) (o:=.lst (SH.map V.int));have gL:upd H4 ls (.lst (SH.map V.int)) lr=some (.lst (xc++xo)):=by rw [aA LB];exact s4 _ _ D1
  generalize upd H4 ls (.lst (SH.map V.int))=H5 at k5 eI gL ⊢;have tN:Els H (xc++xo) (cl++ow):=yB.app ma;have Jc:∀ r∈cl++ow,r.length=4:=fun r hr=>(zA6.mp hr).elim (fun z=>(IZ r z).1) (Ja r);have LC:(cl++ow).length<=20000:=by rw [zA2];lia
  generalize xc++xo=xr at gL tN;generalize cl++ow=rr at q qS tN Jc LC;clear els md D1 Jb s1 s2 s3 s4 em et
  obtain ⟨ZP,Bn⟩:∃ ZP,ZP=rr.zip SH:=⟨_,rfl⟩
  rw [<- Bn] at q;have me:ZP.length=rr.length:=by rw [Bn,zAs,qS,Nat.min_self]
  have qV:∀ i (h:i < ZP.length),rr[i]?=some ZP[i].1:=fun i h=>by
   have hi:i < rr.length:=by lia
   rw [zA0 hi];congr 1;simp only [Bn,List.getElem_zip]
  have yY:∀ i (h:i < ZP.length),SH[i]?=some ZP[i].2:=fun i h=>by
   have hi:i < SH.length:=by lia
   rw [zA0 hi];congr 1;simp only [Bn,List.getElem_zip]
  have y6:∀ i (h:i < ZP.length),(ZP[i].1).length=4:=fun i h=>Jc _ (zBa (qV i h));refine f9 fun c_ gc=>?_;refine ⟨_,rfl,_,rfl,lr,ls,xr,_,rfl,SqL.of gL,SqL.of eI,gD rr.length (fun i ys σ Hc=>Same H5 Hc/\(∃ o1 o2 o3 o4 o5,σ=[o1,o2,o3,o4,o5])/\Els Hc ys (eV (ZP.take i))) ⟨Same.refl _,⟨_,_,_,_,_,rfl⟩,Els.nil⟩ (by rw [sizeLine_eq];lia) ?_ ?_⟩
  ·rintro i ys σ Hc hi hy ⟨sc,⟨o1,o2,o3,o4,o5,rfl⟩,ht⟩;have hP:i < ZP.length:=by rw [me];exact hi
   obtain ⟨tr,ex,et⟩:=tN.2 i ZP[i].1 (qV i hP);have er:SqL K Hc lr xr:=SqL.of (sc _ _ gL);have es:SqL K Hc ls (SH.map V.int):=SqL.of (sc _ _ eI);have nS:(SH.map V.int)[i]?=some (.int ZP[i].2):=by rw [zAb,yY i hP];rfl
   have dA:ZP.take (i+1)=ZP.take i++[ZP[i]]:=by rw [zAj,zA0 hP];rfl
   have y7:=sc _ _ (k5 _ _ et);rw [fM (y6 i hP)] at y7;refine ⟨⟨_,_,_,_,er,es,ex,nS⟩,fun x H' yv R hR=>?_⟩;obtain ⟨T0,nT,rfl,yv⟩:=yv;obtain ⟨x',y',qv,rb,rfl⟩:=yv _ _ er es;rw [ex] at qv;cases qv;rw [nS] at rb;cases rb;have nV:=sc.updR (o:=.tup [.ref tr,.int ZP[i].2]) nT;refine ⟨T0,_,rfl,SqT.of aj,rfl,_,_,rfl,?_⟩;refine ⟨tr,_,rfl,SqT.of (Same.upd nT _ _ y7),rfl,_,_,rfl,_,_,rfl,_,_,rfl,_,_,rfl,rfl,?_⟩;refine ⟨_,_,rfl,rfl,?_⟩;refine ⟨_,rfl,_,_,rfl,rfl,_,rfl,?_⟩;by_cases bo:0 < ZP[i].2
   ·rw [zAt bo];refine bV ⟨_,rfl,_,rfl,_,rfl,_,rfl,zL,fun t dP=>hR _ _ _ (by rw [zA2];show ys.length+1<=i+1;lia) ⟨nV.updR dP,⟨_,_,_,_,_,rfl⟩,?_⟩⟩;rw [dA,oY,zAx bo];exact (((ht.same (Same.upd nT)).same (Same.upd dP))).app (Els.one aj)
   ·rw [zB1 bo];refine bI (hR _ _ _ (by lia) ⟨nV,⟨_,_,_,_,_,rfl⟩,?_⟩);rw [dA,oY,zAu bo,zAn];exact ht.same (Same.upd nT)
  rintro ys σ Hc hy ⟨sc,_,ht⟩;rw [<- me,zAm] at ht;refine ⟨⟨_,_,SqL.of (sc _ _ gL),SqL.of (sc _ _ eI),.inl (by rw [tN.1];exact zA3 _)⟩,fun g hg=>?_⟩;have k6:=(k5.trans sc).updR (o:=.lst ys) hg;have ng:H g=none:=(k5.trans sc).free hg;have eg:=aj (H:=Hc) (a:=g) (o:=.lst ys);have iL:=ht.same (Same.upd (o:=.lst ys) hg);have mf:=Same.upd (o:=.lst ys) hg _ _ (sc _ _ gL);have mh:=Same.upd (o:=.lst ys) hg _ _ (sc _ _ eI);generalize upd Hc g (.lst ys)=H6 at k6 eg iL mf mh ⊢;clear sc ht hy eI gL k5;refine gc _ _ ?_;clear gc c_
  try dsimp only
  refine f9 fun c_ gc=>?_;refine ⟨_,rfl,_,rfl,lr,ls,xr,_,rfl,SqL.of mf,SqL.of mh,gD rr.length (fun i ys σ Hc=>Same H6 Hc/\(∃ o1 o2 o3 o4 o5,σ=[o1,o2,o3,o4,o5])/\Els Hc ys (cP (ZP.take i))) ⟨Same.refl _,⟨_,_,_,_,_,rfl⟩,Els.nil⟩ (by rw [sizeLine_eq];lia) ?_ ?_⟩
  ·rintro i ys σ Hc hi hy ⟨sc,⟨o1,o2,o3,o4,o5,rfl⟩,ht⟩;have hP:i < ZP.length:=by rw [me];exact hi
   obtain ⟨tr,ex,et⟩:=tN.2 i ZP[i].1 (qV i hP);have er:SqL K Hc lr xr:=SqL.of (sc _ _ mf);have es:SqL K Hc ls (SH.map V.int):=SqL.of (sc _ _ mh);have nS:(SH.map V.int)[i]?=some (.int ZP[i].2):=by rw [zAb,yY i hP];rfl
   have dA:ZP.take (i+1)=ZP.take i++[ZP[i]]:=by rw [zAj,zA0 hP];rfl
   have y7:=sc _ _ (k6 _ _ et);rw [fM (y6 i hP)] at y7;refine ⟨⟨_,_,_,_,er,es,ex,nS⟩,fun x H' yv R hR=>?_⟩;obtain ⟨T0,nT,rfl,yv⟩:=yv;obtain ⟨x',y',qv,rb,rfl⟩:=yv _ _ er es;rw [ex] at qv;cases qv;rw [nS] at rb;cases rb;have nV:=sc.updR (o:=.tup [.ref tr,.int ZP[i].2]) nT;refine ⟨T0,_,rfl,SqT.of aj,rfl,_,_,rfl,?_⟩;refine ⟨tr,_,rfl,SqT.of (Same.upd nT _ _ y7),rfl,_,_,rfl,_,_,rfl,_,_,rfl,_,_,rfl,rfl,?_⟩;refine ⟨_,_,rfl,rfl,?_⟩;refine ⟨_,rfl,_,rfl,_,_,rfl,rfl,_,rfl,?_⟩;by_cases bo:ZP[i].2 < fl ZP[i].1 3
   ·rw [zAt bo];refine bV ⟨_,rfl,_,rfl,_,rfl,_,rfl,_,rfl,_,_,rfl,rfl,zL,fun t dP=>hR _ _ _ (by rw [zA2];show ys.length+1<=i+1;lia) ⟨nV.updR dP,⟨_,_,_,_,_,rfl⟩,?_⟩⟩;rw [dA,mJ,zAx bo];exact (((ht.same (Same.upd nT)).same (Same.upd dP))).app (Els.one aj)
   ·rw [zB1 bo];refine bI (hR _ _ _ (by lia) ⟨nV,⟨_,_,_,_,_,rfl⟩,?_⟩);rw [dA,mJ,zAu bo,zAn];exact ht.same (Same.upd nT)
  rintro D4 σ Hc hy ⟨sc,_,ht⟩;rw [<- me,zAm] at ht;refine ⟨⟨_,_,SqL.of (sc _ _ mf),SqL.of (sc _ _ mh),.inl (by rw [tN.1];exact zA3 _)⟩,fun k hk=>?_⟩;have k7:=(k6.trans sc).updR (o:=.lst D4) hk;have nk:H k=none:=(k6.trans sc).free hk;have sk:=Same.upd (o:=.lst D4) hk;refine gc _ _ ?_;clear gc c_
  try dsimp only
  refine ⟨_,rfl,_,rfl,zL,fun t dP=>?_⟩;have st:=Same.upd (o:=.tup [.ref g,.ref k]) dP;exact q t g k ys D4 _ (k7.trans st) aj ng nk (st _ _ (sk _ _ (sc _ _ eg))) (((iL.same sc).same sk).same st) (st _ _ aj) ((ht.same sk).same st)
def fB (L:List Int)(i:Nat):List (List Int):=((List.range i).filter fun h=>decide (0 < L.getD h 0)).map fun (h:Nat)=>[(h:Int),L.getD h 0]
theorem jG (L:List Int)(i:Nat):fB L (i+1)=fB L i++(if 0 < L.getD i 0 then [[(i:Int),L.getD i 0]] else []):=by
 unfold fB;rw [List.range_succ,List.filter_append,zA4];congr 1;by_cases h:0 < L.getD i 0
 ·rw [zAx h,zBd (p:=fun h=>decide (0 < L.getD h 0)) (zAt h)];rfl
 ·rw [zAu h,zBc (p:=fun h=>decide (0 < L.getD h 0)) (by rw [decide_eq_true_eq];exact h)];rfl
theorem uc (L:List Int)(i:Nat):(fB L i).length<=i:=by
 unfold fB;rw [zA1];have:=List.length_filter_le (fun h=>decide (0 < L.getD h 0)) (List.range i);rw [List.length_range] at this;exact this
def mK (ps ss:List (List Int))(sort year:Int)(n:Nat):List (List Int):=if fl (ps.getD n []) 1=sort then (fB (cz (ps.getD n []) ss n year) 8).map (fun r=>year::(n:Int)::r) else []
def jO (ps ss:List (List Int))(sort year:Int):Nat->List (List Int)
 | 0=>[]
 | k+1=>jO ps ss sort year k++mK ps ss sort year k
def aJ (ps ss:List (List Int))(sort year:Int):List (List Int):=jO ps ss sort year ps.length
theorem yN (ps ss:List (List Int))(sort year:Int)(n:Nat):(mK ps ss sort year n).length<=8:=by
 unfold mK;split
 ·rw [zA1];exact uc _ 8
 ·exact zAp _
theorem mL (ps ss:List (List Int))(sort year:Int):∀ k,(jO ps ss sort year k).length<=8 * k
 | 0=>zA3 _
 | k+1=>by
  unfold jO;rw [zA2];have:=mL ps ss sort year k;have:=yN ps ss sort year k;lia
inductive SpClaimsI (vs:List V)(H:Hp)(Q:VK):Prop
 | mk:∀ ap xp ps ah xs ss sort year,(vs=[.ref ap,.ref ah,.int sort,.int year])->(RowsAt H ap xp ps)->(ps.length<=10)->((∀ r∈ps,okP r))->(RowsAt H ah xs ss)->(ss.length<=12)->((∀ s∈ss,okS s))->(∀ l xl H',Same H H'->H l=none->H' l=some (.lst xl)->Els H' xl (aJ ps ss sort year)->Q (.ref l) H')->SpClaimsI  vs H Q
def mO:Sp:=fun vs H Q _=>SpClaimsI  vs H Q
theorem ndV:(["holder","sacks","year","number"]:List Str).Nodup:=by decide +kernel
theorem scV1:FnScope ["promises","sales","sort","year","claims","number","promise","held"] ["promises","sales","sort","year"] (aK (top 48)):=fS
theorem xj (F:Fun K "claims_in" "claims_in" (top 48) f fd)(Te:mg "enumerate" = none)(c1:Cal P w K mg base 1 "held_in" ["promises","sales","number","year"] u6):FnOk P w K mg base CX0 2 f fd ["promises","sales","sort","year"] mO:=by
 refine F.ok scV1 (fun vs H Q E h=>?_) (fun av A outer s H vs Q E hr h=>?_)
 ·obtain ⟨ap,xp,ps,ah,xs,ss,sort,year,rfl,_⟩:=h;rfl
 ·obtain ⟨ap,xp,ps,ah,xs,ss,sort,year,rfl,rp,lp,okp,rs,ls,ff,q⟩:=h
  refine ⟨_,aB (pss 4 scV1.nd (dN aa))
   (aB (cV zB8 rfl (pi_enum rfl Te (aq (pv 0) aa)) (bU rfl (au (aZ (i:=5) scV1.nd rfl (Or.inr rfl)) (au (pgn 6 scV1.nd) aY)))
    (aG (bW (bw kY (pX cM (pv 6) az) (pv 2) (bF _))
     (aB (pss 7 scV1.nd (aD c1 hr (aq (pv 0) (aq (pv 1) (aq (pv 5) (aq (pv 3) aa))))))
     (aG (kJ (i:=4) scV1.nd rfl (Or.inl rfl) (bA (g:=iC K 2 (bR (bG 0) (bR (bG 1) jh))) ["holder","sacks","year","number"] [none,none,some 3,some 5] rfl (EL.pi_enum rfl Te (aq (pv 7) aa))
      (fun C fp pins s₂ H₂=>⟨cU rfl rfl (au (pgn 0 ndV) (au (pgn 1 ndV) aY)),iJ (bw gW (pv 1) az (bF _)),bJ (aq (pv 2) (aq (pv 3) (aq (pv 0) (aq (pv 1) aa))))⟩)
      (fun C=>cI (cI trivial)) ⟨rfl,rfl,rfl,rfl⟩) qt))) bf)))
   (aG (aR (pv 4)))),?_⟩
  refine aF (aX ?_);refine ⟨zL,fun l hl=>?_⟩;refine aM ?_;dsimp only;refine aF ?_;have s0:=Same.upd (o:=.lst []) hl;refine ⟨_,rfl,ap,xp,rfl,SqT.of (s0 _ _ rp.e),?_⟩;refine iR (xs:=xp) (fun i σ Hc=>∃ x5 x6 x7 xl,σ=[some (.ref ap),some (.ref ah),some (.int sort),some (.int year),some (.ref l),x5,x6,x7]/\(∀ b o,H b=some o->Hc b=some o)/\Hc l=some (.lst xl)/\Els Hc xl (jO ps ss sort year i)) ?_ ?_ ?_ ?_
  ·exact ⟨none,none,none,[],rfl,fun b o e=>s0 _ _ e,aj,Els.nil⟩
  ·rintro i σ Hc hi ⟨x5,x6,x7,xl,rfl,k,el,ht⟩;exact SqT.of (k _ _ rp.e)
  ·rintro i x σ Hc T0 hx ⟨x5,x6,x7,xl,rfl,k,el,ht⟩ nT
   have hi:i < ps.length:=by
    have:=(zAa.mp hx).1;rw [rp.l] at this;exact this
   obtain ⟨tr,hU,fq⟩:=rp.g i ps[i] (zA0 hi)
   have:x=.ref tr:=by
    rw [hx] at hU;exact zAl hU
   subst this;have op:=okp ps[i] (zAh hi);have ep:ps.getD i []=ps[i]:=getD_get hi;rw [six_row op.1] at fq;have sT:=Same.upd (o:=.tup [V.int i,V.ref tr]) nT;have kT:Same H (upd Hc T0 (.tup [V.int i,V.ref tr])):=fun b o e=>sT _ _ (k _ _ e);have tP:=sT _ _ el;have D5:=ht.same sT;have eT:=aj (H:=Hc) (a:=T0) (o:=.tup [V.int i,V.ref tr]);generalize upd Hc T0 (.tup [V.int i,V.ref tr])=H1 at kT tP D5 eT ⊢;refine ⟨T0,_,rfl,SqT.of eT,rfl,_,_,rfl,_,_,rfl,rfl,?_⟩;refine ⟨_,rfl,tr,_,1,.int (fl ps[i] 1),rfl,rfl,SqT.of (kT _ _ fq),rfl,_,rfl,rfl,_,rfl,?_⟩;by_cases hs:fl ps[i] 1=sort
   ·rw [zAt (by rw [hs])];refine bV (aF ?_);refine aX ?_;refine ⟨_,rfl,_,rfl,_,rfl,_,rfl,ap,xp,ps,ah,xs,ss,i,year,rfl,rp.same kT,rs.same kT,by lia,by lia,by rw [zAi,ep];exact op,ls,ff,fun hd H2 s2 e2=>?_⟩;rw [zAi,ep] at e2;have Jd:=dY ps[i] ss i year
    have Je:mK ps ss sort year i=(fB (cz ps[i] ss i year) 8).map (fun r=>year::(i:Int)::r):=by
     unfold mK;rw [ep,zAx hs]
    generalize cz ps[i] ss i year=L at e2 Jd Je;have k2:=kT.trans s2;have el2:=s2 _ _ tP;have D6:=D5.same s2;refine aM ?_;dsimp only;refine ⟨_,rfl,_,rfl,hd,_,rfl,SqL.of e2,gD 8 (fun j ys σ Hj=>Same H2 Hj/\(∃ o1 o2,σ=[o1,o2,some (.int year),some (.int i)])/\Els Hj ys ((fB L j).map (fun r=>year::(i:Int)::r))) ⟨Same.refl _,⟨_,_,rfl⟩,Els.nil⟩ (by rw [sizeLine_eq];decide) ?_ ?_⟩
    ·rintro j ys σ Hj hj hy ⟨sc,⟨o1,o2,rfl⟩,rd⟩;have hX:SqL K Hj hd (L.map V.int):=SqL.of (sc _ _ e2)
     have ku:(L.map V.int)[j]?=some (.int (L.getD j 0)):=by
      have dQ:j < L.length:=by lia
      rw [zAb,zA7,zA0 dQ];rfl
     refine ⟨⟨_,_,hX,ku⟩,fun x H' yv R hR=>?_⟩;obtain ⟨T1,rg,rfl,yv⟩:=yv;obtain ⟨x',fx,rfl⟩:=yv _ hX;rw [ku] at fx;cases fx;have nV:=sc.updR (o:=.tup [.int (j:Int),.int (L.getD j 0)]) rg;refine ⟨T1,_,rfl,SqT.of aj,rfl,_,_,rfl,_,_,rfl,rfl,?_⟩;refine ⟨_,rfl,_,_,rfl,rfl,_,rfl,?_⟩;by_cases bo:0 < L.getD j 0
     ·rw [zAt bo];refine bV ⟨_,rfl,_,rfl,_,rfl,_,rfl,zL,fun t dP=>hR _ _ _ (by rw [zA2];show ys.length+1<=j+1;lia) ⟨nV.updR dP,⟨_,_,rfl⟩,?_⟩⟩;rw [jG,zAx bo,zA4];exact ((rd.same (Same.upd rg)).same (Same.upd dP)).app (Els.one aj)
     ·rw [zB1 bo];refine bI (hR _ _ _ (by lia) ⟨nV,⟨_,_,rfl⟩,?_⟩);rw [jG,zAu bo,zAn];exact rd.same (Same.upd rg)
    ·rintro ys σ Hj hy ⟨sc,_,rd⟩;refine ⟨⟨_,SqL.of (sc _ _ e2),by rw [zA1];lia⟩,fun D hD=>?_⟩;have sD:=sc.updR (o:=.lst ys) hD
     have nD:D≠l:=fun z=>by rw [z,sc _ _ el2] at hD;cases hD
     have ll:=mL ps ss sort year i;have:=ht.1;refine ⟨l,D,xl,ys,rfl,rfl,sD _ _ el2,aj,by rw [sizeLine_eq];lia,?_⟩;refine ⟨_,_,_,xl++ys,rfl,fun b o e=>?_,aj,?_⟩
     ·rw [aA (aC e hl)];exact sD _ _ (k2 _ _ e)
     ·have e3:=(D6.same sD).app (rd.same (Same.upd (o:=.lst ys) hD));rw [<- Je] at e3;refine e3.keep fun b z e=>?_;rw [aA fun w=>by rw [w,sD _ _ el2] at e;cases e];exact e
   ·rw [zB1 (fun z=>hs (by injection z))];refine bI ?_;refine ⟨_,_,_,xl,rfl,fun b o e=>kT _ _ e,tP,?_⟩
    have:jO ps ss sort year (i+1)=jO ps ss sort year i:=by
     show jO ps ss sort year i++mK ps ss sort year i=_;unfold mK;rw [ep,zAu hs,zAn]
    rw [this];exact D5
  ·rintro σ Hc ⟨x5,x6,x7,xl,rfl,k,el,ht⟩;rw [show xp.length=ps.length from rp.l] at ht;exact ⟨_,rfl,q l xl Hc (fun b o e=>k b o e) hl el ht⟩
theorem sum_set:∀ (L:List Int) (i:Nat) (a:Int),i < L.length->(L.set i a).sum=L.sum - L.getD i 0+a
 | [],i,a,h=>by simp at h
 | x::L,0,a,h=>by
  rw [List.set_cons_zero,List.sum_cons,List.sum_cons,List.getD_cons_zero];lia
 | x::L,i+1,a,h=>by
  rw [List.set_cons_succ,List.sum_cons,List.sum_cons,List.getD_cons_succ,sum_set L i a (by simpa using h)];lia
theorem rZ {L:List Int}{i v:Int}(h:i.toNat < L.length):(fK L i v).sum=L.sum+v:=by
 unfold fK;rw [sum_set _ _ _ h];lia
theorem fZ:∀ {L:List Int},(∀ x∈L,0<=x)->0<=L.sum/\∀ x∈L,x<=L.sum
 | [],_=>⟨Int.le_refl _,fun x hx=>by cases hx⟩
 | y::L,h=>by
  obtain ⟨h1,h2⟩:=fZ (L:=L) fun x hx=>h x (.tail _ hx);have hy:=h y (.head _);rw [List.sum_cons];refine ⟨by lia,fun x hx=>?_⟩;rcases zAo.mp hx with z | z
  ·lia
  ·have:=h2 x z;lia
theorem jX {L:List Int}(h:∀ x∈L,0<=x)(i:Nat):0<=L.getD i 0:=by
 rw [zA7]
 cases e:L[i]? with
 | none=>exact Int.le_refl _
 | some y=>exact h y (zBa e)
theorem v8 {L:List Int}{i v:Int}(h:∀ x∈L,0<=x)(hv:0<=L.getD i.toNat 0+v):∀ x∈fK L i v,0<=x:=by
 intro x hx;unfold fK at hx;rcases List.mem_or_eq_of_mem_set hx with z | z
 ·exact h x z
 ·rw [z];exact hv
theorem yO {ps ss:List (List Int)}(h:un ps ss=none):∀ j,j < ss.length->cu ps (ss.take j) (ss.getD j [])=true:=fun j hj=>by
 unfold un at h;have:=List.find?_eq_none.mp h j (List.mem_range.mpr hj);simpa using this
theorem Bu {ps ss:List (List Int)}{n:Nat}{y:Int}(hu:un ps ss=none)(h5:∀ s∈ss,s.length=5)(op:okP (ps.getD n [])) :
  ∀ k,k<=ss.length->(∀ x∈cz (ps.getD n []) (ss.take k) n y,0<=x)/\(cz (ps.getD n []) (ss.take k) n y).sum<=99:=by
 intro k;by_cases hy:fl (ps.getD n []) 2<=y/\y<=fl (ps.getD n []) 3
 ·obtain ⟨_,⟨a1,a2⟩,_,_,⟨e1,e2⟩,_⟩:=id op
  induction k with
  | zero =>
   intro _;rw [List.take_zero];unfold cz;rw [zAx hy];show (∀ x∈base0 (ps.getD n []),0<=x)/\(base0 (ps.getD n [])).sum<=99;unfold base0;refine ⟨fun x hx=>?_,?_⟩
   ·rcases List.mem_or_eq_of_mem_set hx with z | z
    ·rw [List.eq_of_mem_replicate z];exact Int.le_refl _
    ·lia
   ·rw [sum_set _ _ _ (by rw [List.length_replicate];lia)];have:(List.replicate 8 (0:Int)).sum=0:=rfl
    have e:(List.replicate 8 (0:Int)).getD (fl (ps.getD n []) 0).toNat 0=0:=by
     rw [zA7,List.getElem?_replicate,zAx (by lia)];rfl
    rw [this,e];lia
  | succ k ih =>
   intro hk;have dQ:k < ss.length:=by lia
   obtain ⟨i1,i2⟩:=ih (by lia);have hB:=yO hu k dQ;rw [getD_get dQ] at hB;have dA:ss.take (k+1)=ss.take k++[ss[k]]:=by rw [zAj,zA0 dQ];rfl
   have eh:cz (ps.getD n []) (ss.take (k+1)) n y=hstep n y (cz (ps.getD n []) (ss.take k) n y) ss[k]:=by
    unfold cz;rw [zAx hy,zAx hy,dA,List.foldl_append];rfl
   have LD:=mH (h5 _ (zAh dQ)) hB;obtain ⟨_,⟨b1,b2⟩,c1,c2⟩:=LD;have hl:=dY (ps.getD n []) (ss.take k) n y;rw [eh];unfold hstep;by_cases hc:fl ss[k] 0=n/\fl ss[k] 4<=y
   ·rw [zAx hc];unfold cu at hB;rw [zAc] at hB;obtain ⟨eR,qr⟩:=hB
    have ep:qC ps ss[k]=ps.getD n []:=by
     unfold qC;rw [hc.1,zAi]
    have qf:fl ss[k] 3<=(cz (ps.getD n []) (ss.take k) n y).getD (fl ss[k] 1).toNat 0:=by
     have:=List.all_eq_true.mp qr y (by
      unfold years;refine zA5.mpr ⟨(y - fl ss[k] 4).toNat,List.mem_range.mpr ?_,?_⟩
      ·rw [ep];lia
      ·lia)
     have:=zB6 this;rw [ep,hc.1] at this;exact this
    unfold rO at eR;simp only [Bool.and_eq_true,decide_eq_true_eq,Bool.not_eq_true',decide_eq_false_iff_not] at eR;obtain ⟨_,_,_,QS,⟨v1,v2⟩,_⟩:=eR;generalize cz (ps.getD n []) (ss.take k) n y=L at i1 i2 hl qf;have n1:=v8 (i:=fl ss[k] 1) (v:=-(fl ss[k] 3)) i1 (by lia);refine ⟨v8 n1 ?_,?_⟩
    ·have:=jX n1 (fl ss[k] 2).toNat;lia
    ·rw [rZ (by rw [gA];lia),rZ (by lia)];lia
   ·rw [zAu hc];exact ⟨i1,i2⟩
 ·intro _;unfold cz;rw [zAu hy];refine ⟨fun x hx=>by rw [List.eq_of_mem_replicate hx];exact Int.le_refl _,by decide⟩
theorem CK {ps ss:List (List Int)}{sort year:Int}(hu:un ps ss=none)(h5:∀ s∈ss,s.length=5)(okp:∀ r∈ps,okP r):∀ k,k<=ps.length->∀ r∈jO ps ss sort year k,r.length=4/\1<=fl r 3/\fl r 3<=99/\fl r 0=year/\0<=fl r 1/\fl r 1 < k:=by
 intro k
 induction k with
 | zero=>intro _ r hr;cases hr
 | succ k ih =>
  intro hk r hr;rcases zA6.mp (show r∈jO ps ss sort year k++mK ps ss sort year k from hr) with z | z
  ·obtain ⟨h1,h2,h3,h4,h6,h7⟩:=ih (by lia) r z;exact ⟨h1,h2,h3,h4,h6,by lia⟩
  ·unfold mK at z;split at z
   ·obtain ⟨q,hq,rfl⟩:=zA5.mp z;unfold fB at hq;obtain ⟨h,hh,rfl⟩:=zA5.mp hq;have hp:=zB6 (zAq.mp hh).2;have dQ:k < ps.length:=by lia
    obtain ⟨a,b⟩:=Bu (n:=k) (y:=year) hu h5 (by rw [getD_get dQ];exact okp _ (zAh dQ)) ss.length (zA3 _);rw [zAm] at a b
    have le:(cz (ps.getD k []) ss k year).getD h 0<=99:=by
     rw [zA7] at hp ⊢
     cases e:(cz (ps.getD k []) ss k year)[h]? with
     | none=>show (0:Int)<=99;decide
     | some y =>
      have:=(fZ a).2 y (zBa e);show y<=99;lia
    refine ⟨rfl,?_,le,rfl,?_,?_⟩
    ·show 1<=(cz (ps.getD k []) ss k year).getD h 0;lia
    ·show (0:Int)<=(k:Int);lia
    ·show (k:Int) < ((k+1:Nat):Int);lia
   ·cases z
end K92
namespace K92P
open PySem L2
theorem sum_set:∀ {l:List Int} {i:Nat} {x:Int},i < l.length->(l.set i (l.getD i 0+x)).sum=l.sum+x
 | a::l,0,x,_=>by simp;lia
 | a::l,i+1,x,h=>by
  have:=sum_set (l:=l) (i:=i) (x:=x) (by simpa using h);simp only [List.set_cons_succ,List.sum_cons,List.getD_cons_succ];lia
theorem oZ:∀ (pl:List Nat) (l:List Int),(∀ i∈pl,i < l.length)->(di l pl).sum=l.sum+pl.length
 | [],l,_=>by simp [di]
 | i::pl,l,h=>by
  show (di (l.set i (l.getD i 0+1)) pl).sum=_;rw [oZ pl _ fun j hj=>by rw [List.length_set];exact h j (.tail _ hj),sum_set (h i (.head _)),zAe];lia
theorem res_sum {n:Int}{ws:List Int}(ok:OkW ws):(res n ws).sum=n:=by
 have o:=(gC (rs n ws)).choose_spec;have hl:=o.len;rw [ju] at hl;have l0:=yJ (n:=n) ok;have l1:=CJ (n:=n) ok;unfold res;rw [oZ _ _ fun i hi=>by rw [qG];have:=o.lt i (List.mem_of_mem_take hi);rw [ju] at this;exact this,zAd,Nat.min_eq_left (by lia)];have:lf n ws=n - (fs n ws).sum:=rfl;lia
end K92P
namespace K92
open PySem L2
theorem mQ:∀ {w:Int} {rs:List (List Int)},0<=w->(∀ r∈rs,0<=fl r 3)->(∀ x∈cD w rs,0<=x)/\0<=(cD w rs).sum/\(cD w rs).sum<=w
 | w,[],h,_=>⟨fun x hx=>(by cases hx),Int.le_refl _,h⟩
 | w,r::rs,h,hr=>by
  have h3:=hr r (.head _);unfold cD;by_cases hc:w < fl r 3
  ·rw [zAx hc];obtain ⟨a,b,c⟩:=mQ (w:=w - w) (rs:=rs) (by lia) fun q hq=>hr q (.tail _ hq);refine ⟨fun x hx=>?_,by rw [List.sum_cons];lia,by rw [List.sum_cons];lia⟩;rcases zAo.mp hx with z | z
   ·lia
   ·exact a x z
  ·rw [zAu hc];obtain ⟨a,b,c⟩:=mQ (w:=w - fl r 3) (rs:=rs) (by lia) fun q hq=>hr q (.tail _ hq);refine ⟨fun x hx=>?_,by rw [List.sum_cons];lia,by rw [List.sum_cons];lia⟩;rcases zAo.mp hx with z | z
   ·lia
   ·exact a x z
theorem v9:∀ {rs:List (List Int)} {sh:List Int},sh.length=rs.length->(∀ x∈sh,0<=x)->aN (eV (rs.zip sh))=sh.sum
 | [],[],_,_=>rfl
 | [],_::_,h,_=>by simp at h
 | _::_,[],h,_=>by simp at h
 | r::rs,x::sh,h,hn=>by
  have ih:=v9 (rs:=rs) (sh:=sh) (by simpa using h) fun y hy=>hn y (.tail _ hy);have hx:=hn x (.head _);rw [List.zip_cons_cons,List.sum_cons,<- ih];unfold eV;by_cases hp:0 < x
  ·rw [zBd (p:=fun (p:List Int×Int)=>decide (0 < p.2)) (zAt hp),zAk];unfold aN wts;rw [zAk,List.sum_cons];rfl
  ·rw [zBc (p:=fun (p:List Int×Int)=>decide (0 < p.2)) (by rw [decide_eq_true_eq];exact hp)];have:x=0:=by lia
   rw [this,Int.zero_add]
theorem Ej {w:Int}{cl ow:List (List Int)}(hw:0<=w)(hc:∀ r∈cl,r.length=4/\1<=fl r 3/\fl r 3<=99)(hz:cl.length<=80)(ho:∀ r∈ow,0<=fl r 3):(∀ x∈shr w cl ow,0<=x)/\0<=(shr w cl ow).sum/\(shr w cl ow).sum<=w:=by
 have hs:(∀ x∈bz w cl,0<=x)/\(bz w cl).sum<=w:=by
  unfold bz;by_cases h:(wts cl).sum<=w
  ·rw [zAx h];refine ⟨fun x hx=>?_,h⟩;obtain ⟨r,hr,rfl⟩:=zA5.mp hx;have:=(hc r hr).2.1;lia
  ·rw [zAu h]
   have ok:K92P.OkW (wts cl):=by
    refine ⟨?_,by unfold wts;rw [zA1];exact hz,fun x hx=>?_⟩
    ·cases qB:cl with
     | nil =>
      rw [qB] at h;exact absurd hw h
     | cons r qE =>
      unfold wts;rw [zA1,zAe];lia
    ·obtain ⟨r,hr,rfl⟩:=zA5.mp hx;exact (hc r hr).2
   refine ⟨fun x hx=>?_,by rw [K92P.res_sum ok];exact Int.le_refl _⟩;obtain ⟨i,hi,e⟩:=List.getElem_of_mem hx;have hG:i < (wts cl).length:=by rw [K92P.res_len] at hi;exact hi
   exact (K92P.res_get ok hw (by lia) (i:=i) (r:=x) (w:=(wts cl)[i]) (by rw [zA0 hi,e]) (zA0 hG)).1
 obtain ⟨h1,h2⟩:=hs;have h3:=(fZ h1).1;obtain ⟨m1,m2,m3⟩:=mQ (w:=w - (bz w cl).sum) (rs:=ow) (by lia) ho;unfold shr;refine ⟨fun x hx=>(zA6.mp hx).elim (h1 x) (m1 x),?_,?_⟩
 ·rw [List.sum_append];lia
 ·rw [List.sum_append];lia
theorem vd {w:Int}{cl ow:List (List Int)}(hw:0<=w)(hc:∀ r∈cl,r.length=4/\1<=fl r 3/\fl r 3<=99)(hz:cl.length<=80)(ho:∀ r∈ow,0<=fl r 3):aN (eV ((cl++ow).zip (shr w cl ow)))=(shr w cl ow).sum/\0<=w - aN (eV ((cl++ow).zip (shr w cl ow))):=by
 obtain ⟨a,b,c⟩:=Ej hw hc hz ho;have e:=v9 (rs:=cl++ow) (sh:=shr w cl ow) (by unfold shr;rw [zA2,zA2,shares_len,dZ]) a;exact ⟨e,by rw [e];lia⟩
def rle (a b:List Int):Bool:=!HT.lexLt b a
theorem Ek (a b c:List Int)(h1:rle a b=true)(h2:rle b c=true):rle a c=true:=by
 unfold rle at *;rw [Bool.not_eq_true'] at *
 cases h:HT.lexLt c a with
 | false=>rfl
 | true =>
  rcases uU c b a h with z | z
  ·rw [z] at h2;cases h2
  ·rw [z] at h1;cases h1
theorem Bv (a b:List Int):(rle a b || rle b a)=true:=by
 unfold rle
 cases h:HT.lexLt b a with
 | false=>rfl
 | true =>
  cases h':HT.lexLt a b with
  | false=>rfl
  | true =>
   have:=qm a b a h' h;rw [ql] at this;cases this
def srt (rs:List (List Int)):List (List Int):=rs.mergeSort rle
theorem yP {rs qE:List (List Int)}(pm:qE.Perm rs)(so:qE.Pairwise (fun a b=>HT.lexLt b a=false)):qE=srt rs:=by
 have LF:qE.Pairwise (fun a b=>rle a b=true):=so.imp fun {a b} h=>by unfold rle;rw [h];rfl
 refine List.Perm.eq_of_pairwise (le:=fun a b=>rle a b=true) (fun a b _ _ h1 h2=>?_) LF (List.pairwise_mergeSort Ek Bv rs) (pm.trans (List.mergeSort_perm rs rle).symm);unfold rle at h1 h2;rw [Bool.not_eq_true'] at h1 h2;exact jU a b h2 h1
structure Yr where
 g:List (List Int)
 k:List (List Int)
 l:List Int
 d:Int
def aH (ps ow:List (List Int))(sort:Int):List (List Int):=ow.filter fun r=>decide (fl (ps.getD (fl r 1).toNat []) 1=sort)
def Gn (c:List Int)(ps ss ow:List (List Int))(y:Int)(a:Yr)(sort:Nat):Yr :=
 ⟨a.g++eV ((aJ ps ss sort y++aH ps ow sort).zip (shr (c.getD sort 0+a.d) (aJ ps ss sort y) (aH ps ow sort))),
  a.k++cP ((aJ ps ss sort y++aH ps ow sort).zip (shr (c.getD sort 0+a.d) (aJ ps ss sort y) (aH ps ow sort))),
  a.l++[c.getD sort 0+a.d - aN (eV ((aJ ps ss sort y++aH ps ow sort).zip (shr (c.getD sort 0+a.d) (aJ ps ss sort y) (aH ps ow sort))))],
  c.getD sort 0+a.d - aN (eV ((aJ ps ss sort y++aH ps ow sort).zip (shr (c.getD sort 0+a.d) (aJ ps ss sort y) (aH ps ow sort))))⟩
def yTo (c:List Int)(ps ss ow:List (List Int))(y:Int):Nat->Yr
 | 0=>⟨[],[],[],0⟩
 | n+1=>Gn c ps ss ow y (yTo c ps ss ow y n) n
def okO (ps:List (List Int))(r:List Int):Prop:=r.length=4/\0<=fl r 1/\fl r 1 < ps.length/\1<=fl r 3
theorem gF {ps ow:List (List Int)}{sort:Int}(h:∀ r∈ow,okO ps r):∀ r∈aH ps ow sort,okO ps r:=fun r hr=>h r (zAq.mp hr).1
theorem p8 (ps ow:List (List Int))(sort:Int):(aH ps ow sort).length<=ow.length:=List.length_filter_le _ _
theorem eF {ps ss:List (List Int)}{sort year:Int}(hu:un ps ss=none)(h5:∀ s∈ss,s.length=5)(okp:∀ r∈ps,okP r):∀ r∈aJ ps ss sort year,r.length=4/\1<=fl r 3/\fl r 3<=99:=fun r hr=>by
 obtain ⟨a,b,c,_⟩:=CK (sort:=sort) (year:=year) hu h5 okp ps.length (zA3 _) r hr;exact ⟨a,b,c⟩
theorem cY {ps ss:List (List Int)}{sort year:Int}(h:ps.length<=10):(aJ ps ss sort year).length<=80:=by
 have:=mL ps ss sort year ps.length;unfold aJ;lia
theorem El {c:List Int}{ps ss ow:List (List Int)}{y:Int}(hc:∀ x∈c,0<=x)(hu:un ps ss=none)(h5:∀ s∈ss,s.length=5)(okp:∀ r∈ps,okP r)(hl:ps.length<=10)(ho:∀ r∈ow,okO ps r):∀ n,0<=(yTo c ps ss ow y n).d
 | 0=>Int.le_refl _
 | n+1=>by
  have ih:=El (y:=y) hc hu h5 okp hl ho n
  have hw:0<=c.getD n 0+(yTo c ps ss ow y n).d:=by
   have:=jX hc n;lia
  exact (vd hw (eF hu h5 okp) (cY hl) fun r hr=>by have:=(gF ho r hr).2.2.2;lia).2
theorem vf (P:List (List Int×Int)):(eV P).length<=P.length:=by
 unfold eV;rw [zA1];exact List.length_filter_le _ _
theorem mR (P:List (List Int×Int)):(cP P).length<=P.length:=by
 unfold cP;rw [zA1];exact List.length_filter_le _ _
theorem CN {c:List Int}{ps ss ow:List (List Int)}{y:Int}(hl:ps.length<=10):∀ n,(yTo c ps ss ow y n).g.length<=n * (80+ow.length)/\(yTo c ps ss ow y n).k.length<=n * (80+ow.length)/\(yTo c ps ss ow y n).l.length=n
 | 0=>⟨zAp _,zAp _,rfl⟩
 | n+1=>by
  obtain ⟨a,b,d⟩:=CN (c:=c) (ss:=ss) (ow:=ow) (y:=y) hl n;have h1:=cY (ss:=ss) (sort:=n) (year:=y) hl;have h2:=p8 ps ow n
  have hz:∀ sh:List Int,((aJ ps ss n y++aH ps ow n).zip sh).length<=80+ow.length:=fun sh=>by
   rw [zAs,zA2];lia
  rw [Nat.succ_mul];refine ⟨?_,?_,?_⟩
  ·show ((yTo c ps ss ow y n).g++eV _).length<=_;rw [zA2];have:=vf ((aJ ps ss n y++aH ps ow n).zip (shr (c.getD n 0+(yTo c ps ss ow y n).d) (aJ ps ss n y) (aH ps ow n)));have:=hz (shr (c.getD n 0+(yTo c ps ss ow y n).d) (aJ ps ss n y) (aH ps ow n));lia
  ·show ((yTo c ps ss ow y n).k++cP _).length<=_;rw [zA2];have:=mR ((aJ ps ss n y++aH ps ow n).zip (shr (c.getD n 0+(yTo c ps ss ow y n).d) (aJ ps ss n y) (aH ps ow n)));have:=hz (shr (c.getD n 0+(yTo c ps ss ow y n).d) (aJ ps ss n y) (aH ps ow n));lia
  ·show ((yTo c ps ss ow y n).l++[_]).length=n+1;rw [zA2,d];rfl
theorem y_row {c:List Int}{ps ss ow:List (List Int)}{y:Int}:∀ n,(∀ r∈(yTo c ps ss ow y n).g,r.length=4)/\∀ r∈(yTo c ps ss ow y n).k,r.length=4
 | 0=>⟨fun r hr=>(by cases hr),fun r hr=>(by cases hr)⟩
 | n+1=>by
  obtain ⟨a,b⟩:=y_row (c:=c) (ps:=ps) (ss:=ss) (ow:=ow) (y:=y) n;refine ⟨fun r hr=>?_,fun r hr=>?_⟩
  ·rcases zA6.mp (show r∈(yTo c ps ss ow y n).g++eV _ from hr) with z | z
   ·exact a r z
   ·obtain ⟨p,_,rfl⟩:=zA5.mp z;rfl
  ·rcases zA6.mp (show r∈(yTo c ps ss ow y n).k++cP _ from hr) with z | z
   ·exact b r z
   ·obtain ⟨p,_,rfl⟩:=zA5.mp z;rfl
def vInt:V->Int
 | .int i=>i
 | _=>0
def jw (H:Hp)(a:Addr):List Int:=match H a with
 | some (.tup xs)=>xs.map vInt
 | _=>[]
theorem Bw {H:Hp}{a:Addr}{r:List Int}(e:H a=some (.tup (r.map V.int))):jw H a=r:=by
 unfold jw;rw [e];show (r.map V.int).map vInt=r;rw [zAr];exact List.map_id _
theorem qH {H:Hp}:∀ {xs:List V} {rs:List (List Int)},Els H xs rs->∃ ads:List Addr,xs=ads.map V.ref/\rs=ads.map (jw H)/\∀ a∈ads,H a=some (.tup ((jw H a).map V.int))
 | [],[],_=>⟨[],rfl,rfl,fun a ha=>(by cases ha)⟩
 | [],_::_,h=>by have:=h.1;simp at this
 | _::_,[],h=>by have:=h.1;simp at this
 | x::xs,r::rs,h=>by
  obtain ⟨t,e1,e2⟩:=h.2 0 r rfl;rw [List.getElem?_cons_zero] at e1;cases e1
  obtain ⟨ads,f1,f2,f3⟩:=qH (xs:=xs) (rs:=rs) ⟨by have:=h.1;simpa using this,fun i q e=>by
   obtain ⟨u,g1,g2⟩:=h.2 (i+1) q (by rw [List.getElem?_cons_succ];exact e);rw [List.getElem?_cons_succ] at g1
   exact ⟨u,g1,g2⟩⟩
  have er:=Bw e2;refine ⟨t::ads,by rw [f1];rfl,by rw [f2,zAk,er,<- f2],fun a ha=>?_⟩;rcases zAo.mp ha with z | z
  ·rw [z,er];exact e2
  ·exact f3 a z
theorem yQ {H H':Hp}{l':List Addr}(h:∀ a∈l',H' a=some (.tup ((jw H a).map V.int))):Els H' (l'.map V.ref) (l'.map (jw H)):=by
 refine ⟨by rw [zA1,zA1],fun i r e=>?_⟩;rw [zAb] at e
 cases z:l'[i]? with
 | none=>rw [z] at e;cases e
 | some a =>
  rw [z] at e;cases e;exact ⟨a,by rw [zAb,z];rfl,h a (zBa z)⟩
inductive SpYearI (vs:List V)(H:Hp)(Q:VK):Prop
 | mk:∀ bk y lo ac xc cs ap xp ps ah xs ss xo ow,(vs=[.ref bk,.int y,.ref lo])->(H bk=some (.tup [.ref ac,.ref ap,.ref ah]))->(RowsAt H ac xc cs)->((∀ r∈cs,r.length=3/\∀ x∈r,0<=x))->(0<=y)->(y < cs.length)->(RowsAt H ap xp ps)->(ps.length<=10)->((∀ r∈ps,okP r))->(RowsAt H ah xs ss)->(ss.length<=12)->((∀ s∈ss,s.length=5))->(un ps ss=none)->(H lo=some (.lst xo))->(Els H xo ow)->((∀ r∈ow,okO ps r))->(ow.length<=10000)->(∀ t g k tl xg xk H',Same H H'->H' t=some (.tup [.ref g,.ref k,.ref tl])->H g=none->H k=none->(g≠sysModules/\k≠sysModules)->H' g=some (.lst xg)->Els H' xg (srt (yTo (cs.getD y.toNat []) ps ss ow y 3).g)->H' k=some (.lst xk)->Els H' xk (srt (yTo (cs.getD y.toNat []) ps ss ow y 3).k)->H' tl=some (.tup ((yTo (cs.getD y.toNat []) ps ss ow y 3).l.map V.int))->Q (.ref t) H')->SpYearI  vs H Q
def yR:Sp:=fun vs H Q _=>SpYearI  vs H Q
theorem vg {ps ss:List (List Int)}(h:un ps ss=none)(h5:∀ s∈ss,s.length=5):∀ s∈ss,okS s:=fun s hs=>by
 obtain ⟨j,hj,e⟩:=List.getElem_of_mem hs;have:=yO h j hj;rw [getD_get hj,e] at this;exact mH (h5 s hs) this
theorem yS {D:Ends}{tb:TS}{σ:L2.St}{H:Hp}(R:Hp->Prop)(h:R H)(g:∀ H,R H->tb D σ H):tb D σ H:=g H h
variable {P:Program}{w:World}{K:PySem.W.Frag}{mg:Str->Option Value}{base:Heap}{f:Addr}{fd:FuncData}
theorem boot_sorted:bootBuiltins "sorted" = some (.builtin "sorted"):=by decide +kernel
theorem ndZ:(["row","promises","sort"]:List Str).Nodup:=by decide +kernel
theorem scZ1:FnScope ["book","year","owed","clips","promises","sales","gifts","lacking","left","down","sort","wool","claims","ahead","given","lacked"] ["book","year","owed"] (aK (top 52)):=fS
theorem Bx (F:Fun K "year_given" "year_given" (top 52) f fd)(T:Mg mg)(N:Nums mg)(Tr:mg "range" = none)(Ts:mg "sorted" = none)(c1:Cal P w K mg base 2 "claims_in" ["promises","sales","sort","year"] mO)(c2:Cal P w K mg base 8 "sort_given" ["wool","claims","owed"] yL)(c3:Cal P w K mg base 1 "sacks_of" ["rows"] jW):FnOk P w K mg base CX0 9 f fd ["book","year","owed"] yR:=by
 refine F.ok scZ1 (fun vs H Q E h=>?_) (fun av A outer s H vs Q E hr h=>?_)
 ·obtain ⟨bk,y,lo,ac,xc,cs,ap,xp,ps,ah,xs,ss,xo,ow,rfl,_⟩:=h;rfl
 ·obtain ⟨bk,y,lo,ac,xc,cs,ap,xp,ps,ah,xs,ss,xo,ow,rfl,eb,rc,okc,y0,y1,rp,lp,okp,rs,ls,h5,hu,eo,ma,rh,Lz,q⟩:=h;obtain ⟨t3,e3⟩:=N.sorts
  refine K92P.ok_b (aP ⟨cj (pv 0) (bU rfl (au (pgn 3 scZ1.nd) (au (aZ (i:=4) scZ1.nd rfl (Or.inr rfl)) (au (pgn 5 scZ1.nd) aY))))⟩
   (aP (gU 6 scZ1.nd (qg fj))
   (aP (gU 7 scZ1.nd (qg fj))
   (aP (gU 8 scZ1.nd (qg fj))
   (aP (gU 9 scZ1.nd DQ)
   (aP ⟨cV zB8 rfl (bN rfl Tr (aq (bK (v:=.int 3) rfl e3 ⟨_,rfl⟩) aa)) (aZ (i:=10) scZ1.nd rfl (Or.inr rfl))
    (jE (aP (gU 11 scZ1.nd (CG bC (xZ cM (xZ cM ⟨pv 3⟩ ⟨pv 1⟩ (fun _ _=>rfl)) ⟨pv 10⟩ (fun _ _=>rfl)) ⟨pv 9⟩))
    (aP (gU 12 scZ1.nd ⟨aD c1 hr (aq (pv 4) (aq (pv 5) (aq (pv 10) (aq (pv 1) aa))))⟩)
    (aP ⟨fU (i:=13) ["row","promises","sort"] [none,some 4,some 10] rfl scZ1.nd rfl (Or.inl rfl) (dG (pv 2)) (fun C fp pins s₂ H₂=>⟨pgn 0 ndZ,iJ (bw kY (pX (K92P.ix_tupK (K:=K) rfl) (pX (K92P.ix_tupK (K:=K) rfl) (pv 1) (pX (K92P.ix_tupK (K:=K) rfl) (pv 0) az)) az) (pv 2) (bF _)),pv 0⟩) (fun C=>cI (cI trivial)) ⟨rfl,rfl,rfl,rfl⟩⟩
    (aP ⟨cj (aD c2 hr (aq (pv 11) (aq (pv 12) (aq (pv 13) aa)))) (bU rfl (au (pgn 14 scZ1.nd) (au (pgn 15 scZ1.nd) aY)))⟩
    (aP (gU 9 scZ1.nd (CG cJ ⟨pv 11⟩ ⟨aD c3 hr (aq (pv 14) aa)⟩))
    (aP ⟨kJ (i:=6) scZ1.nd rfl (Or.inl rfl) (pv 14) qt⟩
    (aP ⟨kJ (i:=7) scZ1.nd rfl (Or.inl rfl) (pv 15) qt⟩
    (cG ⟨cT (uB zBg zBf zBe gK (pv 8) (aq (pv 9) aa))⟩)))))))))⟩
   (cG (tQ (tO (fW ⟨aQ fu rfl Ts boot_sorted (aq (pv 6) aa)⟩ (fW ⟨aQ fu rfl Ts boot_sorted (aq (pv 7) aa)⟩ (fW ⟨bO bH rfl T.tuple boot_tuple (aq (pv 8) aa)⟩ fj)))))))))))) ?_
  refine aF ?_;refine ⟨_,rfl,bk,_,rfl,SqT.of eb,rfl,_,_,rfl,_,_,rfl,_,_,rfl,rfl,?_⟩;dsimp only;refine aF (aX ?_);refine ⟨zL,fun lg D7=>?_⟩;refine aM ?_;dsimp only;refine aF (aX ?_);refine ⟨zL,fun lk sR=>?_⟩;refine aM ?_;dsimp only;refine aF (aX ?_);refine ⟨zL,fun ll gE=>?_⟩;refine aM ?_;dsimp only;refine aF (aX ?_);refine aM ?_;dsimp only;have s1:=Same.upd (o:=.lst []) D7;have s2:=Same.upd (o:=.lst []) sR;have s3:=Same.upd (o:=.lst []) gE;have LG:H lg=none:=D7;have LH:H lk=none:=s1.free sR;have LI:H ll=none:=(s1.trans s2).free gE
  have Jf:lg≠lk:=fun z=>by rw [<- z,aj] at sR;cases sR
  have Jg:lk≠ll:=fun z=>by rw [<- z,aj] at gE;cases gE
  have Jh:lg≠ll:=fun z=>by rw [<- z,s2 _ _ aj] at gE;cases gE
  refine yS (fun H1=>Same H H1/\H1 lg=some (.lst [])/\H1 lk=some (.lst [])/\H1 ll=some (.lst [])) ⟨(s1.trans s2).trans s3,s3 _ _ (s2 _ _ aj),s3 _ _ aj,aj⟩ fun H1 ⟨k1,xC,LJ,el1⟩=>?_;clear s1 s2 s3 D7 sR gE;have D8:y.toNat < cs.length:=by lia
  obtain ⟨tc,y8,Ji⟩:=rows_at rc y0 (show cs[y.toNat]?=some cs[y.toNat] from zA0 D8);have LK:cs.getD y.toNat []=cs[y.toNat]:=getD_get D8;have rj:=okc _ (zAh D8);rw [LK] at q;generalize cs[y.toNat]=c at q Ji rj;have ff:=vg hu h5;refine aF ?_;refine ⟨3,rfl,by decide,by decide,?_⟩;refine dW (lo:=0) (fun i σ Hc=>∃ df cx cy cE cK de xg xk,σ=[some (.ref bk),some (.int y),some (.ref lo),some (.ref ac),some (.ref ap),some (.ref ah),some (.ref lg),some (.ref lk),some (.ref ll),some (.int (yTo c ps ss ow y i).d),df,cx,cy,cE,cK,de]/\Same H Hc/\Hc lg=some (.lst xg)/\Els Hc xg (yTo c ps ss ow y i).g/\Hc lk=some (.lst xk)/\Els Hc xk (yTo c ps ss ow y i).k/\Hc ll=some (.lst ((yTo c ps ss ow y i).l.map V.int))) ?_ ?_ ?_
  ·exact ⟨none,none,none,none,none,none,[],[],rfl,k1,xC,Els.nil,LJ,Els.nil,el1⟩
  ·rintro i σ Hc hi ⟨df,cx,cy,cE,cK,de,xg,xk,rfl,k,eg,iL,ek,kQ,el⟩;have hi:i < 3:=hi;obtain ⟨QT,QU,LM⟩:=CN (c:=c) (ss:=ss) (ow:=ow) (y:=y) lp i;refine aM ?_;have z0:(0:Int)+(i:Int)=i:=by lia
   rw [z0];refine wY fun De Bz=>?_
   have LN:(c.map V.int)[i]?=some (.int (c.getD i 0)):=by
    have dQ:i < c.length:=by lia
    rw [zAb,zA7,zA0 dQ];rfl
   refine aF (aX ?_);refine ⟨_,rfl,_,rfl,ac,xc,y,.ref tc,rfl,rfl,SqT.of (k _ _ rc.e),y8,_,rfl,tc,_,i,.int (c.getD i 0),rfl,rfl,SqT.of (k _ _ Ji),bQ LN,_,rfl,_,_,rfl,rfl,?_⟩;refine aM ?_;dsimp only;have dn:=El (c:=c) (y:=y) rj.2 hu h5 okp lp rh i;have cn:=jX rj.2 i;refine aF (aX ?_);refine ⟨_,rfl,_,rfl,_,rfl,_,rfl,ap,xp,ps,ah,xs,ss,i,y,rfl,rp.same k,lp,okp,rs.same k,ls,ff,fun lc LO H2 s2 QV yB D9=>?_⟩;refine aM ?_;dsimp only;have k2:=k.trans s2;refine aF ?_;refine ⟨_,rfl,lo,rfl,⟨_,SqL.of (k2 _ _ eo)⟩,gD ow.length (fun j ys σ Hj=>Same H2 Hj/\(∃ o1,σ=[o1,some (.ref ap),some (.int i)])/\Els Hj ys (aH ps (ow.take j) i)) ⟨Same.refl _,⟨_,rfl⟩,Els.nil⟩ (by rw [sizeLine_eq];lia) ?_ ?_⟩
   ·rintro j ys σ Hj hj hy ⟨sc,⟨o1,rfl⟩,rd⟩;have kj:=k2.trans sc;have hX:SqL K Hj lo xo:=SqL.of (kj _ _ eo);obtain ⟨tr,ex,fq⟩:=ma.2 j ow[j] (zA0 hj);obtain ⟨o4,o5,o6,o7⟩:=rh _ (zAh hj);have Ee:=fq;rw [fM o4] at fq;obtain ⟨p,hp,ep,op⟩:=prom_ok okp o5 o6;obtain ⟨tp,f7,hV⟩:=rows_at rp o5 hp;rw [six_row op.1] at hV
    have dA:aH ps (ow.take (j+1)) i=aH ps (ow.take j) i++(if fl p 1=i then [ow[j]] else []):=by
     rw [zAj,zA0 hj];unfold aH;rw [show (some ow[j]).toList=[ow[j]] from rfl,List.filter_append];congr 1;by_cases h:fl p 1=i
     ·rw [zAx h,zBd (by rw [ep];exact zAt h)];rfl
     ·rw [zAu h,zBc (by rw [ep,decide_eq_true_eq];exact h)];rfl
    refine ⟨⟨_,_,hX,ex⟩,fun x H' yv R hR=>?_⟩;obtain ⟨rfl,yv⟩:=yv;have yv:=yv _ hX;rw [ex] at yv;cases yv;refine aM ?_;refine ⟨_,rfl,_,rfl,tr,_,1,.int (fl ow[j] 1),rfl,rfl,SqT.of (kj _ _ fq),rfl,ap,xp,_,.ref tp,rfl,rfl,SqT.of (kj _ _ rp.e),f7,tp,_,1,.int (fl p 1),rfl,rfl,SqT.of (kj _ _ hV),rfl,_,rfl,rfl,_,rfl,?_⟩;by_cases h:fl p 1=i
    ·rw [zAt (by rw [h])];refine bV ⟨_,rfl,hR _ _ _ (by rw [zA2];show ys.length+1<=j+1;lia) ⟨sc,⟨_,rfl⟩,?_⟩⟩;rw [dA,zAx h];exact rd.app (Els.one (kj _ _ Ee))
    ·rw [zB1 (fun z=>h (by injection z))];refine bI (hR _ _ _ (by lia) ⟨sc,⟨_,rfl⟩,?_⟩);rw [dA,zAu h,zAn];exact rd
   rintro ya σ Hj hy ⟨sc,_,nN⟩;rw [zAm] at nN;refine ⟨⟨_,SqL.of (sc _ _ (k2 _ _ eo)),by rw [ma.1];exact zA3 _⟩,fun la tI=>?_⟩;have sa:=sc.updR (o:=.lst ya) tI;have BA:=aj (H:=Hj) (a:=la) (o:=.lst ya);have nN:=nN.same (Same.upd (o:=.lst ya) tI);generalize upd Hj la (.lst ya)=H3 at sa BA nN ⊢;have k3:=k2.trans sa;have sH:=s2.trans sa;dsimp only;have BB:=eF (sort:=i) (year:=y) hu h5 okp;have yy:=cY (ss:=ss) (sort:=i) (year:=y) lp;have LP:=gF (sort:=i) rh;have QW:=p8 ps ow i;refine aF ?_;refine ⟨_,rfl,_,rfl,_,rfl,c.getD i 0+(yTo c ps ss ow y i).d,lc,LO,aJ ps ss i y,la,ya,aH ps ow i,rfl,sa _ _ yB,D9.same sa,BB,yy,by lia,BA,nN,fun r hr=>(LP r hr).1,by lia,fun t g kk kx ml H4 s4 et ng nk Jj mm LQ rk=>⟨t,_,rfl,SqT.of et,rfl,_,_,rfl,_,_,rfl,rfl,?_⟩⟩;have k4:=k3.trans s4;have EA:=sH.trans s4;have gl:=vf ((aJ ps ss i y++aH ps ow i).zip (shr (c.getD i 0+(yTo c ps ss ow y i).d) (aJ ps ss i y) (aH ps ow i)));have kl:=mR ((aJ ps ss i y++aH ps ow i).zip (shr (c.getD i 0+(yTo c ps ss ow y i).d) (aJ ps ss i y) (aH ps ow i)))
   have zl:((aJ ps ss i y++aH ps ow i).zip (shr (c.getD i 0+(yTo c ps ss ow y i).d) (aJ ps ss i y) (aH ps ow i))).length<=80+ow.length:=by
    rw [zAs,zA2];lia
   have e1:(yTo c ps ss ow y (i+1)).g=(yTo c ps ss ow y i).g++eV ((aJ ps ss i y++aH ps ow i).zip (shr (c.getD i 0+(yTo c ps ss ow y i).d) (aJ ps ss i y) (aH ps ow i))):=rfl;have e2:(yTo c ps ss ow y (i+1)).k=(yTo c ps ss ow y i).k++cP ((aJ ps ss i y++aH ps ow i).zip (shr (c.getD i 0+(yTo c ps ss ow y i).d) (aJ ps ss i y) (aH ps ow i))):=rfl;have e3:(yTo c ps ss ow y (i+1)).l=(yTo c ps ss ow y i).l++[c.getD i 0+(yTo c ps ss ow y i).d - aN (eV ((aJ ps ss i y++aH ps ow i).zip (shr (c.getD i 0+(yTo c ps ss ow y i).d) (aJ ps ss i y) (aH ps ow i))))]:=rfl;have e4:(yTo c ps ss ow y (i+1)).d=c.getD i 0+(yTo c ps ss ow y i).d - aN (eV ((aJ ps ss i y++aH ps ow i).zip (shr (c.getD i 0+(yTo c ps ss ow y i).d) (aJ ps ss i y) (aH ps ow i)))):=rfl
   have g4:∀ r∈eV ((aJ ps ss i y++aH ps ow i).zip (shr (c.getD i 0+(yTo c ps ss ow y i).d) (aJ ps ss i y) (aH ps ow i))),r.length=4:=fun r hr=>by
    obtain ⟨p,_,rfl⟩:=zA5.mp hr;rfl
   rw [e1,e2,e3,e4] at Bz;generalize eV ((aJ ps ss i y++aH ps ow i).zip (shr (c.getD i 0+(yTo c ps ss ow y i).d) (aJ ps ss i y) (aH ps ow i)))=GG at mm g4 gl Bz ⊢;generalize cP ((aJ ps ss i y++aH ps ow i).zip (shr (c.getD i 0+(yTo c ps ss ow y i).d) (aJ ps ss i y) (aH ps ow i)))=KK at rk kl Bz ⊢;dsimp only;refine aF (aX ?_);refine ⟨_,rfl,_,rfl,g,kx,GG,rfl,Jj,mm,g4,by lia,fun H5 s5=>⟨_,_,rfl,rfl,?_⟩⟩;refine aM ?_;dsimp only;have k5:=k4.trans s5;have y9:=EA.trans s5;have QX:g≠lg:=(aC (sH _ _ eg) ng).symm;have LR:kk≠lg:=(aC (sH _ _ eg) nk).symm;have Jk:=y9 _ _ eg;have LS:=y9 _ _ ek;have el5:=y9 _ _ el;refine aF ?_;refine ⟨_,rfl,_,rfl,lg,g,xg,kx,rfl,rfl,Jk,s5 _ _ Jj,by rw [iL.1,mm.1,sizeLine_eq];have:i * (80+ow.length)<=3 * (80+ow.length):=Nat.mul_le_mul_right _ (by lia);lia,?_⟩;dsimp only
   have EB:∀ b z,H5 b=some (.tup z)->upd H5 lg (.lst (xg++kx)) b=some (.tup z):=fun b z e=>by
    rw [aA fun w=>by rw [w,Jk] at e;cases e];exact e
   have k6:Same H (upd H5 lg (.lst (xg++kx))):=fun b o e=>by
    rw [aA (aC e LG)];exact k5 _ _ e
   have Jl:=aj (H:=H5) (a:=lg) (o:=.lst (xg++kx));have zd:=((iL.same y9).app (mm.same s5)).keep EB;have EC:upd H5 lg (.lst (xg++kx)) lk=some (.lst xk):=by rw [aA Jf.symm];exact LS
   have ze:upd H5 lg (.lst (xg++kx)) kk=some (.lst ml):=by rw [aA LR];exact s5 _ _ LQ
   have Jm:upd H5 lg (.lst (xg++kx)) ll=some (.lst ((yTo c ps ss ow y i).l.map V.int)):=by rw [aA Jh.symm];exact el5
   have zh:=(kQ.same y9).keep EB;have nX:=(rk.same s5).keep EB;generalize upd H5 lg (.lst (xg++kx))=H6 at k6 Jl zd EC ze Jm zh nX ⊢;refine aF ?_;refine ⟨_,rfl,_,rfl,lk,kk,xk,ml,rfl,rfl,EC,ze,by rw [kQ.1,rk.1,sizeLine_eq];have:i * (80+ow.length)<=3 * (80+ow.length):=Nat.mul_le_mul_right _ (by lia);lia,?_⟩;dsimp only
   have Jn:∀ b z,H6 b=some (.tup z)->upd H6 lk (.lst (xk++ml)) b=some (.tup z):=fun b z e=>by
    rw [aA fun w=>by rw [w,EC] at e;cases e];exact e
   have k7:Same H (upd H6 lk (.lst (xk++ml))):=fun b o e=>by
    rw [aA (aC e LH)];exact k6 _ _ e
   have Jo:upd H6 lk (.lst (xk++ml)) lg=some (.lst (xg++kx)):=by rw [aA Jf];exact Jl
   have zi:=zd.keep Jn;have Jp:=aj (H:=H6) (a:=lk) (o:=.lst (xk++ml));have zk:=(zh.app nX).keep Jn;have BC:upd H6 lk (.lst (xk++ml)) ll=some (.lst ((yTo c ps ss ow y i).l.map V.int)):=by rw [aA Jg.symm];exact Jm
   generalize upd H6 lk (.lst (xk++ml))=H7 at k7 Jo zi Jp zk BC ⊢;refine ⟨_,rfl,.inl ⟨rfl,_,SqL.of BC⟩,_,rfl,ll,_,_,rfl,rfl,BC,by rw [zA1,LM,sizeLine_eq];lia,?_⟩
   have Jq:∀ {o:HO} b z,H7 b=some (.tup z)->upd H7 ll o b=some (.tup z):=fun b z e=>by
    rw [aA fun w=>by rw [w,BC] at e;cases e];exact e
   refine Bz _ _ ⟨_,_,_,_,_,_,xg++kx,xk++ml,rfl,fun b o e=>?_,?_,zi.keep Jq,?_,zk.keep Jq,?_⟩
   ·rw [aA (aC e LI)];exact k7 _ _ e
   ·rw [aA Jh];exact Jo
   ·rw [aA Jg];exact Jp
   ·rw [aj,zA4];rfl
  ·rintro σ Hc ⟨df,cx,cy,cE,cK,de,xg,xk,rfl,k,eg,iL,ek,kQ,el⟩;obtain ⟨LU,LV⟩:=y_row (c:=c) (ps:=ps) (ss:=ss) (ow:=ow) (y:=y) 3;have q:∀ t g k tl xg xk H',Same H H'->H' t=some (.tup [.ref g,.ref k,.ref tl])->H g=none->H k=none->(g≠sysModules/\k≠sysModules)->H' g=some (.lst xg)->Els H' xg (srt (yTo c ps ss ow y 3).g)->H' k=some (.lst xk)->Els H' xk (srt (yTo c ps ss ow y 3).k)->H' tl=some (.tup ((yTo c ps ss ow y 3).l.map V.int))->Q (.ref t) H':=q;have iL:Els Hc xg (yTo c ps ss ow y 3).g:=iL;have kQ:Els Hc xk (yTo c ps ss ow y 3).k:=kQ;have el:Hc ll=some (.lst ((yTo c ps ss ow y 3).l.map V.int)):=el;obtain ⟨ag,LW,Jr,Js⟩:=qH iL;obtain ⟨ak,LX,sQ,Jt⟩:=qH kQ;subst LW LX;dsimp only
   have nn:∀ {rs:List (List Int)} {ads:List Addr},rs=ads.map (jw Hc)->(∀ r∈rs,r.length=4)->∀ a∈ads,jw Hc a≠[]:=fun {rs ads} h h4 a ha z=>by
    have:=h4 (jw Hc a) (by rw [h];exact List.mem_map_of_mem ha);rw [z] at this;cases this
   refine ⟨_,rfl,lg,ag,jw Hc,rfl,SqL.of eg,fun a ha=>⟨SqT.of (Js a ha),nn Jr LU a ha⟩,fun g l1 hg ED Ju EE=>?_⟩;have sg:=Same.upd (o:=.lst (l1.map V.ref)) hg;refine ⟨_,rfl,lk,ak,jw Hc,rfl,SqL.of (sg _ _ ek),fun a ha=>⟨SqT.of (sg _ _ (Jt a ha)),nn sQ LV a ha⟩,fun kk l2 hk LY Jv LZ=>?_⟩;have sk:=sg.updR (o:=.lst (l2.map V.ref)) hk;refine ⟨_,rfl,ll,_,rfl,.inl ⟨SqL.of (sk _ _ el),fun tl Jw=>?_⟩⟩;have sl:=sk.updR (o:=.tup ((yTo c ps ss ow y 3).l.map V.int)) Jw;refine ⟨zL,fun t ht=>?_⟩;have st:=sl.updR (o:=.tup [.ref g,.ref kk,.ref tl]) ht;have u1:=Same.upd (o:=.lst (l2.map V.ref)) hk;have u2:=Same.upd (o:=.tup ((yTo c ps ss ow y 3).l.map V.int)) Jw;have u3:=Same.upd (o:=.tup [.ref g,.ref kk,.ref tl]) ht;have L0:l1.map (jw Hc)=srt (yTo c ps ss ow y 3).g:=yP (by rw [Jr];exact Ju.map _) (List.pairwise_map.mpr EE);have L3:l2.map (jw Hc)=srt (yTo c ps ss ow y 3).k:=yP (by rw [sQ];exact Jv.map _) (List.pairwise_map.mpr LZ);refine q t g kk tl _ _ _ (k.trans st) aj (k.free hg) (k.free (sg.free hk)) ⟨ED,LY⟩ (u3 _ _ (u2 _ _ (u1 _ _ aj))) ?_ (u3 _ _ (u2 _ _ aj)) ?_ (u3 _ _ aj)
   ·rw [<- L0];exact yQ fun a ha=>st _ _ (Js a (Ju.mem_iff.mp ha))
   ·rw [<- L3];exact yQ fun a ha=>st _ _ (Jt a (Jv.mem_iff.mp ha))
def cnt (ps ow:List (List Int)):Nat->Nat
 | 0=>0
 | n+1=>cnt ps ow n+(aH ps ow n).length
theorem cnt_nil (ps:List (List Int)):∀ n,cnt ps [] n=0
 | 0=>rfl
 | n+1=>by
  unfold cnt;rw [cnt_nil ps n];rfl
theorem cnt_cons (ps ow:List (List Int))(r:List Int):∀ n,cnt ps (r::ow) n=cnt ps ow n+(if 0<=fl (ps.getD (fl r 1).toNat []) 1/\fl (ps.getD (fl r 1).toNat []) 1 < n then 1 else 0)
 | 0=>by
  rw [zAu (by lia)];rfl
 | n+1=>by
  show cnt ps (r::ow) n+(aH ps (r::ow) n).length=cnt ps ow n+(aH ps ow n).length+_;rw [cnt_cons ps ow r n];unfold aH;by_cases h:fl (ps.getD (fl r 1).toNat []) 1=n
  ·rw [zBd (p:=fun (r:List Int)=>decide (fl (ps.getD (fl r 1).toNat []) 1=(n:Int))) (zAt h),zAe,zAu (by lia),zAx (by lia)];lia
  ·rw [zBc (p:=fun (r:List Int)=>decide (fl (ps.getD (fl r 1).toNat []) 1=(n:Int))) (by rw [decide_eq_true_eq];exact h)];by_cases h2:0<=fl (ps.getD (fl r 1).toNat []) 1/\fl (ps.getD (fl r 1).toNat []) 1 < n
   ·rw [zAx h2,zAx (by lia)];lia
   ·rw [zAu h2,zAu (by lia)];lia
theorem yU (ps:List (List Int))(n:Nat):∀ ow:List (List Int),cnt ps ow n<=ow.length
 | []=>by rw [cnt_nil];exact zA3 _
 | r::ow=>by
  rw [cnt_cons,zAe];have:=yU ps n ow;split <;> lia
theorem CP {c:List Int}{ps ss ow:List (List Int)}{y:Int}(hl:ps.length<=10):∀ n,(yTo c ps ss ow y n).k.length<=80 * n+cnt ps ow n
 | 0=>zAp _
 | n+1=>by
  have a:=CP (c:=c) (ss:=ss) (ow:=ow) (y:=y) hl n;have h1:=cY (ss:=ss) (sort:=n) (year:=y) hl;have h3:=mR ((aJ ps ss n y++aH ps ow n).zip (shr (c.getD n 0+(yTo c ps ss ow y n).d) (aJ ps ss n y) (aH ps ow n)));show ((yTo c ps ss ow y n).k++cP _).length<=80 * (n+1)+(cnt ps ow n+(aH ps ow n).length);rw [zA2];rw [zAs,zA2] at h3;lia
theorem Gp {c:List Int}{ps ss ow:List (List Int)}{y:Int}(hu:un ps ss=none)(h5:∀ s∈ss,s.length=5)(okp:∀ r∈ps,okP r)(ho:∀ r∈ow,okO ps r):∀ n,∀ r∈(yTo c ps ss ow y n).k,okO ps r
 | 0,r,hr=>by cases hr
 | n+1,r,hr=>by
  rcases zA6.mp (show r∈(yTo c ps ss ow y n).k++cP _ from hr) with z | z
  ·exact Gp (c:=c) (y:=y) hu h5 okp ho n r z
  ·obtain ⟨p,hp,rfl⟩:=zA5.mp z;obtain ⟨h1,h2⟩:=zAq.mp hp;have h2:=zB6 h2;have hm:p.1∈aJ ps ss n y++aH ps ow n:=(List.of_mem_zip (show (p.1,p.2)∈_ from h1)).1
   have hn:0<=fl p.1 1/\fl p.1 1 < ps.length:=by
    rcases zA6.mp hm with w | w
    ·obtain ⟨_,_,_,_,a,b⟩:=CK (sort:=n) (year:=y) hu h5 okp ps.length (zA3 _) p.1 w;exact ⟨a,b⟩
    ·have:=gF ho p.1 w;exact ⟨this.2.1,this.2.2.1⟩
   refine ⟨rfl,hn.1,hn.2,?_⟩;show 1<=fl p.1 3 - p.2;lia
def dF (cs ps ss:List (List Int)):Nat->List (List Int)
 | 0=>[]
 | n+1=>srt (yTo (cs.getD n []) ps ss (dF cs ps ss n) n 3).k
theorem su {cs ps ss:List (List Int)}(hl:ps.length<=10)(hu:un ps ss=none)(h5:∀ s∈ss,s.length=5)(okp:∀ r∈ps,okP r):∀ n,(∀ r∈dF cs ps ss n,okO ps r)/\(dF cs ps ss n).length<=240 * n
 | 0=>⟨fun r hr=>(by cases hr),zA3 _⟩
 | n+1=>by
  obtain ⟨a,b⟩:=su (cs:=cs) hl hu h5 okp n;have pm:=List.mergeSort_perm (yTo (cs.getD n []) ps ss (dF cs ps ss n) n 3).k rle;refine ⟨fun r hr=>Gp (c:=cs.getD n []) (y:=n) hu h5 okp a 3 r (pm.mem_iff.mp hr),?_⟩;show (srt (yTo (cs.getD n []) ps ss (dF cs ps ss n) n 3).k).length<=_;unfold srt;rw [pm.length_eq];have:=CP (c:=cs.getD n []) (ss:=ss) (ow:=dF cs ps ss n) (y:=n) hl 3;have:=yU ps 3 (dF cs ps ss n);lia
def Gq (cs ps ss:List (List Int))(j:Nat):Yr:=yTo (cs.getD j []) ps ss (dF cs ps ss j) j 3
def YAt (H0:Hp)(l:Addr)(cs ps ss:List (List Int))(H:Hp)(a:Addr)(j:Nat):Prop:=∃ g k tl xg xk,H a=some (.tup [.ref g,.ref k,.ref tl])/\H0 g=none/\H0 k=none/\g≠l/\k≠l/\H g=some (.lst xg)/\Els H xg (srt (Gq cs ps ss j).g)/\H k=some (.lst xk)/\Els H xk (dF cs ps ss (j+1))/\H tl=some (.tup ((Gq cs ps ss j).l.map V.int))/\(g≠sysModules/\k≠sysModules)
theorem YAt.keep {H0 H H':Hp}{l a:Addr}{cs ps ss:List (List Int)}{j:Nat}(h:YAt H0 l cs ps ss H a j)(k:∀ b o,b≠l->H b=some o->H' b=some o)(hl:∃ xs,H l=some (.lst xs)):YAt H0 l cs ps ss H' a j:=by
 obtain ⟨xs,hl⟩:=hl;obtain ⟨g,kk,tl,xg,xk,e1,n1,n2,d1,d2,e2,e3,e4,e5,e6,e7⟩:=h
 have nt:∀ b z,H b=some (.tup z)->b≠l:=fun b z e w=>by rw [w,hl] at e;cases e
 exact ⟨g,kk,tl,xg,xk,k _ _ (nt _ _ e1) e1,n1,n2,d1,d2,k _ _ d1 e2,e3.keep fun b z e=>k _ _ (nt _ _ e) e,k _ _ d2 e4,e5.keep fun b z e=>k _ _ (nt _ _ e) e,k _ _ (nt _ _ e6) e6,e7⟩
inductive SpYearsI (vs:List V)(H:Hp)(Q:VK):Prop
 | mk:∀ bk y ac xc cs ap xp ps ah xs ss,(vs=[.ref bk,.int y])->(H bk=some (.tup [.ref ac,.ref ap,.ref ah]))->(RowsAt H ac xc cs)->((∀ r∈cs,r.length=3/\∀ x∈r,0<=x))->(cs.length<=20)->(0<=y)->(y < cs.length)->(RowsAt H ap xp ps)->(ps.length<=10)->((∀ r∈ps,okP r))->(RowsAt H ah xs ss)->(ss.length<=12)->((∀ s∈ss,s.length=5))->(un ps ss=none)->(∀ l (ts:List Addr) H',Same H H'->H l=none->H' l=some (.lst (ts.map V.ref))->(ts.length:Int)=y+1->(∀ j a,ts[j]?=some a->YAt H l cs ps ss H' a j)->Q (.ref l) H')->SpYearsI  vs H Q
def vh:Sp:=fun vs H Q _=>SpYearsI  vs H Q
theorem scYB:FnScope ["book","year","years","owed","at","gifts","left"] ["book","year"] (aK (top 53)):=fS
theorem yV (F:Fun K "years_given" "years_given" (top 53) f fd)(Tr:mg "range" = none)(c1:Cal P w K mg base 9 "year_given" ["book","year","owed"] yR):FnOk P w K mg base CX0 10 f fd ["book","year"] vh:=by
 refine F.ok scYB (fun vs H Q E h=>?_) (fun av A outer s H vs Q E hr h=>?_)
 ·obtain ⟨bk,y,ac,xc,cs,ap,xp,ps,ah,xs,ss,rfl,_⟩:=h;rfl
 ·obtain ⟨bk,y,ac,xc,cs,ap,xp,ps,ah,xs,ss,rfl,eb,rc,okc,lc,y0,y1,rp,lp,okp,rs,ls,h5,hu,q⟩:=h
  refine ⟨_,aB (pss 2 scYB.nd (dN aa))
   (aB (pss 3 scYB.nd (dN aa))
   (aB (cV zB8 rfl (bN rfl Tr (aq (aV bC (pv 1) az) aa)) (pgn 4 scYB.nd)
    (aB (cj (aD c1 hr (aq (pv 0) (aq (pv 4) (aq (pv 3) aa)))) (bU rfl (au (pgn 5 scYB.nd) (au (pgn 3 scYB.nd) (au (pgn 6 scYB.nd) aY)))))
    (aG (cT (uB zBg zBf zBe gK (pv 2) (aq (bJ (aq (pv 5) (aq (pv 3) (aq (pv 6) aa)))) aa))))))
   (aG (aR (pv 2))))),?_⟩
  refine aF (aX ?_);refine ⟨zL,fun l hl=>?_⟩;refine aM ?_;dsimp only;refine aF (aX ?_);refine ⟨zL,fun EF dE=>?_⟩;refine aM ?_;dsimp only;have s1:=Same.upd (o:=.lst []) hl;have s2:=Same.upd (o:=.lst []) dE
  have L4:EF≠l:=fun z=>by rw [z,aj] at dE;cases dE
  refine yS (fun H1=>Same H H1/\H1 l=some (.lst [])/\H1 EF=some (.lst [])) ⟨s1.trans s2,s2 _ _ aj,aj⟩ fun H1 ⟨k1,el1,L5⟩=>?_;refine aF ?_;refine ⟨_,rfl,_,_,rfl,rfl,y+1,rfl,by lia,by lia,?_⟩;refine dW (lo:=0) (fun i σ Hc=>∃ x4 x5 x6 lo xo,∃ ts:List Addr,σ=[some (.ref bk),some (.int y),some (.ref l),some (.ref lo),x4,x5,x6]/\Same H Hc/\Hc l=some (.lst (ts.map V.ref))/\ts.length=i/\(∀ j a,ts[j]?=some a->YAt H l cs ps ss Hc a j)/\lo≠l/\Hc lo=some (.lst xo)/\Els Hc xo (dF cs ps ss i)) ?_ ?_ ?_
  ·exact ⟨none,none,none,EF,[],[],rfl,k1,el1,rfl,fun j a e=>(by simp at e),L4,L5,Els.nil⟩
  ·rintro i σ Hc hi ⟨x4,x5,x6,lo,xo,ts,rfl,k,el,lt,hy,dl,eo,ma⟩;obtain ⟨rh,L6⟩:=su (cs:=cs) lp hu h5 okp i;refine aM ?_;have z0:(0:Int)+(i:Int)=i:=by lia
   rw [z0];refine aF ?_;refine ⟨_,rfl,_,rfl,_,rfl,bk,i,lo,ac,xc,cs,ap,xp,ps,ah,xs,ss,xo,dF cs ps ss i,rfl,k _ _ eb,rc.same k,okc,by lia,by lia,rp.same k,lp,okp,rs.same k,ls,h5,hu,eo,ma,rh,by lia,fun t g kk tl xg xk H2 s2 et ng nk ED eg iL ek kQ Jx=>?_⟩;rw [zAi] at iL kQ Jx;refine ⟨t,_,rfl,SqT.of et,rfl,_,_,rfl,_,_,rfl,_,_,rfl,rfl,?_⟩;dsimp only;have k2:=k.trans s2;have el2:=s2 _ _ el;have dg:g≠l:=(aC el ng).symm;have dk:kk≠l:=(aC el nk).symm;refine ⟨_,rfl,.inl ⟨rfl,_,SqL.of el2⟩,_,rfl,_,rfl,_,rfl,zL,fun tt BD=>⟨l,_,_,rfl,rfl,Same.upd BD _ _ el2,by rw [zA1,lt,sizeLine_eq];lia,?_⟩⟩;have s3:=Same.upd (o:=.tup [.ref g,.ref kk,.ref tl]) BD
   have nt:tt≠l:=fun z=>by rw [z,el2] at BD;cases BD
   have kp:∀ {o:HO} b u,b≠l->H2 b=some u->upd (upd H2 tt (.tup [.ref g,.ref kk,.ref tl])) l o b=some u:=fun b u n e=>by
    rw [aA n];exact s3 _ _ e
   have ke:∀ {o:HO} b z,H2 b=some (.tup z)->upd (upd H2 tt (.tup [.ref g,.ref kk,.ref tl])) l o b=some (.tup z):=fun b z e=>kp b _ (fun w=>by rw [w,el2] at e;cases e) e;refine ⟨_,_,_,kk,xk,ts++[tt],rfl,fun b o e=>?_,?_,by rw [zA2,lt];rfl,fun j a e=>?_,dk,kp _ _ dk ek,kQ.keep ke⟩
   ·exact kp _ _ (aC e hl) (k2 _ _ e)
   ·rw [aj,zA4];rfl
   ·by_cases hj:j < ts.length
    ·rw [zB5 hj] at e;exact (hy j a e).keep (fun b o n z=>kp _ _ n (s2 _ _ z)) ⟨_,el⟩
    ·have nE:j=i:=by
      have:=(zAa.mp e).1;rw [zA2] at this;simp at this;lia
     subst nE;rw [zB7 (by lia),lt,Nat.sub_self] at e;cases e;exact ⟨g,kk,tl,xg,xk,by rw [aA nt];exact aj,k.free ng,k.free nk,dg,dk,kp _ _ dg eg,iL.keep ke,kp _ _ dk ek,kQ.keep ke,ke _ _ Jx,ED⟩
  ·rintro σ Hc ⟨x4,x5,x6,lo,xo,ts,rfl,k,el,lt,hy,dl,eo,ma⟩;exact ⟨_,rfl,q l ts Hc k hl el (by rw [lt];lia) hy⟩
inductive SpRefBI (vs:List V)(H:Hp)(Q:VK):Prop
 | mk:∀ S v d,(vs=[v])->(IsTh S H v d)->(sz d<=4000)->(gZ d=true)->(∀ H',Same H H'->Q .non H')->SpRefBI  vs H Q
def yW:Sp:=fun vs H Q _=>SpRefBI  vs H Q
inductive SpRefYI (vs:List V)(H:Hp)(Q:VK):Prop
 | mk:∀ ac xc cs y,(vs=[.ref ac,.int y])->(RowsAt H ac xc cs)->(0<=y)->(y < cs.length)->(∀ H',Same H H'->Q .non H')->SpRefYI  vs H Q
def ue:Sp:=fun vs H Q _=>SpRefYI  vs H Q
theorem Gr:FnScope ["thing","least","most"] ["thing","least","most"] (aK (top 13)):=fS
theorem nM (F:Fun K "is_whole_from" "is_whole_from" (top 13) f fd)(c1:Cal P w K mg base 1 "is_whole" ["thing"] (spT cR)):FnOk P w K mg base CX0 2 f fd ["thing","least","most"] (jn jN):=by
 refine F.ok Gr (fun vs H Q E h=>?_) (fun av A outer s H vs Q E hr h=>?_)
 ·obtain ⟨S,v,d,n,m,rfl,_⟩:=h;rfl
 ·obtain ⟨S,v,d,n,m,rfl,th,hz,q⟩:=h;refine ⟨_,aG (aR (cg (aD c1 hr (aU (pv 0) aa)) (dB (cC bY bY (pv 1) (pv 0) (pv 2))))),?_⟩;refine ⟨_,rfl,S,v,d,rfl,th,hz,fun H1 s1=>⟨_,rfl,?_⟩⟩;have fin:=q H1 s1;unfold jN at fin
  cases e:cR d with
  | false =>
   rw [e] at fin;exact bI fin
  | true =>
   rw [e] at fin;obtain ⟨i,rfl,rfl⟩:=jq th e;exact bV (cB (eO rfl) (eO rfl) (eO rfl) _ fin)
theorem Gs:FnScope ["thing"] ["thing"] (aK (top 37)):=fS
theorem By (F:Fun K "refuse_no_book" "refuse_no_book" (top 37) f fd)(c1:Cal P w K mg base 6 "is_book" ["thing"] (spT gZ)):FnOk P w K mg base CX0 7 f fd ["thing"] yW:=by
 refine F.ok Gs (fun vs H Q E h=>?_) (fun av A outer s H vs Q E hr h=>?_)
 ·obtain ⟨S,v,d,rfl,_⟩:=h;rfl
 ·obtain ⟨S,v,d,rfl,th,hz,hb,q⟩:=h;refine ⟨_,aG (bW (cH (dq (aD c1 hr (aU (pv 0) aa)))) (aG dH) bf),?_⟩;refine ⟨_,rfl,S,v,d,rfl,th,hz,fun H1 s1=>⟨_,rfl,?_⟩⟩;rw [hb];exact bI (q _ s1)
theorem Gu:FnScope ["clips","year"] ["clips","year"] (aK (top 54)):=fS
theorem BJ (F:Fun K "refuse_no_year_of" "refuse_no_year_of" (top 54) f fd)(T:Mg mg)(c1:Cal P w K mg base 2 "is_whole_from" ["thing","least","most"] (jn jN)):FnOk P w K mg base CX0 3 f fd ["clips","year"] ue:=by
 refine F.ok Gu (fun vs H Q E h=>?_) (fun av A outer s H vs Q E hr h=>?_)
 ·obtain ⟨ac,xc,cs,y,rfl,_⟩:=h;rfl
 ·obtain ⟨ac,xc,cs,y,rfl,rc,y0,y1,q⟩:=h;refine ⟨_,aG (bW (cH (dq (aD c1 hr (aq (pv 1) (aq az (aq (aV cJ (aQ bT rfl T.len PySem.boot_len (aq (pv 0) aa)) az) aa)))))) (aG dH) bf),?_⟩;refine ⟨_,rfl,_,rfl,ac,_,rfl,.inr (SqT.of rc.e),_,_,rfl,rfl,fun _=>False,.int y,.int y,0,_,rfl,.int _,(by show 1<=4000;decide),fun H1 s1=>⟨_,rfl,?_⟩⟩
  have e:jN (.int y) 0 ((xc.length:Int) - 1)=true:=by
   show (true && (decide (0<=y) && decide (y<=(xc.length:Int) - 1)))=true;rw [zAt y0,zAt (by rw [rc.l];lia)];rfl
  rw [e];exact bI (q _ s1)
structure BookAt (H:Hp)(bk ac:Addr)(xc:List V)(cs:List (List Int))(ap:Addr)(xp:List V)(ps:List (List Int))(ah:Addr)(xs:List V)(ss:List (List Int)):Prop where
 e:H bk=some (.tup [.ref ac,.ref ap,.ref ah])
 rc:RowsAt H ac xc cs
 okc:∀ r∈cs,r.length=3/\∀ x∈r,0<=x
 lc:cs.length<=20
 rp:RowsAt H ap xp ps
 lp:ps.length<=10
 okp:∀ r∈ps,okP r
 rs:RowsAt H ah xs ss
 ls:ss.length<=12
 h5:∀ s∈ss,s.length=5
 un:un ps ss=none
theorem BookAt.same {H H':Hp}{bk ac:Addr}{xc:List V}{cs:List (List Int)}{ap:Addr}{xp:List V}{ps:List (List Int)}{ah:Addr}{xs:List V}{ss:List (List Int)}(b:BookAt H bk ac xc cs ap xp ps ah xs ss)(s:Same H H'):BookAt H' bk ac xc cs ap xp ps ah xs ss :=
 ⟨s _ _ b.e,b.rc.same s,b.okc,b.lc,b.rp.same s,b.lp,b.okp,b.rs.same s,b.ls,b.h5,b.un⟩
def yX (R:List (List Int)->List (List Int)->List (List Int)->Int->VK->Hp->Prop):Sp:=fun vs H Q _=>∃ S bk y d ac xc cs ap xp ps ah xs ss,vs=[.ref bk,.int y]/\IsTh S H (.ref bk) d/\sz d<=4000/\gZ d=true/\BookAt H bk ac xc cs ap xp ps ah xs ss/\0<=y/\y < cs.length/\R cs ps ss y Q H
def Em:List (List Int)->List (List Int)->List (List Int)->Int->VK->Hp->Prop:=fun _ _ _ _ Q H=>∀ H',Same H H'->Q .non H'
theorem Gv:FnScope ["book","year"] ["book","year"] (aK (top 55)):=fS
theorem yZ (F:Fun K "refuse_no_year" "refuse_no_year" (top 55) f fd)(c1:Cal P w K mg base 7 "refuse_no_book" ["thing"] yW)(c2:Cal P w K mg base 3 "refuse_no_year_of" ["clips","year"] ue):FnOk P w K mg base CX0 8 f fd ["book","year"] (yX Em):=by
 refine F.ok Gv (fun vs H Q E h=>?_) (fun av A outer s H vs Q E hr h=>?_)
 ·obtain ⟨S,bk,y,d,ac,xc,cs,ap,xp,ps,ah,xs,ss,rfl,_⟩:=h;rfl
 ·obtain ⟨S,bk,y,d,ac,xc,cs,ap,xp,ps,ah,xs,ss,rfl,th,hz,hb,B,y0,y1,q⟩:=h;refine ⟨_,aB (cT (aD c1 hr (aq (pv 0) aa))) (aG (cT (aD c2 hr (aq (pX cM (pv 0) az) (aq (pv 1) aa))))),?_⟩;refine aF ?_;refine ⟨_,rfl,S,_,d,rfl,th,hz,hb,fun H1 s1=>?_⟩;dsimp only;have B1:=B.same s1;exact ⟨_,rfl,bk,_,0,.ref ac,rfl,rfl,SqT.of B1.e,rfl,_,rfl,ac,xc,cs,y,rfl,B1.rc,y0,y1,fun H2 s2=>q _ (s1.trans s2)⟩
def CQ:List (List Int)->List (List Int)->List (List Int)->Int->VK->Hp->Prop:=fun cs ps ss y Q H=>∀ k xk H',Same H H'->H k=none->k≠sysModules->H' k=some (.lst xk)->Els H' xk (dF cs ps ss (y.toNat+1))->Q (.ref k) H'
def xm (R:List (List Int)->List (List Int)->List (List Int)->Int->VK->Hp->Prop):Sp:=fun vs H Q _=>∃ bk y ac xc cs ap xp ps ah xs ss,vs=[.ref bk,.int y]/\BookAt H bk ac xc cs ap xp ps ah xs ss/\0<=y/\y < cs.length/\R cs ps ss y Q H
theorem scYF1:FnScope ["book","year","gifts","owed","left"] ["book","year"] (aK (top 57)):=fS
theorem za (F:Fun K "owed_behind" "owed_behind" (top 57) f fd)(c2:Cal P w K mg base 10 "years_given" ["book","year"] vh):FnOk P w K mg base CX0 11 f fd ["book","year"] (xm CQ):=by
 refine F.ok scYF1 (fun vs H Q E h=>?_) (fun av A outer s H vs Q E hr h=>?_)
 ·obtain ⟨bk,y,ac,xc,cs,ap,xp,ps,ah,xs,ss,rfl,_⟩:=h;rfl
 ·obtain ⟨bk,y,ac,xc,cs,ap,xp,ps,ah,xs,ss,rfl,B,y0,y1,q⟩:=h
  refine ⟨_,aB (cj (pX bL (aD c2 hr (aq (pv 0) (aq (pv 1) aa))) (pv 1)) (bU rfl (au (pgn 2 scYF1.nd) (au (pgn 3 scYF1.nd) (au (pgn 4 scYF1.nd) aY)))))
   (aG (aR (pv 3))),?_⟩
  refine aF ?_;refine ⟨_,rfl,_,rfl,bk,y,ac,xc,cs,ap,xp,ps,ah,xs,ss,rfl,B.e,B.rc,B.okc,B.lc,y0,y1,B.rp,B.lp,B.okp,B.rs,B.ls,B.h5,B.un,fun l ts H2 s2 nl el lt hy=>?_⟩;have hl:y.toNat < ts.length:=by lia
  obtain ⟨g,k,tl,xg,xk,e1,n1,n2,d1,d2,e2,e3,e4,e5,e6,e7⟩:=hy y.toNat ts[y.toNat] (zA0 hl)
  have f7:atI (ts.map V.ref) y=some (.ref ts[y.toNat]):=by
   have:(ts.map V.ref)[y.toNat]?=some (.ref ts[y.toNat]):=by rw [zAb,zA0 hl];rfl
   have:=bQ this;rw [show ((y.toNat:Nat):Int)=y by lia] at this;exact this
  refine ⟨_,rfl,l,_,y,.ref ts[y.toNat],rfl,rfl,SqL.of el,f7,ts[y.toNat],_,rfl,SqT.of e1,rfl,_,_,rfl,_,_,rfl,_,_,rfl,rfl,?_⟩;dsimp only;exact ⟨_,rfl,q k xk H2 s2 n2 e7.2 e4 e5⟩
def En (ps:List (List Int))(r:List Int):Int:=fl (ps.getD (fl r 1).toNat []) 1
theorem zb (rs:List (List Int)):(srt rs).Perm rs:=List.mergeSort_perm rs rle
theorem zf {ps ss:List (List Int)}{sort year:Int}:∀ {k:Nat} {r:List Int},r∈jO ps ss sort year k->∃ (j h:Nat) (x:Int),j < k/\h < 8/\fl (ps.getD j []) 1=sort/\r=[year,j,h,x]
 | 0,r,hr=>by cases hr
 | k+1,r,hr=>by
  rcases zA6.mp (show r∈jO ps ss sort year k++mK ps ss sort year k from hr) with z | z
  ·obtain ⟨j,h,x,a,b⟩:=zf z;exact ⟨j,h,x,by lia,b⟩
  ·unfold mK at z;split at z
   ·rename_i hs
    obtain ⟨q,hq,rfl⟩:=zA5.mp z;unfold fB at hq;obtain ⟨h,hh,rfl⟩:=zA5.mp hq;have:=List.mem_range.mp (zAq.mp hh).1;exact ⟨k,h,_,by lia,this,hs,rfl⟩
   ·cases z
theorem BL {ps ss:List (List Int)}{sort year:Int}{r:List Int}(hr:r∈aJ ps ss sort year):fl r 0=year/\En ps r=sort/\0<=fl r 1/\fl r 1 < ps.length/\0<=fl r 2/\fl r 2 < 8:=by
 obtain ⟨j,h,x,a1,a2,a3,rfl⟩:=zf hr;refine ⟨rfl,?_,?_,?_,?_,?_⟩
 ·show fl (ps.getD ((j:Int)).toNat []) 1=sort;rw [zAi];exact a3
 ·show (0:Int)<=j;lia
 ·show (j:Int) < ps.length;lia
 ·show (0:Int)<=h;lia
 ·show (h:Int) < 8;lia
theorem Gw {w:Int}{cl:List (List Int)}(hw:0<=w)(hc:∀ r∈cl,r.length=4/\1<=fl r 3/\fl r 3<=99)(hz:cl.length<=80):∀ p∈cl.zip (bz w cl),p.2<=fl p.1 3:=fun p hp=>by
 obtain ⟨i,hi⟩:=List.mem_iff_getElem?.mp hp;obtain ⟨h1,h2⟩:=List.getElem?_zip_eq_some.mp hi;have e3:(wts cl)[i]?=some (fl p.1 3):=by unfold wts;rw [zAb,h1];rfl
 unfold bz at h2;split at h2
 ·rw [e3] at h2;rw [<- zAl h2];exact Int.le_refl _
 ·rename_i hs
  have ok:K92P.OkW (wts cl):=by
   refine ⟨?_,?_,fun x hx=>?_⟩
   ·have:=(zAa.mp e3).1;lia
   ·unfold wts;rw [zA1];exact hz
   ·obtain ⟨r,hr,rfl⟩:=zA5.mp hx;exact (hc r hr).2
  exact (K92P.res_get ok hw (by lia) h2 e3).2
def okC (r:List Int):Prop:=r.length=3/\∀ x∈r,0<=x/\x < 1000
theorem jx:∀ (is:List Int),szs (is.map PyData.int)=is.length
 | []=>rfl
 | i::is=>by
  show 1+szs (is.map PyData.int)=is.length+1;rw [jx is];lia
theorem gG {k:Nat}:∀ {rs:List (List Int)},(∀ r∈rs,r.length=k)->szs (rs.map rowD)=(k+1) * rs.length
 | [],_=>rfl
 | r::rs,h=>by
  show (1+szs (r.map PyData.int))+szs (rs.map rowD)=(k+1) * (rs.length+1);rw [jx,h r (.head _),gG fun q hq=>h q (.tail _ hq),Nat.mul_add];lia
theorem Gx:∀ {w:Int} {S:List (List Int)},∀ p∈S.zip (cD w S),p.2<=fl p.1 3:=fun {w S}=>by
 induction S generalizing w with
 | nil=>intro p hp;cases hp
 | cons r S ih =>
  intro p hp;unfold cD at hp;rw [List.zip_cons_cons] at hp;rcases zAo.mp hp with z | z
  ·rw [z];show (if w < fl r 3 then w else fl r 3)<=fl r 3;split <;> lia
  ·exact ih p z
theorem Gy {cs:List (List Int)}(h:∀ r∈cs,r.length=3/\∀ x∈r,0<=x)(n:Nat):∀ x∈cs.getD n [],0<=x:=fun x hx=>by
 rw [zA7] at hx
 cases e:cs[n]? with
 | none=>rw [e] at hx;cases hx
 | some r=>rw [e] at hx;exact (h r (zBa e)).2 x hx
theorem ph (rs:List (List Int)):rowsOf (bM rs)=rs:=by
 show (rs.map rowD).map (fun x=>(items x).map intOf)=rs;rw [zAr];refine (List.map_congr_left fun r _=>?_).trans (List.map_id rs);show ((r.map PyData.int)).map intOf=r;rw [zAr];exact List.map_id r
theorem gQ {r:List Int}{n:Nat}(h:r.length=n):bx (rowD r) n=true:=by
 show (bB (.tuple (r.map PyData.int)) n n && (r.map PyData.int).all cR)=true;rw [zAc];refine ⟨?_,List.all_eq_true.mpr fun x hx=>?_⟩
 ·show (true && (decide ((n:Int)<=(r.map PyData.int).length) && decide (((r.map PyData.int).length:Int)<=n)))=true;rw [zA1,h,zAt (Int.le_refl _)];rfl
 ·obtain ⟨i,_,rfl⟩:=zA5.mp hx;rfl
theorem uf {ds:List PyData}{a b:Int}(h1:a<=ds.length)(h2:(ds.length:Int)<=b):bB (.tuple ds) a b=true:=by
 show (true && (decide (a<=(ds.length:Int)) && decide ((ds.length:Int)<=b)))=true;rw [zAt h1,zAt h2];rfl
theorem vm {cs ps ss:List (List Int)}(lc1:1<=cs.length)(lc:cs.length<=20)(okc:∀ r∈cs,okC r)(lp:ps.length<=10)(okp:∀ r∈ps,okP r)(ls:ss.length<=12)(h5:∀ s∈ss,s.length=5)(hu:un ps ss=none):gZ (.tuple [bM cs,bM ps,bM ss])=true:=by
 have b0:eQ (bM cs)=true:=by
  show (bB (.tuple (cs.map rowD)) 1 20 && (cs.map rowD).all oO)=true;rw [uf (by rw [zA1];lia) (by rw [zA1];lia),Bool.true_and];refine List.all_eq_true.mpr fun x hx=>?_;obtain ⟨r,hr,rfl⟩:=zA5.mp hx;obtain ⟨h3,hb⟩:=okc r hr;show (bx (rowD r) 3 && (r.map PyData.int).all fun x=>decide (0<=intOf x) && decide (intOf x<=999))=true;rw [show bx (rowD r) 3=true from gQ h3,Bool.true_and];refine List.all_eq_true.mpr fun x hx=>?_;obtain ⟨i,hi,rfl⟩:=zA5.mp hx;have:=hb i hi;show (decide (0<=i) && decide (i<=999))=true;rw [zAt (by lia),zAt (by lia)];rfl
 have b1:dO (bM ps)=true:=by
  show (bB (.tuple (ps.map rowD)) 0 10 && (ps.map rowD).all j7)=true;rw [uf (by lia) (by rw [zA1];lia),Bool.true_and];refine List.all_eq_true.mpr fun x hx=>?_;obtain ⟨r,hr,rfl⟩:=zA5.mp hx;obtain ⟨h6,h1,h2,h3,h4,L7⟩:=okp r hr;show (bx (rowD r) 6 && qw (at_ (rowD r) 0) (at_ (rowD r) 1) (at_ (rowD r) 2) (at_ (rowD r) 3) (at_ (rowD r) 4) (at_ (rowD r) 5))=true;rw [show bx (rowD r) 6=true from gQ h6,Bool.true_and]
  have ea:∀ i,i < 6->at_ (rowD r) i=fl r i:=fun i hi=>by
   unfold at_ fl;show intOf ((r.map PyData.int).getD i .none)=r.getD i 0;rw [zA7,zA7,zAb,zA0 (by lia)];rfl
  rw [ea 0 (by decide),ea 1 (by decide),ea 2 (by decide),ea 3 (by decide),ea 4 (by decide),ea 5 (by decide)];unfold qw;simp only [Bool.and_eq_true,decide_eq_true_eq];exact ⟨h1,h2,⟨h3.1,h3.2.1,h3.2.2⟩,h4,L7⟩
 have b2:dR (bM ss)=true:=by
  show (bB (.tuple (ss.map rowD)) 0 12 && (ss.map rowD).all fun x=>bx x 5)=true;rw [uf (by lia) (by rw [zA1];lia),Bool.true_and];refine List.all_eq_true.mpr fun x hx=>?_;obtain ⟨r,hr,rfl⟩:=zA5.mp hx;exact gQ (h5 r hr)
 show (bB (.tuple [bM cs,bM ps,bM ss]) 3 3 && (eQ (bM cs) && (dO (bM ps) && (dR (bM ss) && (un (rowsOf (bM ps)) (rowsOf (bM ss))).isNone))))=true;rw [b0,b1,b2,ph,ph,hu];rfl
inductive SpRefCI (vs:List V)(H:Hp)(Q:VK):Prop
 | mk:∀ S v d,(vs=[v])->(IsTh S H v d)->(sz d<=4000)->(eQ d=true)->(∀ H',Same H H'->Q .non H')->SpRefCI  vs H Q
def zg:Sp:=fun vs H Q _=>SpRefCI  vs H Q
def okL (so pa:Int):Prop:=(0<=so/\so < 3)/\0<=pa/\pa<=100
inductive SpLossI (vs:List V)(H:Hp)(Q:VK):Prop
 | mk:∀ so pa,(vs=[.int so,.int pa])->(okL so pa)->(∀ H',Same H H'->Q .non H')->SpLossI  vs H Q
def zj:Sp:=fun vs H Q _=>SpLossI  vs H Q
def jH (so pa:Int)(c:List Int)(i:Nat):Int:=if (i:Int)=so then c.getD i 0 * (100 - pa) / 100 else c.getD i 0
def fO (so pa:Int)(c:List Int):List Int:=(List.range c.length).map (jH so pa c)
def mU (so pa:Int)(y:Nat)(cs:List (List Int)):List (List Int):=cs.take y++(cs.drop y).map (fO so pa)
inductive SpLess1I (vs:List V)(H:Hp)(Q:VK):Prop
 | mk:∀ t c so pa,(vs=[.ref t,.int so,.int pa])->(H t=some (.tup (c.map V.int)))->(okC c)->(okL so pa)->(∀ t' H',Same H H'->H' t'=some (.tup ((fO so pa c).map V.int))->Q (.ref t') H')->SpLess1I  vs H Q
def vo:Sp:=fun vs H Q _=>SpLess1I  vs H Q
inductive SpLessCI (vs:List V)(H:Hp)(Q:VK):Prop
 | mk:∀ ac xc cs y so pa,(vs=[.ref ac,.int y,.int so,.int pa])->(RowsAt H ac xc cs)->((∀ r∈cs,okC r))->(cs.length<=20)->(0<=y)->(y < cs.length)->(okL so pa)->(∀ a' oe H',Same H H'->RowsAt H' a' oe (mU so pa y.toNat cs)->Q (.ref a') H')->SpLessCI  vs H Q
def jY:Sp:=fun vs H Q _=>SpLessCI  vs H Q
theorem xn (so pa:Int)(c:List Int):(fO so pa c).length=c.length:=by unfold fO;rw [zA1,List.length_range]
theorem zm {so pa:Int}{c:List Int}(ok:okC c)(hl:okL so pa):okC (fO so pa c):=by
 refine ⟨by rw [xn];exact ok.1,fun x hx=>?_⟩;unfold fO at hx;obtain ⟨i,hi,rfl⟩:=zA5.mp hx;have hi:=List.mem_range.mp hi;have hb:=ok.2 (c.getD i 0) (by rw [zA7,zA0 hi];exact zAh hi);obtain ⟨_,p0,p1⟩:=hl;unfold jH;split
 ·have a0:0<=c.getD i 0 * (100 - pa):=Int.mul_nonneg hb.1 (by lia);have a1:c.getD i 0 * (100 - pa)<=c.getD i 0 * 100:=Int.mul_le_mul_of_nonneg_left (by lia) hb.1;lia
 ·exact hb
theorem zq {so pa:Int}{y:Nat}{cs:List (List Int)}(ok:∀ r∈cs,okC r)(hl:okL so pa):∀ r∈mU so pa y cs,okC r:=fun r hr=>by
 rcases zA6.mp hr with z | z
 ·exact ok r (List.mem_of_mem_take z)
 ·obtain ⟨c,hc,rfl⟩:=zA5.mp z;exact zm (ok c (List.mem_of_mem_drop hc)) hl
theorem pq {so pa:Int}{y:Nat}{cs:List (List Int)}:(mU so pa y cs).length=cs.length:=by
 unfold mU;rw [zA2,zA1,zAd,List.length_drop];lia
theorem zr {cs:List (List Int)}(lc1:1<=cs.length)(lc:cs.length<=20)(okc:∀ r∈cs,okC r):eQ (bM cs)=true:=by
 have h:gZ (.tuple [bM cs,bM [],bM []])=true:=vm lc1 lc okc (zAp _) (fun r hr=>nomatch hr) (zAp _) (fun r hr=>nomatch hr) rfl;unfold gZ at h;rw [zAc,zAc] at h;exact h.2.1
theorem HQ:FnScope ["thing"] ["thing"] (aK (top 28)):=fS
theorem BP (F:Fun K "refuse_no_clips" "refuse_no_clips" (top 28) f fd)(c1:Cal P w K mg base 4 "are_clips" ["thing"] (spT eQ)):FnOk P w K mg base CX0 5 f fd ["thing"] zg:=by
 refine F.ok HQ (fun vs H Q E h=>?_) (fun av A outer s H vs Q E hr h=>?_)
 ·obtain ⟨S,v,d,rfl,_⟩:=h;rfl
 ·obtain ⟨S,v,d,rfl,th,hz,ok,q⟩:=h;refine ⟨_,aG (bW (cH (dq (aD c1 hr (aU (pv 0) aa)))) (aG dH) bf),?_⟩;refine ⟨_,rfl,S,v,d,rfl,th,hz,fun H1 s1=>⟨_,rfl,?_⟩⟩;rw [ok];exact bI (q H1 s1)
theorem HR:FnScope ["sort","part"] ["sort","part"] (aK (top 67)):=fS
theorem zu {i a b:Int}(h0:a<=i)(h1:i<=b):jN (.int i) a b=true:=by
 show (true && (decide (a<=i) && decide (i<=b)))=true;rw [zAt h0,zAt h1];rfl
theorem BR (F:Fun K "refuse_no_loss" "refuse_no_loss" (top 67) f fd)(N:Nums mg)(c1:Cal P w K mg base 2 "is_whole_from" ["thing","least","most"] (jn jN)):FnOk P w K mg base CX0 3 f fd ["sort","part"] zj:=by
 refine F.ok HR (fun vs H Q E h=>?_) (fun av A outer s H vs Q E hr h=>?_)
 ·obtain ⟨so,pa,rfl,_⟩:=h;rfl
 ·obtain ⟨so,pa,rfl,⟨⟨a0,a1⟩,b0,b1⟩,q⟩:=h;obtain ⟨t1,e1⟩:=N.sorts
  refine ⟨_,aB (bW (cH (dq (aD c1 hr (aq (pv 0) (aq az (aq (aV cJ (bK (v:=.int 3) rfl e1 ⟨_,rfl⟩) az) aa)))))) (aG dH) bf)
   (aG (bW (cH (dq (aD c1 hr (aq (pv 1) (aq az (aq az aa)))))) (aG dH) bf)),?_⟩
  refine aF ?_;refine ⟨_,rfl,_,_,rfl,rfl,fun _=>False,.int so,.int so,0,_,rfl,.int _,(by show 1<=4000;decide),fun H1 s1=>⟨_,rfl,?_⟩⟩;rw [zu a0 (by lia)];refine bI (dw ?_);dsimp only;refine ⟨_,rfl,fun _=>False,.int pa,.int pa,0,_,rfl,.int _,(by show 1<=4000;decide),fun H2 s2=>⟨_,rfl,?_⟩⟩;rw [zu b0 b1];exact bI (q _ (s1.trans s2))
abbrev ky (n y:Int):List Key:=[.inl n,.inl y]
theorem qI {n y n' y':Int}(h:ky n y=ky n' y'):n=n'/\y=y':=by
 injection h with h1 h2;injection h2 with h2 _;injection h1 with h1;injection h2 with h2;exact ⟨h1,h2⟩
def dom (ps:List (List Int))(n y:Int):Prop:=0<=n/\n < ps.length/\fl (ps.getD n.toNat []) 2<=y/\y<=fl (ps.getD n.toNat []) 3
def hl (ps ss:List (List Int))(n y:Int):List Int:=cz (ps.getD n.toNat []) ss n y
structure Lts (fo:Addr)(H0 H:Hp)(dm:Int->Int->Prop)(f:Int->Int->List Int)(kvs:List (List Key×V)):Prop where
 sm:Same H0 H
 nf:H0 fo=none
 e:H fo=some (.dT kvs)
 g:∀ n y,dm n y->∃ d,cQ kvs (ky n y)=some (.ref d)/\H d=some (.lst ((f n y).map V.int))
 no:∀ n y,¬ dm n y->cQ kvs (ky n y)=none
 i:∀ n y n' y' d,cQ kvs (ky n y)=some (.ref d)->cQ kvs (ky n' y')=some (.ref d)->n=n'/\y=y'
 fr:∀ n y d,cQ kvs (ky n y)=some (.ref d)->H0 d=none/\d≠fo
 kd:(kvs.map (·.1)).Nodup
 kk:∀ k∈kvs.map (·.1),∃ n y,k=ky n y/\dm n y
theorem BV {kvs:List (List Key×V)}{k:List Key}(h:cQ kvs k=none):¬ k∈kvs.map (·.1):=fun hk=>by
 obtain ⟨p,hp,e⟩:=zA5.mp hk
 have:(cQ kvs k).isSome=true:=by
  rw [<- eG,List.any_eq_true];exact ⟨p,hp,zAt e⟩
 rw [h] at this;cases this
theorem zx {kvs:List (List Key×V)}{k:List Key}{v:V}(hn:(kvs.map (·.1)).Nodup)(h:cQ kvs k=none):((putK kvs k v).map (·.1)).Nodup:=by
 rw [lN _ h,zA4,List.nodup_append];refine ⟨hn,(by simp),fun a ha b hb z=>?_⟩;rw [List.mem_singleton.mp hb] at z;have z':a=k:=z;rw [z'] at ha;exact BV h ha
section
variable {fo:Addr}{H0 H H':Hp}{dm:Int->Int->Prop}{f f':Int->Int->List Int}{kvs:List (List Key×V)}
theorem Lts.same (g:Lts fo H0 H dm f kvs)(s:Same H H'):Lts fo H0 H' dm f kvs :=
 ⟨g.sm.trans s,g.nf,s _ _ g.e,fun n y h=>by
  obtain ⟨d,e1,e2⟩:=g.g n y h
  exact ⟨d,e1,s _ _ e2⟩,g.no,g.i,g.fr,g.kd,g.kk⟩
theorem Lts.wr {d:Addr}{N Y:Int}{L:List Int}(g:Lts fo H0 H dm f kvs)(hv:cQ kvs (ky N Y)=some (.ref d))(h1:f' N Y=L)(h2:∀ n y,dm n y->¬ (n=N/\y=Y)->f' n y=f n y):Lts fo H0 (upd H d (.lst (L.map V.int))) dm f' kvs:=by
 obtain ⟨w1,w2⟩:=g.fr _ _ _ hv;refine ⟨fun c o e=>by rw [aA (aC e w1)];exact g.sm _ _ e,g.nf,by rw [aA w2.symm];exact g.e,fun n y hd=>?_,g.no,g.i,g.fr,g.kd,g.kk⟩;by_cases hk:n=N/\y=Y
 ·obtain ⟨rfl,rfl⟩:=hk;exact ⟨d,hv,by rw [aj,h1]⟩
 ·obtain ⟨d',q1,q2⟩:=g.g n y hd;have nd:d'≠d:=fun z=>hk (g.i _ _ _ _ _ (z ▸ q1) hv);exact ⟨d',q1,by rw [aA nd,h2 n y hd hk];exact q2⟩
theorem Lts.cast (g:Lts fo H0 H dm f kvs)(h:∀ n y,dm n y->f' n y=f n y):Lts fo H0 H dm f' kvs :=
 ⟨g.sm,g.nf,g.e,fun n y hd=>by
  obtain ⟨d,e1,e2⟩:=g.g n y hd
  exact ⟨d,e1,by rw [h n y hd];exact e2⟩,g.no,g.i,g.fr,g.kd,g.kk⟩
theorem Lts.put {d:Addr}{N Y:Int}{L:List Int}{Jy:Int->Int->Prop}(g:Lts fo H0 H dm f kvs)(sH:Same H H')(zo:H d=none)(ed:H' d=some (.lst (L.map V.int)))(hL:f N Y=L)(hn:¬ dm N Y)(zt:∀ n y,Jy n y↔(dm n y\/(n=N/\y=Y))):Lts fo H0 (upd H' fo (.dT (putK kvs (ky N Y) (.ref d)))) Jy f (putK kvs (ky N Y) (.ref d)):=by
 have Jz:d≠fo:=fun z=>by rw [z,g.e] at zo;cases zo
 have kp:∀ b o,b≠fo->H b=some o->upd H' fo (.dT (putK kvs (ky N Y) (.ref d))) b=some o:=fun b o n e=>by
  rw [aA n];exact sH _ _ e
 have nn:=g.no N Y hn;refine ⟨fun b o e=>kp b o (aC e g.nf) (g.sm _ _ e),g.nf,aj,fun n y z=>?_,fun n y z=>?_,fun n y n' y' d' z z'=>?_,fun n y d' z=>?_,zx g.kd nn,fun k hk=>?_⟩
 ·by_cases hk:ky n y=ky N Y
  ·obtain ⟨rfl,rfl⟩:=qI hk;exact ⟨d,by rw [gm,zAx rfl],by rw [aA Jz,hL];exact ed⟩
  ·have hd:=((zt n y).mp z).resolve_right fun w=>hk (by rw [w.1,w.2]);obtain ⟨d',q1,q2⟩:=g.g n y hd;exact ⟨d',by rw [gm,zAu hk];exact q1,kp _ _ (g.fr n y d' q1).2 q2⟩
 ·have hk:¬ ky n y=ky N Y:=fun w=>z ((zt n y).mpr (.inr (qI w)));rw [gm,zAu hk];exact g.no n y fun w=>z ((zt n y).mpr (.inl w))
 ·have key:∀ {n y},cQ kvs (ky n y)=some (.ref d)->False:=fun {n y} w=>by
   by_cases hd:dm n y
   ·obtain ⟨QY,q1,q2⟩:=g.g n y hd;rw [w] at q1;cases q1;rw [q2] at zo;cases zo
   ·rw [g.no n y hd] at w;cases w
  rw [gm] at z z';by_cases h1:ky n y=ky N Y <;> by_cases h2:ky n' y'=ky N Y
  ·obtain ⟨rfl,rfl⟩:=qI h1;obtain ⟨rfl,rfl⟩:=qI h2;exact ⟨rfl,rfl⟩
  ·rw [zAx h1] at z;rw [zAu h2] at z';cases z;exact (key z').elim
  ·rw [zAu h1] at z;rw [zAx h2] at z';cases z';exact (key z).elim
  ·rw [zAu h1] at z;rw [zAu h2] at z';exact g.i _ _ _ _ _ z z'
 ·rw [gm] at z;by_cases h1:ky n y=ky N Y
  ·rw [zAx h1] at z;cases z;exact ⟨g.sm.free zo,Jz⟩
  ·rw [zAu h1] at z;exact g.fr n y d' z
 ·rw [lN _ nn,zA4] at hk;rcases zA6.mp hk with z | z
  ·obtain ⟨n,y,a,b⟩:=g.kk k z;exact ⟨n,y,a,(zt n y).mpr (.inl b)⟩
  ·rw [List.mem_singleton.mp z];exact ⟨N,Y,rfl,(zt N Y).mpr (.inr ⟨rfl,rfl⟩)⟩
end
inductive SpRowsI (vs:List V)(H:Hp)(Q:VK):Prop
 | mk:∀ ap xp ps ah xs ss,(vs=[.ref ap,.ref ah])->(RowsAt H ap xp ps)->(ps.length<=10)->((∀ r∈ps,okP r))->(RowsAt H ah xs ss)->(ss.length<=100)->((∀ s∈ss,s.length=5))->(∀ t fo H',Same H H'->H' t=some (.tup [.ref fo,unV (un ps ss)])->(un ps ss=none->∃ kvs,Lts fo H H' (dom ps) (hl ps ss) kvs)->Q (.ref t) H')->SpRowsI  vs H Q
def spRows:Sp:=fun vs H Q _=>SpRowsI  vs H Q
def zy (p:List Int):List Int:=(List.range 8).map fun i=>fl p 4 * (if ((i:Nat):Int)=fl p 0 then 1 else 0)
theorem BW {ps:List (List Int)}{n y:Int}(op:okP (ps.getD n.toNat []))(hy:fl (ps.getD n.toNat []) 2<=y/\y<=fl (ps.getD n.toNat []) 3):hl ps [] n y=zy (ps.getD n.toNat []):=by
 unfold hl cz;rw [zAx hy];show base0 (ps.getD n.toNat [])=zy _;generalize ps.getD n.toNat []=p at op;obtain ⟨_,⟨a,b⟩,_⟩:=op;unfold base0 zy
 obtain ⟨h,eh⟩:∃ h:Nat,fl p 0=h:=⟨(fl p 0).toNat,by lia⟩
 rw [eh,zAi];have hb:h < 8:=by lia
 generalize fl p 4=k;have:h=0\/h=1\/h=2\/h=3\/h=4\/h=5\/h=6\/h=7:=by lia
 rcases this with rfl | rfl | rfl | rfl | rfl | rfl | rfl | rfl <;> simp [List.range_succ,List.replicate]
theorem zz (ps ss:List (List Int))(n y:Int):(hl ps ss n y).length=8:=dY _ _ _ _
theorem BX {ps ss:List (List Int)}{s:List Int}{n y:Int}(hd:dom ps n y):hl ps (ss++[s]) n y=hstep n y (hl ps ss n y) s:=by
 unfold hl cz;rw [zAx hd.2.2,zAx hd.2.2,List.foldl_append];rfl
theorem holds_iff {ps sa:List (List Int)}{s:List Int}{n a b k y:Int}(ea:fl s 0=n)(eb:fl s 1=a)(ec:fl s 2=b)(ed:fl s 3=k)(ee:fl s 4=y):cu ps sa s=true↔(dom ps n y/\(0<=a/\a < 8)/\(0<=b/\b < 8)/\a≠b/\(1<=k/\k<=99))/\∀ z,dom ps n z->y<=z->k<=(hl ps sa n z).getD a.toNat 0:=by
 have em:∀ {u v z:Int},z∈years u v↔u<=z/\z<=v:=fun {u v z}=>by
  unfold years;rw [zA5];constructor
  ·rintro ⟨i,hi,rfl⟩;have:=List.mem_range.mp hi;lia
  ·rintro ⟨h1,h2⟩;exact ⟨(z - u).toNat,List.mem_range.mpr (by lia),by lia⟩
 unfold cu rO qC;rw [ea,eb,ec,ed,ee];simp only [Bool.and_eq_true,decide_eq_true_eq,Bool.not_eq_true',decide_eq_false_iff_not,List.all_eq_true];unfold dom;constructor
 ·rintro ⟨⟨h1,h2,h3,h4,h5,h6⟩,h7⟩;exact ⟨⟨⟨h1.1,h1.2,h6.1,h6.2⟩,h2,h3,h4,h5⟩,fun z hz hy=>h7 z (em.mpr ⟨hy,hz.2.2.2⟩)⟩
 ·rintro ⟨⟨h1,h2,h3,h4,h5⟩,h7⟩
  exact ⟨⟨⟨h1.1,h1.2.1⟩,h2,h3,h4,h5,h1.2.2⟩,fun z hz=>by
   obtain ⟨q1,q2⟩:=em.mp hz
   exact h7 z ⟨h1.1,h1.2.1,by lia,q2⟩ q1⟩
def yk (n y:Int)(p:List Key×V):Option Int:=match p.1 with
 | [.inl n',.inl z]=>if n'=n/\y<=z then some z else none
 | _=>none
theorem pC:bootBuiltins "min" = some (.builtin "min"):=by decide +kernel
theorem xq:bootBuiltins "max" = some (.builtin "max"):=by decide +kernel
theorem HS:(["_law_one","_law_sacks","_law_holder"]:List Str).Nodup:=by decide +kernel
theorem Gz:(["_law_number_of","_law_one","_law_number","_law_year"]:List Str).Nodup:=by decide +kernel
theorem HW:(["_law_one","_law_rows_here","_law_number","_law_seller"]:List Str).Nodup:=by decide +kernel
theorem scX:FnScope ["_law_promises","_law_sales","_law_rows_here","_law_number","_law_holder","_law_sort","_law_first","_law_last","_law_sacks","_law_price","_law_year","_law_at","_law_seller","_law_buyer","_law_years","_law_least","_law_one"] ["_law_promises","_law_sales"] (aK (top 76)):=fS
theorem BZ (F:Fun K "_law_rows" "_law_rows" (top 76) f fd)(T:Mg mg)(Te:mg "enumerate" = none)(Tr:mg "range" = none)(Tn:mg "min" = none)(Tm:mg "max" = none):FnOk P w K mg base CX0 1 f fd ["_law_promises","_law_sales"] spRows:=by
 refine F.ok scX (fun vs H Q E h=>?_) (fun av A outer s H vs Q E hr h=>?_)
 ·obtain ⟨ap,xp,ps,ah,xs,ss,rfl,_⟩:=h;rfl
 ·obtain ⟨ap,xp,ps,ah,xs,ss,rfl,rp,lp,okp,rs,ls,h5,q⟩:=h
  refine K92P.ok_b (aP (lU (i:=2) scX.nd rfl (Or.inr rfl) ⟨xW⟩)
   (aP ⟨cV zB8 rfl (pi_enum rfl Te (aq (pv 0) aa)) (bU rfl (au (aZ (i:=3) scX.nd rfl (Or.inr rfl)) (au (bU rfl (au (aZ (i:=4) scX.nd rfl (Or.inr rfl)) (au (pgn 5 scX.nd) (au (pgn 6 scX.nd)
     (au (pgn 7 scX.nd) (au (aZ (i:=8) scX.nd rfl (Or.inr rfl)) (au (pgn 9 scX.nd) aY))))))) aY)))
    (jE (cG ⟨cV zB8 rfl (nY rfl Tr (aq (pv 6) (aq (aV bC (pv 7) az) aa))) (aZ (i:=10) scX.nd rfl (Or.inr rfl))
     (jE (cG ⟨Ay (lD hr) (pv 2) (bJ (aq (pv 3) (aq (pv 10) aa))) (bA ["_law_one","_law_sacks","_law_holder"] [none,some 8,some 4] rfl (bN rfl Tr (aq az aa)) (fun C fp pins s₂ H₂=>⟨pgn 0 HS,bh,aV fQ (pv 1) (bO vQ rfl T.int boot_int (aq (jR kY (pv 0) (pv 2) (bF _)) aa))⟩) (fun C=>cI (cI trivial)) ⟨rfl,rfl,rfl,rfl⟩) rfl⟩))⟩))⟩
   (aP ⟨cV zB8 rfl (pi_enum rfl Te (aq (pv 1) aa)) (bU rfl (au (pgn 11 scX.nd) (au (bU rfl (au (aZ (i:=3) scX.nd rfl (Or.inr rfl)) (au (aZ (i:=12) scX.nd rfl (Or.inr rfl)) (au (pgn 13 scX.nd)
     (au (aZ (i:=8) scX.nd rfl (Or.inr rfl)) (au (aZ (i:=10) scX.nd rfl (Or.inr rfl)) aY)))))) aY)))
    (jE (aP ⟨bW (PW.pt (qO (bw kY (pv 12) (pv 13) (bF _)) (qO (bw gh (aQ (dX rfl) rfl Tn pC (aq (pv 12) (aq (pv 13) aa))) az (bF _)) (qO (bw gW (aQ (gJ rfl) rfl Tm xq (aq (pv 12) (aq (pv 13) aa))) az (bF _)) (sW (Dj (wk (lD hr) (bJ (aq (pv 3) (aq (pv 10) aa))) (pv 2)))))))) (aG (aR (bJ (aq (pv 2) (aq (pv 11) aa))))) bf⟩
    (aP ⟨DY (fU (i:=14) (g:=iC K 2 (bR (bG 0) (bR (bG 1) jh))) ["_law_number_of","_law_one","_law_number","_law_year"] [none,none,some 3,some 10] rfl scX.nd rfl (Or.inl rfl) (Bk (pv 2)) (fun C fp pins s₂ H₂=>⟨cU rfl rfl (au (pgn 0 Gz) (au (pgn 1 Gz) aY)),iJ (PW.pt (sX (bw kY (pv 0) (pv 2) (bF _)) (pL (bw Cq (pv 1) (pv 3) (bF _))))),pv 1⟩) (fun C=>cI (cI trivial)) ⟨rfl,rfl,rfl,rfl⟩)⟩
    (aP (gU 15 scX.nd ⟨aQ (nF rfl) rfl Tn pC (aU (bA ["_law_one","_law_rows_here","_law_number","_law_seller"] [none,some 2,some 3,some 12] rfl (dG (pv 14)) (fun C fp pins s₂ H₂=>⟨pgn 0 HW,bh,pX (fJ (K:=K) rfl) (iQ (lD hr) (pv 1) (bJ (aq (pv 2) (aq (pv 0) aa))) (fun _ _=>rfl)) (pv 3)⟩) (fun C=>cI (cI (cI trivial))) ⟨rfl,rfl,rfl,rfl⟩) aa)⟩)
    (aP ⟨bW (PW.pt (qO (cH (kZ bY bY az (pv 8) az)) (sW (bw gh (pv 15) (pv 8) (bF _))))) (aG (aR (bJ (aq (pv 2) (aq (pv 11) aa))))) bf⟩
    (cG ⟨cV zB8 rfl (dG (pv 14)) (pgn 16 scX.nd)
     (jE (aP ⟨cj (aV cJ (pX bL (iQ (lD hr) (pv 2) (bJ (aq (pv 3) (aq (pv 16) aa))) (fun _ _=>rfl)) (pv 12)) (pv 8)) (ie (iQ (lD hr) (pv 2) (bJ (aq (pv 3) (aq (pv 16) aa))) (fun _ _=>rfl)) (pv 12) set_list)⟩
     (cG ⟨cj (aV bC (pX bL (iQ (lD hr) (pv 2) (bJ (aq (pv 3) (aq (pv 16) aa))) (fun _ _=>rfl)) (pv 13)) (pv 8)) (ie (iQ (lD hr) (pv 2) (bJ (aq (pv 3) (aq (pv 16) aa))) (fun _ _=>rfl)) (pv 13) set_list)⟩)))⟩))))))⟩
   (cG (tQ ⟨bJ (aq (pv 2) (aq pJ aa))⟩))))) ?_
  refine aF (aX ?_);refine fun fo JA=>?_;refine aM ?_;dsimp only
  have d0:Lts fo H (upd H fo (.dT [])) (fun _ _=>False) (hl ps []) []:=⟨Same.upd JA,JA,aj,fun _ _ z=>z.elim,fun _ _ _=>rfl,fun _ _ _ _ _ z=>(by cases z),fun _ _ _ z=>(by cases z),List.nodup_nil,fun k hk=>(by cases hk)⟩
  generalize upd H fo (.dT [])=H1 at d0 ⊢;refine aF ?_;refine ⟨_,rfl,ap,xp,rfl,SqT.of (d0.sm _ _ rp.e),?_⟩;refine iR (xs:=xp) (fun i σ Hc=>∃ x3 x4 x5 x6 x7 x8 x9 df cx cy cE cK de eJ kvs,σ=[some (.ref ap),some (.ref ah),some (.ref fo),x3,x4,x5,x6,x7,x8,x9,df,cx,cy,cE,cK,de,eJ]/\Lts fo H Hc (fun n y=>dom ps n y/\n < i) (hl ps []) kvs/\kvs.length<=20 * i) ?_ ?_ ?_ ?_
  ·exact ⟨none,none,none,none,none,none,none,none,none,none,none,none,none,none,[],rfl,⟨d0.sm,d0.nf,d0.e,fun n y z=>by
    have:=z.1.1;have:=z.2
    lia,fun n y _=>rfl,d0.i,d0.fr,d0.kd,fun k hk=>(by cases hk)⟩,zA3 _⟩
  ·rintro i σ Hc hi ⟨x3,x4,x5,x6,x7,x8,x9,df,cx,cy,cE,cK,de,eJ,kvs,rfl,dt,lk⟩;exact SqT.of (dt.sm _ _ rp.e)
  ·rintro i x σ Hc T0 hx ⟨x3,x4,x5,x6,x7,x8,x9,df,cx,cy,cE,cK,de,eJ,kvs,rfl,dt,lk⟩ nT
   have hi:i < ps.length:=by
    have:=(zAa.mp hx).1;rw [rp.l] at this;exact this
   obtain ⟨tr,hU,fq⟩:=rp.g i ps[i] (zA0 hi)
   have:x=.ref tr:=by
    rw [hx] at hU;exact zAl hU
   subst this;have op:=okp ps[i] (zAh hi)
   have ep:ps.getD ((i:Int)).toNat []=ps[i]:=by
    rw [zAi];exact getD_get hi
   have dT:=dt.same (Same.upd (o:=.tup [V.int i,V.ref tr]) nT);generalize QZ:ps[i]=p at fq op ep;have tS:=dT.sm _ _ fq;rw [six_row op.1] at tS;have L8:=op;obtain ⟨_,⟨a1,a2⟩,_,⟨c1,c2,c3⟩,⟨e1,e2⟩,_⟩:=op;refine ⟨T0,_,rfl,SqT.of aj,rfl,_,_,rfl,_,_,rfl,?_⟩;refine ⟨tr,_,rfl,SqT.of tS,rfl,_,_,rfl,_,_,rfl,_,_,rfl,_,_,rfl,_,_,rfl,_,_,rfl,rfl,rfl,?_⟩;refine wY fun De zw=>?_;refine ⟨_,rfl,_,rfl,_,_,rfl,rfl,fl p 2,fl p 3+1,rfl,⟨by lia,by lia,by lia,by lia⟩,?_⟩;generalize upd Hc T0 (.tup [V.int i,V.ref tr])=H2 at dT ⊢;refine dW (lo:=fl p 2) (n:=(fl p 3+1 - fl p 2).toNat) (fun j σ Hj=>∃ df kvs,σ=[some (.ref ap),some (.ref ah),some (.ref fo),some (.int i),some (.int (fl p 0)),some (.int (fl p 1)),some (.int (fl p 2)),some (.int (fl p 3)),some (.int (fl p 4)),some (.int (fl p 5)),df,cx,cy,cE,cK,de,eJ]/\Lts fo H Hj (fun n y=>dom ps n y/\(n < i\/(n=i/\y < fl p 2+j))) (hl ps []) kvs/\kvs.length<=20 * i+j) ?_ ?_ ?_
   ·refine ⟨df,kvs,rfl,⟨dT.sm,dT.nf,dT.e,fun n y z=>dT.g n y ⟨z.1,?_⟩,fun n y z=>dT.no n y fun z'=>z ⟨z'.1,.inl z'.2⟩,dT.i,dT.fr,dT.kd,fun k hk=>?_⟩,lk⟩
    ·rcases z.2 with z2 | ⟨z2,z3⟩
     ·exact z2
     ·obtain ⟨_,_,w1,_⟩:=z.1;rw [z2,ep] at w1;lia
    ·obtain ⟨n,y,a,b⟩:=dT.kk k hk;exact ⟨n,y,a,b.1,.inl b.2⟩
   ·rintro j σ Hj hj ⟨df,kvs,rfl,dj,lj⟩;refine aM ?_;refine wY fun L9 kX=>?_;refine ⟨8,rfl,by decide,by decide,bu 8 (fun i ys σ Hc=>Hc=Hj/\(∃ o1,σ=[o1,some (.int (fl p 4)),some (.int (fl p 0))])/\ys=(((List.range i).map fun i=>fl p 4 * (if ((i:Nat):Int)=fl p 0 then 1 else 0)):List Int).map V.int) ⟨rfl,⟨_,rfl⟩,rfl⟩ (by rw [sizeLine_eq];decide) ?_ ?_⟩
    ·rintro i' ys σ Hc hG hy ⟨rfl,⟨o1,rfl⟩,rfl⟩;refine ⟨hG,fun v H' y' R hR=>?_⟩;obtain ⟨rfl,rfl⟩:=y';refine aM ?_;have z0:(0:Int)+(i':Int)=i':=by lia
     rw [z0];refine ⟨_,rfl,_,rfl,_,rfl,rfl,.inr ⟨_,rfl,_,_,rfl,rfl,.inl ⟨by lia,by lia⟩,hR _ _ _ ⟨rfl,⟨_,rfl⟩,?_⟩⟩⟩;rw [List.range_succ,zA4,zA4];congr 1;show [V.int _]=[V.int _];congr 2;dsimp only;by_cases hh:(i':Int)=fl p 0
     ·rw [zAx hh,zAt (by rw [hh])];rfl
     ·rw [zAu hh,zB1 (fun z=>hh (by injection z))];rfl
    rintro ys σ Hc hy ⟨rfl,_,rfl⟩;refine ⟨zA3 _,fun d hd=>?_⟩;have ud:=Same.upd (o:=.lst ((zy p).map V.int)) hd;have ed:=aj (H:=Hc) (a:=d) (o:=.lst ((zy p).map V.int));refine ⟨_,rfl,_,rfl,_,rfl,zL,fun t ht=>⟨fo,_,rfl,DPut.t (k:=ky i (fl p 2+j)) (Same.upd ht _ _ (ud _ _ dj.e)) aj (by rw [sizeLine_eq];lia),?_⟩⟩;have u2:=ud.updR (o:=.tup [V.int i,V.int (fl p 2+j)]) ht
    refine kX _ _ ⟨_,_,rfl,dj.put u2 hd (Same.upd ht _ _ ed) (BW (by rw [ep];exact L8) (by rw [ep];lia) |>.trans (by rw [ep])) (fun z=>by
     rcases z.2 with z2 | ⟨z2,z3⟩ <;> lia) (fun n y=>⟨fun z=>?_,fun z=>?_⟩),?_⟩
    ·rcases z.2 with z2 | ⟨z2,z3⟩
     ·exact .inl ⟨z.1,.inl z2⟩
     ·by_cases nS:y=fl p 2+j
      ·exact .inr ⟨z2,nS⟩
      ·exact .inl ⟨z.1,.inr ⟨z2,by lia⟩⟩
    ·rcases z with z | ⟨rfl,rfl⟩
     ·exact ⟨z.1,z.2.imp id fun w=>⟨w.1,by lia⟩⟩
     ·exact ⟨⟨by lia,by lia,by rw [ep];lia,by rw [ep];lia⟩,.inr ⟨rfl,by lia⟩⟩
    ·rw [lN _ (dj.no _ _ fun z=>by rcases z.2 with z2 | ⟨z2,z3⟩ <;> lia),zA2];show kvs.length+1<=20 * i+(j+1);lia
   ·rintro σ Hj ⟨df,kvs,rfl,dj,lj⟩;refine zw _ _ ⟨_,_,_,_,_,_,_,_,_,_,_,_,_,_,kvs,rfl,⟨dj.sm,dj.nf,dj.e,fun n y z=>dj.g n y ⟨z.1,?_⟩,fun n y z=>dj.no n y fun z'=>z ⟨z'.1,?_⟩,dj.i,dj.fr,dj.kd,fun k hk=>?_⟩,by lia⟩
    ·by_cases hn:n < i
     ·exact .inl hn
     ·have JB:n=i:=by lia
      refine .inr ⟨JB,?_⟩;obtain ⟨_,_,_,w⟩:=z.1;rw [JB,ep] at w;lia
    ·rcases z'.2 with w | ⟨w,_⟩ <;> lia
    ·obtain ⟨n,y,a,b⟩:=dj.kk k hk;refine ⟨n,y,a,b.1,?_⟩;rcases b.2 with w | ⟨w,_⟩ <;> lia
  rintro σ Hc ⟨x3,x4,x5,x6,x7,x8,x9,df,cx,cy,cE,cK,de,eJ,kvs0,rfl,dt,lk⟩
  have EG:Lts fo H Hc (dom ps) (hl ps []) kvs0:=⟨dt.sm,dt.nf,dt.e,fun n y z=>dt.g n y ⟨z,by rw [rp.l];exact z.2.1⟩,fun n y z=>dt.no n y fun w=>z w.1,dt.i,dt.fr,dt.kd,fun k hk=>by
   obtain ⟨n,y,a,b⟩:=dt.kk k hk
   exact ⟨n,y,a,b.1⟩⟩
  have Q0:kvs0.length<=200:=by
   rw [rp.l] at lk;lia
  clear dt lk d0;dsimp only;refine aF ?_;refine ⟨_,rfl,ah,xs,rfl,SqT.of (EG.sm _ _ rs.e),?_⟩;refine iR (xs:=xs) (fun i σ Hc=>∃ x3 x4 x5 x6 x7 x8 x9 df cx cy cE cK de eJ,σ=[some (.ref ap),some (.ref ah),some (.ref fo),x3,x4,x5,x6,x7,x8,x9,df,cx,cy,cE,cK,de,eJ]/\Lts fo H Hc (dom ps) (hl ps (ss.take i)) kvs0/\∀ j,j < i->cu ps (ss.take j) (ss.getD j [])=true) ?_ ?_ ?_ ?_
  ·exact ⟨_,_,_,_,_,_,_,_,_,_,_,_,_,_,rfl,by rw [List.take_zero];exact EG,fun j hj=>(by lia)⟩
  ·rintro i σ Hc hi ⟨x3,x4,x5,x6,x7,x8,x9,df,cx,cy,cE,cK,de,eJ,rfl,dt,hh⟩;exact SqT.of (dt.sm _ _ rs.e)
  ·clear EG;rintro i x σ Hc T0 hx ⟨x3,x4,x5,x6,x7,x8,x9,df,cx,cy,cE,cK,de,eJ,rfl,dt,hh⟩ nT
   have hi:i < ss.length:=by
    have:=(zAa.mp hx).1;rw [rs.l] at this;exact this
   obtain ⟨tr,hU,fq⟩:=rs.g i ss[i] (zA0 hi)
   have:x=.ref tr:=by
    rw [hx] at hU;exact zAl hU
   subst this;have eg:ss.getD i []=ss[i]:=getD_get hi
   have dA:ss.take (i+1)=ss.take i++[ss[i]]:=by
    rw [zAj,zA0 hi];rfl
   have l5:=h5 _ (zAh hi);have dT:=dt.same (Same.upd (o:=.tup [V.int i,V.ref tr]) nT);have tS:=dT.sm _ _ fq;generalize IS:ss[i]=s at eg dA l5 tS;generalize Ma:ss.take i=sa at dT dA;have hH:cu ps sa s=cu ps (ss.take i) (ss.getD i []):=by rw [Ma,eg]
   obtain ⟨n,ea⟩:∃ n,fl s 0=n:=⟨_,rfl⟩
   obtain ⟨a,eb⟩:∃ n,fl s 1=n:=⟨_,rfl⟩
   obtain ⟨b,ec⟩:∃ n,fl s 2=n:=⟨_,rfl⟩
   obtain ⟨k,ed⟩:∃ n,fl s 3=n:=⟨_,rfl⟩
   obtain ⟨y,ee⟩:∃ n,fl s 4=n:=⟨_,rfl⟩
   have JC:upd Hc T0 (.tup [V.int i,V.ref tr]) tr=some (.tup [.int n,.int a,.int b,.int k,.int y]):=by
    rw [tS,jb l5,ea,eb,ec,ed,ee];rfl
   refine ⟨T0,_,rfl,SqT.of aj,rfl,_,_,rfl,_,_,rfl,?_⟩;refine ⟨tr,_,rfl,SqT.of JC,rfl,_,_,rfl,_,_,rfl,_,_,rfl,_,_,rfl,_,_,rfl,rfl,rfl,?_⟩;generalize upd Hc T0 (.tup [V.int i,V.ref tr])=H2 at dT ⊢;clear dt nT tS JC fq
   have bad:∀ {Hd:Hp},Same H Hd->cu ps sa s=false->∀ t,Hd t=none->Q (.ref t) (upd Hd t (.tup [.ref fo,.int i])):=fun {Hd} sd hf t ht=>by
    have eu:un ps ss=some i:=uZ hh hi (by rw [<- hH];exact hf);refine q t fo _ (sd.updR ht) (by rw [aj,eu];rfl) fun z=>?_;rw [eu] at z;cases z
   have JD:=holds_iff (ps:=ps) (sa:=sa) ea eb ec ed ee
   have gN:¬ ((dom ps n y/\(0<=a/\a < 8)/\(0<=b/\b < 8)/\a≠b/\(1<=k/\k<=99))/\∀ z,dom ps n z->y<=z->k<=(hl ps sa n z).getD a.toNat 0)->cu ps sa s=false:=fun h=>by
    cases z:cu ps sa s with
    | false=>rfl
    | true=>exact absurd (JD.mp z) h
   refine aF ?_;refine ⟨_,rfl,_,rfl,rfl,_,rfl,?_⟩;by_cases oj:a=b
   ·rw [zAt (by rw [oj])];exact bV (bV ⟨_,rfl,_,rfl,zL,fun t ht=>bad dT.sm (gN fun h=>h.1.2.2.2.1 oj) t ht⟩)
   rw [zB1 (fun z=>oj (by injection z))];refine bI ⟨_,rfl,_,rfl,_,_,rfl,_,_,rfl,rfl,_,rfl,?_⟩;by_cases kB:(if b < a then b else a) < 0
   ·rw [zAt kB];refine bV (bV ⟨_,rfl,_,rfl,zL,fun t ht=>bad dT.sm (gN fun h=>?_) t ht⟩);have:=h.1.2.1;have:=h.1.2.2.1;split at kB <;> lia
   rw [zB1 kB];refine bI ⟨_,rfl,_,rfl,_,_,rfl,_,_,rfl,rfl,_,rfl,?_⟩;by_cases kC:(if b > a then b else a) > 7
   ·rw [zAt kC];refine bV (bV ⟨_,rfl,_,rfl,zL,fun t ht=>bad dT.sm (gN fun h=>?_) t ht⟩);have:=h.1.2.1;have:=h.1.2.2.1;split at kC <;> lia
   rw [zB1 kC];have ha:0<=a/\a < 8:=by split at kB <;> split at kC <;> lia
   have hb:0<=b/\b < 8:=by split at kB <;> split at kC <;> lia
   refine bI ⟨_,rfl,_,rfl,zL,fun tk mM=>?_⟩;have dK:=dT.same (Same.upd (o:=.tup [V.int n,V.int y]) mM);refine ⟨_,rfl,fo,_,rfl,DGet.t (k:=ky n y) dK.e aj,_,rfl,?_⟩;generalize upd H2 tk (.tup [V.int n,V.int y])=H3 at dK ⊢;by_cases hd:¬ dom ps n y
   ·rw [dK.no n y hd];exact bV ⟨_,rfl,_,rfl,zL,fun t ht=>bad dK.sm (gN fun h=>hd h.1.1) t ht⟩
   have hd:=Classical.not_not.mp hd;obtain ⟨d1,v1,_⟩:=dK.g n y hd;rw [v1];refine bI (dw ?_);dsimp only;clear v1 dT mM;refine aF ?_;refine ⟨fo,kvs0,dK.e,fun ob=>?_⟩;have ez:=aj (H:=H3) (a:=fo) (o:=.frz ob (.dT kvs0))
   have kz:∀ b u,b≠fo->H3 b=some u->upd H3 fo (.frz ob (.dT kvs0)) b=some u:=fun b u n e=>by
    rw [aA n];exact e
   generalize upd H3 fo (.frz ob (.dT kvs0))=Hz at ez kz ⊢;refine ⟨_,rfl,fo,ob,_,rfl,ez,gD kvs0.length (fun j ys σ Hd=>Same Hz Hd/\(∃ o1 o2,σ=[o1,o2,some (.int n),some (.int y)])/\ys=((kvs0.take j).filterMap (yk n y)).map V.int) ⟨Same.refl _,⟨_,_,rfl⟩,rfl⟩ (by rw [sizeLine_eq];lia) ?_ ?_⟩
   ·rintro j ys σ Hd hj hy ⟨sd,⟨o1,o2,rfl⟩,rfl⟩;refine ⟨⟨sd _ _ ez,hj⟩,fun x H' yv R hR=>?_⟩;obtain ⟨rfl,bb,kk,vv,rfl,JE,EH⟩:=yv;obtain ⟨n',z',rfl,rq⟩:=dK.kk kk (zA5.mpr ⟨(kk,vv),zBa JE,rfl⟩);have EH:H' bb=some (.tup [.int n',.int z']):=EH
    have EI:(kvs0.take (j+1)).filterMap (yk n y)=(kvs0.take j).filterMap (yk n y)++(if n'=n/\y<=z' then [z'] else []):=by
     rw [zAj,JE,List.filterMap_append];congr 1;have e0:yk n y (ky n' z',vv)=if n'=n/\y<=z' then some z' else none:=rfl;show [(ky n' z',vv)].filterMap (yk n y)=_;rw [List.filterMap_cons,e0];by_cases hc:n'=n/\y<=z'
     ·rw [zAx hc,zAx hc];rfl
     ·rw [zAu hc,zAu hc];rfl
    refine ⟨bb,_,rfl,SqT.of EH,rfl,_,_,rfl,_,_,rfl,rfl,?_⟩;refine ⟨_,rfl,_,rfl,rfl,_,rfl,?_⟩;by_cases h1:n'=n
    ·rw [zAt (by rw [h1])];refine bV ⟨_,rfl,_,rfl,_,_,rfl,rfl,_,rfl,?_⟩;by_cases h2:z' ≥ y
     ·rw [zAt h2];refine bV ⟨_,rfl,hR _ _ _ (by rw [zA2];show _+1<=j+1;lia) ⟨sd,⟨_,_,rfl⟩,?_⟩⟩;rw [EI,zAx ⟨h1,h2⟩,zA4];rfl
     ·rw [zB1 h2];refine bI (hR _ _ _ (by lia) ⟨sd,⟨_,_,rfl⟩,?_⟩);rw [EI,zAu (fun w=>h2 w.2),zAn]
    ·rw [zB1 (fun z=>h1 (by injection z))];refine bI (bI (hR _ _ _ (by lia) ⟨sd,⟨_,_,rfl⟩,?_⟩));rw [EI,zAu (fun w=>h1 w.1),zAn]
   rintro ys σ Hd hy ⟨sd,_,rfl⟩;rw [zAm];refine ⟨⟨sd _ _ ez,zA3 _⟩,fun Ly mn=>⟨Same.upd mn _ _ (sd _ _ ez),?_⟩⟩
   obtain ⟨zs,zI⟩:∃ zs,zs=kvs0.filterMap (yk n y):=⟨_,rfl⟩
   have rL:∀ z,z∈zs↔dom ps n z/\y<=z:=fun z=>by
    rw [zI,List.mem_filterMap];constructor
    ·rintro ⟨⟨kk,vv⟩,hp,e⟩;obtain ⟨n',z',rfl,rq⟩:=dK.kk kk (zA5.mpr ⟨_,hp,rfl⟩);have e:(if n'=n/\y<=z' then some z' else none)=some z:=e;by_cases hc:n'=n/\y<=z'
     ·rw [zAx hc] at e;cases e;obtain ⟨rfl,h2⟩:=hc;exact ⟨rq,h2⟩
     ·rw [zAu hc] at e;cases e
    ·rintro ⟨h1,h2⟩;obtain ⟨d,v,_⟩:=dK.g n z h1
     have:(ky n z)∈kvs0.map (·.1):=by
      have hs:(cQ kvs0 (ky n z)).isSome=true:=by rw [v];rfl
      rw [<- eG,List.any_eq_true] at hs;obtain ⟨p,hp,e⟩:=hs;exact zA5.mpr ⟨p,hp,zB6 e⟩
     obtain ⟨p,hp,e⟩:=zA5.mp this;refine ⟨p,hp,?_⟩;unfold yk;rw [show p.1=ky n z from e];show (if n=n/\y<=z then some z else none)=some z;rw [zAx ⟨rfl,h2⟩]
   have Mb:zs.Nodup:=by
    rw [zI]
    have:∀ {l:List (List Key×V)},(l.map (·.1)).Nodup->(∀ k∈l.map (·.1),∃ n y,k=ky n y)->(l.filterMap (yk n y)).Nodup:=fun {l}=>by
     induction l with
     | nil=>exact fun _ _=>List.nodup_nil
     | cons p l ih =>
      intro nd kk;rw [zAk,List.nodup_cons] at nd
      have i1:=ih nd.2 fun k hk=>kk k (zA5.mpr (by
       obtain ⟨q,hq,e⟩:=zA5.mp hk
       exact ⟨q,.tail _ hq,e⟩))
      rw [List.filterMap_cons];obtain ⟨n',z',e'⟩:=kk p.1 (zA5.mpr ⟨p,.head _,rfl⟩)
      cases e:yk n y p with
      | none=>exact i1
      | some z =>
       refine List.nodup_cons.mpr ⟨fun hm=>?_,i1⟩;obtain ⟨q,hq,eq⟩:=List.mem_filterMap.mp hm;obtain ⟨n2,z2,e2⟩:=kk q.1 (zA5.mpr ⟨q,.tail _ hq,rfl⟩)
       have key:∀ {r:List Key×V} {n3 z3 z:Int},r.1=ky n3 z3->yk n y r=some z->n3=n/\z3=z:=fun {r n3 z3 z} h1 h2=>by
        unfold yk at h2;rw [h1] at h2;have h2:(if n3=n/\y<=z3 then some z3 else none)=some z:=h2;by_cases hc:n3=n/\y<=z3
        ·rw [zAx hc] at h2;cases h2;exact ⟨hc.1,rfl⟩
        ·rw [zAu hc] at h2;cases h2
       obtain ⟨w1,w2⟩:=key e' e;obtain ⟨w3,w4⟩:=key e2 eq;exact nd.1 (zA5.mpr ⟨q,hq,by show q.1=p.1;rw [e',e2,w1,w2,w3,w4]⟩)
    exact this dK.kd fun k hk=>by
     obtain ⟨n,y,a,_⟩:=dK.kk k hk;exact ⟨n,y,a⟩
   have Q3:zs.length<=200:=by
    rw [zI];have:=List.length_filterMap_le (yk n y) kvs0;lia
   rw [<- zI]
   have nD:Ly≠fo:=fun z=>by rw [z,sd _ _ ez] at mn;cases mn
   have S6:Same H3 (upd (upd Hd Ly (.lst (zs.map V.int))) fo (.dT kvs0)):=fun b u e=>by
    by_cases tT:b=fo
    ·subst tT;rw [dK.e] at e;cases e;exact aj
    ·rw [aA tT];exact Same.upd mn _ _ (sd _ _ (kz _ _ tT e))
   have rS:upd (upd Hd Ly (.lst (zs.map V.int))) fo (.dT kvs0) Ly=some (.lst (zs.map V.int)):=by rw [aA nD];exact aj
   have d6:=dK.same S6
   have Mc:H Ly=none:=by
    cases z:H Ly with
    | none=>rfl
    | some o =>
     by_cases tT:Ly=fo
     ·exact absurd tT nD
     ·rw [sd _ _ (kz _ _ tT (dK.sm _ _ z))] at mn;cases mn
   have EJ:∀ m z d,cQ kvs0 (ky m z)=some (.ref d)->d≠Ly:=fun m z d hv w=>by
    by_cases hm:dom ps m z
    ·obtain ⟨d',q1,q2⟩:=dK.g m z hm;rw [hv] at q1;cases q1;rw [w] at q2;rw [sd _ _ (kz _ _ nD q2)] at mn;cases mn
    ·rw [dK.no m z hm] at hv;cases hv
   generalize upd (upd Hd Ly (.lst (zs.map V.int))) fo (.dT kvs0)=H6 at S6 rS d6 ⊢;clear S6 dK mn sd ez kz hy zI;dsimp only;refine aF (aX ?_);refine ⟨_,rfl,Ly,rfl,⟨_,SqL.of rS⟩,bu zs.length (fun j ys σ Hc=>Same H6 Hc/\(∃ o1,σ=[o1,some (.ref fo),some (.int n),some (.int a)])/\ys=(((zs.take j).map fun z=>(hl ps sa n z).getD a.toNat 0):List Int).map V.int) ⟨Same.refl _,⟨_,rfl⟩,rfl⟩ (by rw [sizeLine_eq];lia) ?_ ?_⟩
   ·rintro j ys σ Hc hj hy ⟨sc,⟨o1,rfl⟩,rfl⟩;have ex:(zs.map V.int)[j]?=some (.int zs[j]):=by rw [zAb,zA0 hj];rfl
    refine ⟨⟨_,_,SqL.of (sc _ _ rS),ex⟩,fun v H' y' R hR=>?_⟩;obtain ⟨rfl,y'⟩:=y';have hv:=y' _ (SqL.of (sc _ _ rS));rw [ex] at hv;cases hv;refine aM ?_;obtain ⟨rq,_⟩:=(rL zs[j]).mp (zAh hj);obtain ⟨d,v1,v2⟩:=(d6.same sc).g n zs[j] rq;refine ⟨_,rfl,_,rfl,_,rfl,zL,fun tk mM=>?_⟩;have u:=Same.upd (o:=.tup [V.int n,V.int zs[j]]) mM
    have f7:atI ((hl ps sa n zs[j]).map V.int) a=some (.int ((hl ps sa n zs[j]).getD a.toNat 0)):=by
     have Jd:=zz ps sa n zs[j]
     have:((hl ps sa n zs[j]).map V.int)[a.toNat]?=some (.int ((hl ps sa n zs[j]).getD a.toNat 0)):=by
      rw [zAb,zA7,zA0 (by lia)];rfl
     have:=bQ this;rw [show ((a.toNat:Nat):Int)=a by lia] at this;exact this
    refine ⟨fo,.ref d,rfl,v1 ▸ DGet.t (k:=ky n zs[j]) (u _ _ (sc _ _ d6.e)) aj,_,rfl,d,_,a,_,rfl,rfl,SqL.of (u _ _ v2),f7,hR _ _ _ ⟨sc.updR mM,⟨_,rfl⟩,?_⟩⟩;rw [zAj,zA0 hj,zA4,zA4];rfl
   rintro ys σ Hc hy ⟨sc,_,rfl⟩;rw [zAm];refine ⟨⟨_,SqL.of (sc _ _ rS),by rw [zA1];exact zA3 _⟩,fun D hD=>⟨D,_,rfl,SqL.of aj,?_,fun M hM Md=>aM ?_⟩⟩
   ·have:=(rL y).mpr ⟨hd,Int.le_refl _⟩;intro z;rw [List.map_eq_nil_iff] at z;rw [z] at this;cases this
   have d7:=(d6.same sc).same (Same.upd (o:=.lst (((zs.map fun z=>(hl ps sa n z).getD a.toNat 0):List Int).map V.int)) hD);have rV:=Same.upd (o:=.lst (((zs.map fun z=>(hl ps sa n z).getD a.toNat 0):List Int).map V.int)) hD _ _ (sc _ _ rS);generalize upd Hc D (.lst (((zs.map fun z=>(hl ps sa n z).getD a.toNat 0):List Int).map V.int))=H7 at d7 rV ⊢;clear d6 sc hD rS hy;dsimp only;refine aF ?_;refine cB (p:=fun i j=>decide (i<=j)) (q:=fun i j=>decide (i<=j)) (i:=1) (j:=k) (k:=99) fV (eO rfl) fV _ ⟨_,rfl,?_⟩;dsimp only
   cases ek:(decide (1<=k) && decide (k<=99)) with
   | false =>
    refine bV (bV ⟨_,rfl,_,rfl,zL,fun t ht=>bad d7.sm (gN fun h=>?_) t ht⟩);rw [zAt h.1.2.2.2.2.1,zAt h.1.2.2.2.2.2] at ek;cases ek
   | true =>
   obtain ⟨k1,k2⟩:=Bool.and_eq_true_iff.mp ek;have k1:=zB6 k1;have k2:=zB6 k2;refine bI ⟨_,rfl,_,rfl,_,_,rfl,rfl,_,rfl,?_⟩;by_cases JF:M < k
   ·rw [zAt JF];refine bV ⟨_,rfl,_,rfl,zL,fun t ht=>bad d7.sm (gN fun h=>?_) t ht⟩;obtain ⟨z,hz,rfl⟩:=zA5.mp hM;have:=h.2 z ((rL z).mp hz).1 ((rL z).mp hz).2;lia
   rw [decide_eq_false JF];refine bI (dw ?_);dsimp only
   have good:cu ps sa s=true:=JD.mpr ⟨⟨hd,ha,hb,oj,k1,k2⟩,fun z h1 h2=>by
    have:=Md _ (zA5.mpr ⟨z,(rL z).mpr ⟨h1,h2⟩,rfl⟩)
    lia⟩
   clear bad gN
   have Q4:∀ (j:Nat),∃ fm:Int->Int->List Int,fm=fun n' z'=>if n'=n/\z'∈zs.take j then hstep n z' (hl ps sa n z') s else hl ps sa n' z':=fun j=>⟨_,rfl⟩
   refine ⟨_,rfl,Ly,rfl,⟨_,SqL.of rV⟩,?_⟩;refine kW (xs:=zs.map V.int) (fun j σ Hd=>∃ eJ,σ=[some (.ref ap),some (.ref ah),some (.ref fo),some (.int n),x4,x5,x6,x7,some (.int k),x9,some (.int y),some (.int i),some (.int a),some (.int b),some (.ref Ly),some (.int M),eJ]/\Lts fo H Hd (dom ps) (fun n' z'=>if n'=n/\z'∈zs.take j then hstep n z' (hl ps sa n z') s else hl ps sa n' z') kvs0/\Hd Ly=some (.lst (zs.map V.int))) ?_ ?_ ?_ ?_
   ·refine ⟨_,rfl,d7.cast fun n' z' _=>?_,rV⟩;rw [List.take_zero,zAu (fun w=>by cases w.2)]
   ·rintro j σ Hd hj ⟨eJ,rfl,dj,eL⟩;exact SqL.of eL
   ·rintro j v σ Hd hv ⟨eJ,rfl,dj,eL⟩
    have hj:j < zs.length:=by
     have:=(zAa.mp hv).1;rw [zA1] at this;exact this
    have ev:v=.int zs[j]:=by
     rw [zAb,zA0 hj] at hv;exact (zAl hv).symm
    subst ev;obtain ⟨rq,JG⟩:=(rL zs[j]).mp (zAh hj)
    have JH:¬ (zs[j]∈zs.take j):=fun hm=>by
     obtain ⟨j',nE,e⟩:=List.getElem_of_mem hm;rw [zAd] at nE;rw [List.getElem_take] at e;exact List.pairwise_iff_getElem.mp Mb j' j (by lia) hj (by lia) e
    generalize hz:zs[j]=z at rq JG JH ⊢
    obtain ⟨L,EK⟩:∃ L,L=hl ps sa n z:=⟨_,rfl⟩
    have l8:L.length=8:=by rw [EK];exact zz _ _ _ _
    obtain ⟨d,v1,v2⟩:=dj.g n z rq;rw [zAu (fun w=>JH w.2),<- EK] at v2;have JI:=EJ n z d v1
    have tF:∀ {c:Int} {L:List Int},L.length=8->0<=c/\c < 8->ixN (L.map V.int).length c=some c.toNat/\atI (L.map V.int) c=some (.int (L.getD c.toNat 0)):=fun {c L} l8 hc=>by
     refine ⟨?_,?_⟩
     ·unfold ixN;rw [zA1,l8,zAx hc.1,zAx (by lia)]
     ·have:(L.map V.int)[c.toNat]?=some (.int (L.getD c.toNat 0)):=by
       rw [zAb,zA7,zA0 (by lia)];rfl
      have:=bQ this;rw [show ((c.toNat:Nat):Int)=c by lia] at this;exact this
    refine aM ?_;refine wY fun De zw=>?_;refine aF (aX ?_);refine ⟨_,rfl,_,rfl,_,rfl,zL,fun t1 h1=>?_⟩;have w1:=Same.upd (o:=.tup [V.int n,V.int z]) h1;refine ⟨fo,.ref d,rfl,v1 ▸ DGet.t (k:=ky n z) (w1 _ _ dj.e) aj,_,rfl,d,_,a,_,rfl,rfl,SqL.of (w1 _ _ v2),(tF l8 ha).2,_,rfl,_,_,rfl,rfl,?_⟩;have d1:=dj.same w1;have EM:=w1 _ _ v2;have EN:=w1 _ _ eL;generalize upd Hd t1 (.tup [V.int n,V.int z])=Ha at d1 EM EN ⊢;refine ⟨_,rfl,_,rfl,_,rfl,zL,fun t2 h2=>?_⟩;have w2:=Same.upd (o:=.tup [V.int n,V.int z]) h2;refine ⟨fo,.ref d,rfl,v1 ▸ DGet.t (k:=ky n z) (w2 _ _ d1.e) aj,_,rfl,d,_,a,_,rfl,rfl,w2 _ _ EM,(tF l8 ha).1,?_⟩;have d2:=d1.same w2;have EO:=w2 _ _ EN;generalize upd Ha t2 (.tup [V.int n,V.int z])=Hb at d2 EO ⊢;rw [show (L.map V.int).set a.toNat (.int (L.getD a.toNat 0 - k))=(fK L a (-k)).map V.int by unfold fK;rw [List.map_set];rfl]
    obtain ⟨L1,rX⟩:∃ L1,L1=fK L a (-k):=⟨_,rfl⟩
    rw [<- rX];have JJ:L1.length=8:=by rw [rX,gA];exact l8
    have d3:=d2.wr (f':=fun n' z'=>if n'=n/\z'=z then L1 else if n'=n/\z'∈zs.take j then hstep n z' (hl ps sa n z') s else hl ps sa n' z') (L:=L1) v1 (by rw [zAx ⟨rfl,rfl⟩]) fun n' z' _ e8=>by rw [zAu e8]
    have e3:=aj (H:=Hb) (a:=d) (o:=.lst (L1.map V.int));have JK:upd Hb d (.lst (L1.map V.int)) Ly=some (.lst (zs.map V.int)):=by rw [aA JI.symm];exact EO
    generalize upd Hb d (.lst (L1.map V.int))=Hc at d3 e3 JK ⊢;clear d1 d2 EM EN EO w1 w2 h1 h2 dj v2 eL;dsimp only;refine aX ?_;refine ⟨_,rfl,_,rfl,_,rfl,zL,fun t1 h1=>?_⟩;have w1:=Same.upd (o:=.tup [V.int n,V.int z]) h1;refine ⟨fo,.ref d,rfl,v1 ▸ DGet.t (k:=ky n z) (w1 _ _ d3.e) aj,_,rfl,d,_,b,_,rfl,rfl,SqL.of (w1 _ _ e3),(tF JJ hb).2,_,rfl,_,_,rfl,rfl,?_⟩;have d4:=d3.same w1;have e4:=w1 _ _ e3;have JL:=w1 _ _ JK;generalize upd Hc t1 (.tup [V.int n,V.int z])=Ha at d4 e4 JL ⊢;refine ⟨_,rfl,_,rfl,_,rfl,zL,fun t2 h2=>?_⟩;have w2:=Same.upd (o:=.tup [V.int n,V.int z]) h2;refine ⟨fo,.ref d,rfl,v1 ▸ DGet.t (k:=ky n z) (w2 _ _ d4.e) aj,_,rfl,d,_,b,_,rfl,rfl,w2 _ _ e4,(tF JJ hb).1,?_⟩;have d5:=d4.same w2;have JM:=w2 _ _ JL;generalize upd Ha t2 (.tup [V.int n,V.int z])=Hb at d5 JM ⊢;rw [show (L1.map V.int).set b.toNat (.int (L1.getD b.toNat 0+k))=(fK L1 b k).map V.int by unfold fK;rw [List.map_set]]
    have hs:hstep n z L s=fK L1 b k:=by
     unfold hstep;rw [ea,eb,ec,ed,ee,zAx ⟨rfl,JG⟩,rX]
    refine zw _ _ ⟨_,rfl,d5.wr (L:=fK L1 b k) v1 ?_ fun n' z' _ e8=>?_,by rw [aA JI.symm];exact JM⟩
    ·rw [zAx ⟨rfl,by rw [zAj,zA0 hj,hz];exact zA6.mpr (.inr (.head _))⟩,<- hs,EK]
    ·rw [zAu e8]
     have:(n'=n/\z'∈zs.take (j+1))↔(n'=n/\z'∈zs.take j):=by
      rw [zAj,zA0 hj,hz];constructor
      ·rintro ⟨g1,g2⟩;refine ⟨g1,?_⟩;rcases zA6.mp g2 with w | w
       ·exact w
       ·exact absurd ⟨g1,List.mem_singleton.mp w⟩ e8
      ·rintro ⟨g1,g2⟩;exact ⟨g1,zA6.mpr (.inl g2)⟩
     by_cases hc:n'=n/\z'∈zs.take j
     ·rw [zAx hc,zAx (this.mpr hc)]
     ·rw [zAu hc,zAu fun w=>hc (this.mp w)]
   ·rintro σ Hd ⟨eJ,rfl,dj,eL⟩;rw [zA1,zAm] at dj;refine ⟨_,_,_,_,_,_,_,_,_,_,_,_,_,_,rfl,dj.cast fun n' z' AU=>?_,fun j' nE=>?_⟩
    ·rw [dA,BX AU];by_cases hc:n'=n/\z'∈zs
     ·obtain ⟨rfl,hc⟩:=hc;rw [zAx ⟨rfl,hc⟩]
     ·rw [zAu hc];unfold hstep;rw [ea,ee,zAu fun w=>hc ⟨w.1.symm,(rL z').mpr ⟨by rw [w.1];exact AU,w.2⟩⟩]
    ·by_cases aT:j' < i
     ·exact hh j' aT
     ·have:j'=i:=by lia
      rw [this,<- hH];exact good
  rintro σ Hc ⟨x3,x4,x5,x6,x7,x8,x9,df,cx,cy,cE,cK,de,eJ,rfl,dt,hh⟩;have hu:un ps ss=none:=v7 fun j hj=>hh j (by rw [rs.l];exact hj);dsimp only;refine ⟨_,rfl,zL,fun t ht=>?_⟩
  refine q t fo _ (dt.sm.updR ht) (by rw [aj,hu];rfl) fun _=>⟨kvs0,?_⟩
  have:=dt.same (Same.upd (o:=.tup [V.ref fo,V.non]) ht);rw [rs.l,zAm] at this;exact this
end K92
namespace K92Q
open PySem L2 K92P
def okC (r:List Int):Prop:=r.length=3/\∀ x∈r,0<=x/\x < 1000
def smR (s:List Int):Prop:=s.length=5/\∀ i∈s,-10<=i/\i<=2000000
inductive SpClipsI (vs:List V)(H:Hp)(Q:VK):Prop
 | mk:∀ st n,(vs=[.ref st,.int n])->(StAt H st)->(1<=n)->(n<=20)->(∀ ac xc cs H',Dr st H H'->K92.RowsAt H' ac xc cs->1<=cs.length->(cs.length:Int)<=n->(∀ r∈cs,okC r)->Q (.ref ac) H')->SpClipsI  vs H Q
def vp:Sp:=fun vs H Q _=>SpClipsI  vs H Q
inductive SpPromI (vs:List V)(H:Hp)(Q:VK):Prop
 | mk:∀ st y,(vs=[.ref st,.int y])->(StAt H st)->(0<=y)->(y<=1000)->(∀ t r H',Dr st H H'->H' t=some (.tup (r.map V.int))->K92.okP r->Q (.ref t) H')->SpPromI  vs H Q
def zB:Sp:=fun vs H Q _=>SpPromI  vs H Q
inductive SpSaleI (vs:List V)(H:Hp)(Q:VK):Prop
 | mk:∀ st ap xp ps,(vs=[.ref st,.ref ap])->(StAt H st)->(K92.RowsAt H ap xp ps)->(ps.length<=10)->((∀ r∈ps,K92.okP r))->(∀ t s H',Dr st H H'->H' t=some (.tup (s.map V.int))->smR s->Q (.ref t) H')->SpSaleI  vs H Q
def zE:Sp:=fun vs H Q _=>SpSaleI  vs H Q
inductive SpBookI (vs:List V)(H:Hp)(Q:VK):Prop
 | mk:∀ (st:Addr) (y m:Int),(vs=[.ref st,.int y,.int m])->(StAt H st)->(1<=y)->(y<=20)->(0<=m)->(m<=10)->(∀ a ac xc cs ap xp ps ah xs ss H',Dr st H H'->H' a=some (.tup [.ref ac,.ref ap,.ref ah])->K92.RowsAt H' ac xc cs->1<=cs.length->(cs.length:Int)<=y->(∀ r∈cs,okC r)->K92.RowsAt H' ap xp ps->(ps.length:Int)<=m->(∀ r∈ps,K92.okP r)->K92.RowsAt H' ah xs ss->ss.length<=6->(∀ s∈ss,smR s)->K92.un ps ss=none->Q (.ref a) H')->SpBookI  vs H Q
def spBook:Sp:=fun vs H Q _=>SpBookI  vs H Q
theorem _root_.K92P.Dr.new {st p:Addr}{o:HO}{H H1:Hp}(g:Dr st H H1)(hp:H1 p=none):Dr st H (upd H1 p o):=g.same (Same.upd hp)
theorem _root_.K92P.Dr.rows {st a:Addr}{H H':Hp}{xs:List V}{rs:List (List Int)}(g:Dr st H H')(h0:StAt H st)(r:K92.RowsAt H a xs rs):K92.RowsAt H' a xs rs:=r.keep (g.tups h0)
theorem gH {X:Cx}{i j k:Int}{a b c p q r pos}:BE X (.List [.Constant (.int i) a p,.Constant (.int j) b q,.Constant (.int k) c r] pos) (Ak (Cy [i,j,k])):=⟨dN (jT (.cons (.cons (.cons .nil))))⟩
section
variable {P:Program}{w:World}{K:PySem.W.Frag}{mg:Str->Option Value}{base:Heap}{f:Addr}{fd:FuncData}
theorem ndC:(["_law_year","_law_state_here","_law_wide"]:List Str).Nodup:=by decide +kernel
theorem scC:FnScope ["_law_state_here","_law_most","_law_wide","_law_many"] ["_law_state_here","_law_most"] (aK (top 77)):=fS
theorem ok_clips (F:Fun K "_law_clips" "_law_clips" (top 77) f fd)(T:Mg mg)(Tr:mg "range" = none)(c1:Cal P w K mg base 1 "_law_choice" ["_law_state_here","_law_many"] spChoice):FnOk P w K mg base CX0 2 f fd ["_law_state_here","_law_most"] vp:=by
 refine F.ok scC (fun vs H Q E h=>?_) (fun av A outer s H vs Q E hr h=>?_)
 ·obtain ⟨st,n,rfl,_⟩:=h;rfl
 ·obtain ⟨st,n,rfl,gp,n0,n1,q⟩:=h
  refine ok_b (aP (lU (i:=2) scC.nd rfl (Or.inr rfl) (xZ bL (qg (fW gH (fW gH (fW gH (fW gH (fW gH fj)))))) ⟨aD c1 hr (aq (pv 0) (aq az aa))⟩ (fun _ _=>rfl)))
   (aP ⟨pss 3 scC.nd (aV bC az (aD c1 hr (aq (pv 0) (aq (pv 1) aa))))⟩
   (cG ⟨aR (bO bH rfl T.tuple boot_tuple (aq (bA ["_law_year","_law_state_here","_law_wide"] [none,some 0,some 2] rfl (bN rfl Tr (aq (pv 3) aa))
    (fun C fp pins s₂ H₂=>⟨pgn 0 ndC,bh,bO (call_tuple_ofK (K:=K) rfl) rfl T.tuple boot_tuple (aq
     (bA ["_law_one","_law_state_here"] [none,some 1] rfl (yH (K:=K) rfl (pv 2)) (fun C fp pins s₂ H₂=>⟨aZ (i:=0) (nd2 _ _ (by decide)) rfl (Or.inl rfl),bh,aD c1 hr (aq (pv 1) (aq (pv 0) aa))⟩)
      (fun C=>cI trivial) ⟨rfl,rfl,rfl,rfl⟩) aa)⟩)
    (fun C=>cI (cI trivial)) ⟨rfl,rfl,rfl,rfl⟩) aa))⟩))) ?_
  refine aF (aX ?_);refine ⟨zL,fun l1 h1=>⟨zL,fun l2 h2=>⟨zL,fun l3 h3=>⟨zL,fun l4 h4=>⟨zL,fun l5 h5=>⟨zL,fun L hL=>?_⟩⟩⟩⟩⟩⟩;have m1:=Same.upd (o:=.lst (([3,3,3]:List Int).map V.int)) h1;have m2:=Same.upd (o:=.lst (([12,30,30]:List Int).map V.int)) h2;have m3:=Same.upd (o:=.lst (([60,3,200]:List Int).map V.int)) h3;have m4:=Same.upd (o:=.lst (([1,1,1]:List Int).map V.int)) h4;have m5:=Same.upd (o:=.lst (([1000,1000,1000]:List Int).map V.int)) h5;have m6:=Same.upd (o:=.lst [V.ref l1,V.ref l2,V.ref l3,V.ref l4,V.ref l5]) hL;have f5:=m6 _ _ (aj (a:=l5) (o:=.lst (([1000,1000,1000]:List Int).map V.int)));have f4:=m6 _ _ (m5 _ _ (aj (a:=l4) (o:=.lst (([1,1,1]:List Int).map V.int))));have f3:=m6 _ _ (m5 _ _ (m4 _ _ (aj (a:=l3) (o:=.lst (([60,3,200]:List Int).map V.int)))));have f2:=m6 _ _ (m5 _ _ (m4 _ _ (m3 _ _ (aj (a:=l2) (o:=.lst (([12,30,30]:List Int).map V.int))))));have f1:=m6 _ _ (m5 _ _ (m4 _ _ (m3 _ _ (m2 _ _ (aj (a:=l1) (o:=.lst (([3,3,3]:List Int).map V.int)))))));have ms:=m1.trans (m2.trans (m3.trans (m4.trans (m5.trans m6))));have fL:upd (upd (upd (upd (upd (upd H l1 (.lst (([3,3,3]:List Int).map V.int))) l2 (.lst (([12,30,30]:List Int).map V.int))) l3 (.lst (([60,3,200]:List Int).map V.int))) l4 (.lst (([1,1,1]:List Int).map V.int))) l5 (.lst (([1000,1000,1000]:List Int).map V.int))) L (.lst [V.ref l1,V.ref l2,V.ref l3,V.ref l4,V.ref l5]) L=some (.lst [V.ref l1,V.ref l2,V.ref l3,V.ref l4,V.ref l5]):=aj
  have old:∀ b o,H b=some o->b≠l1/\b≠l2/\b≠l3/\b≠l4/\b≠l5/\b≠L:=fun b o e=>⟨aC e h1,aC (m1 _ _ e) h2,aC (m2 _ _ (m1 _ _ e)) h3,aC (m3 _ _ (m2 _ _ (m1 _ _ e))) h4,aC (m4 _ _ (m3 _ _ (m2 _ _ (m1 _ _ e)))) h5,aC (m5 _ _ (m4 _ _ (m3 _ _ (m2 _ _ (m1 _ _ e))))) hL⟩
  obtain ⟨a0,b0,c0,Me,_⟩:=id gp;obtain ⟨v1,v2,v3,v4,v5,v6⟩:=old _ _ Me;generalize upd (upd (upd (upd (upd (upd H l1 _) l2 _) l3 _) l4 _) l5 _) L _=H1 at f1 f2 f3 f4 f5 fL ms ⊢;clear m1 m2 m3 m4 m5 m6 h1 h2 h3 h4 h5 hL old
  have se:StAt H1 st:=by
   obtain ⟨a,b,c,e,h⟩:=gp;exact ⟨a,b,c,ms _ _ e,h⟩
  have g1:Dr st H H1:=⟨fun b o e _=>ms _ _ e,se⟩
  refine ⟨_,rfl,st,5,rfl,se,by decide,by decide,fun r a b c r0 r1 a0 b0 b1=>?_⟩
  have zS:∃ wd ws,([V.ref l1,V.ref l2,V.ref l3,V.ref l4,V.ref l5]:List V)[r.toNat]?=some (.ref wd)/\H1 wd=some (.lst ((ws:List Int).map V.int))/\wd≠st/\ws.length=3/\∀ x∈ws,1<=x/\x<=1000:=by
   have:r.toNat=0\/r.toNat=1\/r.toNat=2\/r.toNat=3\/r.toNat=4:=by lia
   rcases this with z | z | z | z | z <;> rw [z]
   ·exact ⟨l1,_,rfl,f1,v1.symm,rfl,by decide⟩
   ·exact ⟨l2,_,rfl,f2,v2.symm,rfl,by decide⟩
   ·exact ⟨l3,_,rfl,f3,v3.symm,rfl,by decide⟩
   ·exact ⟨l4,_,rfl,f4,v4.symm,rfl,by decide⟩
   ·exact ⟨l5,_,rfl,f5,v5.symm,rfl,by decide⟩
  obtain ⟨wd,ws,ei,JN,Ap,Mf,bws⟩:=zS;have g2:Dr st H (upd H1 st (.lst [.int a,.int b,.int c])):=g1.draw a0 b0 b1;refine ⟨L,_,r,.ref wd,rfl,rfl,SqL.of (by rw [aA v6.symm];exact fL),?_,?_⟩
  ·have:=bQ ei;rw [show ((r.toNat:Nat):Int)=r by lia] at this;exact this
  have sf:upd H1 st (.lst [.int a,.int b,.int c]) wd=some (.lst (ws.map V.int)):=by
   rw [aA Ap];exact JN
  generalize upd H1 st (.lst [.int a,.int b,.int c])=H2 at g2 sf ⊢;clear f1 f2 f3 f4 f5 fL ms g1 se JN ei;refine aM ?_;dsimp only;refine aF ?_;refine ⟨_,rfl,_,rfl,st,n,rfl,g2.sa,n0,by lia,fun m a b c m0 m1 a0 b0 b1=>⟨_,_,rfl,rfl,?_⟩⟩;have g3:=g2.draw (c:=c) a0 b0 b1
  have As:upd H2 st (.lst [.int a,.int b,.int c]) wd=some (.lst (ws.map V.int)):=by
   rw [aA Ap];exact sf
  generalize upd H2 st (.lst [.int a,.int b,.int c])=H3 at g3 As ⊢;clear g2 sf;dsimp only;refine fX ?_;refine ⟨_,rfl,1+m,rfl,by lia,by lia,?_⟩
  have lz:(1+m).toNat < sizeLine:=by
   rw [sizeLine_eq];lia
  refine bu (1+m).toNat (fun i ys σ Hc=>Dr st H3 Hc/\(∃ o,σ=[o,some (.ref st),some (.ref wd)])/\∃ rows:List (List Int),rows.length=i/\(∀ r∈rows,okC r)/\IsThs (fun _=>False) Hc ys (rows.map K92.rowD)) ⟨Dr.refl g3.sa,⟨_,rfl⟩,[],rfl,fun _ h=>(List.not_mem_nil h).elim,.nil⟩ lz ?_ ?_
  ·rintro i ys σ Hc hi hy ⟨g4,⟨o,rfl⟩,rows,hZ,om,it⟩;refine ⟨hi,fun v H' y R hR=>?_⟩;obtain ⟨eH,rfl⟩:=y;subst H';refine aM ?_;have si:=g4.bt _ _ As Ap;refine ⟨_,rfl,wd,rfl,⟨_,SqL.of si⟩,bu 3 (fun j zs σ H5=>Dr st Hc H5/\(∃ o,σ=[o,some (.ref st)])/\∃ r:List Int,r.length=j/\(∀ n∈r,0<=n/\n < 1000)/\zs=r.map V.int) ⟨Dr.refl g4.sa,⟨_,rfl⟩,[],rfl,fun _ h=>(List.not_mem_nil h).elim,rfl⟩ (by decide) ?_ ?_⟩
   ·rintro j zs σ H5 hj hz ⟨g5,⟨o,rfl⟩,r,lr,br,rfl⟩;have Au:=g5.bt _ _ si Ap;have JO:j < ws.length:=by lia
    have ex:(ws.map V.int)[j]?=some (.int ws[j]):=by rw [zAb,zA0 JO];rfl
    refine ⟨⟨_,_,SqL.of Au,ex⟩,fun v H' y R hR=>?_⟩;obtain ⟨eH,y⟩:=y;subst H';have hv:=y _ (SqL.of Au);rw [ex] at hv;cases hv;have hb:=bws _ (zAh JO);refine aM ?_;refine ⟨_,rfl,_,rfl,st,_,rfl,g5.sa,hb.1,by lia,fun t a b c t0 t1 a0 b0 b1=>hR _ _ _ ⟨g5.draw a0 b0 b1,⟨_,rfl⟩,r++[t],by rw [zA2,lr];rfl,fun n hn=>?_,by rw [zA4];rfl⟩⟩;rcases zA6.mp hn with z | z
    ·exact br n z
    ·rw [List.mem_singleton.mp z];lia
   ·rintro zs σ H5 hz ⟨g5,_,r,lr,br,rfl⟩;refine ⟨⟨_,SqL.of (g5.bt _ _ si Ap),by rw [zA1,Mf];exact zA3 _⟩,fun D hD=>⟨D,_,rfl,.inl ⟨SqL.of aj,fun t ht=>?_⟩⟩⟩;have s6:=(Same.upd (o:=.lst (r.map V.int)) hD).updR (o:=.tup (r.map V.int)) ht;refine hR _ _ _ ⟨(g4.trans g5).same s6,⟨_,rfl⟩,rows++[r],by rw [zA2,hZ];rfl,fun x hx=>?_,?_⟩
    ·rcases zA6.mp hx with z | z
     ·exact om x z
     ·rw [List.mem_singleton.mp z];exact ⟨lr,br⟩
    ·rw [zA4];exact ((g5.ths g4.sa it).same s6).append (.cons (.tup aj (IsThs.ints r)) .nil)
  ·rintro ys σ Hc hy ⟨g4,_,rows,hZ,om,it⟩;refine ⟨zA3 _,fun D hD=>⟨D,_,rfl,.inl ⟨SqL.of aj,fun t ht=>?_⟩⟩⟩;have s6:=(Same.upd (o:=.lst ys) hD).updR (o:=.tup ys) ht;obtain ⟨ac,xc,ev,rr⟩:=K92.th_rows (rs:=rows) (.tup aj (it.same s6));cases ev;exact q _ xc rows _ ((g3.trans g4).same s6) rr (by lia) (by lia) om
end
section
variable {P:Program}{w:World}{K:PySem.W.Frag}{mg:Str->Option Value}{base:Heap}{f:Addr}{fd:FuncData}
theorem scP:FnScope ["_law_state_here","_law_years","_law_first","_law_last","_law_sacks","_law_price"] ["_law_state_here","_law_years"] (aK (top 78)):=fS
theorem ok_prom (F:Fun K "_law_promise" "_law_promise" (top 78) f fd)(Tm:mg "min" = none)(c1:Cal P w K mg base 1 "_law_choice" ["_law_state_here","_law_many"] spChoice):FnOk P w K mg base CX0 2 f fd ["_law_state_here","_law_years"] zB:=by
 refine F.ok scP (fun vs H Q E h=>?_) (fun av A outer s H vs Q E hr h=>?_)
 ·obtain ⟨st,y,rfl,_⟩:=h;rfl
 ·obtain ⟨st,y,rfl,gp,y0,y1,q⟩:=h
  refine ok_b (aP ⟨pss 2 scP.nd (aQ (dX rfl) rfl Tm oV (aq az (aq (aD c1 hr (aq (pv 0) (aq (aV bC (pv 1) az) aa))) aa)))⟩
   (aP ⟨pss 3 scP.nd (aQ (dX rfl) rfl Tm oV (aq az (aq (aV bC (pv 2) (pX bL (Bc (Bb az (Bb (aD c1 hr (aq (pv 0) (aq az aa))) (Bb (aD c1 hr (aq (pv 0) (aq az aa))) fj)))) (aD c1 hr (aq (pv 0) (aq az aa))))) aa)))⟩
   (aP ⟨sY (i:=4) (j:=5) rfl scP.nd rfl rfl (by decide) rfl rfl (aq (aV bC az (aD c1 hr (aq (pv 0) (aq (pX bL (dN (jT (by repeat constructor))) (aD c1 hr (aq (pv 0) (aq az aa)))) aa)))) (aq (aD c1 hr (aq (pv 0) (aq az aa))) aa)) rfl⟩
   (cG ⟨aR (Cz (tO (fW ⟨aD c1 hr (aq (pv 0) (aq az aa))⟩ (fW ⟨aD c1 hr (aq (pv 0) (aq az aa))⟩ (fW ⟨pv 2⟩ (fW ⟨pv 3⟩ (fW ⟨pv 4⟩ (fW ⟨pv 5⟩ fj))))))))⟩)))) ?_
  have g0:Dr st H H:=Dr.refl gp;refine aF (aX ?_);refine ⟨_,rfl,_,rfl,_,_,rfl,rfl,st,_,rfl,gp,by lia,by lia,fun r1 a1 b1 iE Q5 Q6 k1 k2 k3=>⟨_,_,rfl,?_⟩⟩;have g1:=g0.draw (c:=iE) k1 k2 k3
  obtain ⟨fi,Mi,Mj,Q7⟩:∃ fi:Int,fi=(if r1 < 19 then r1 else 19)/\0<=fi/\fi<=19:=⟨_,rfl,by split <;> lia,by split <;> lia⟩
  rw [<- Mi];generalize upd H st (.lst [.int a1,.int b1,.int iE])=H1 at g1 ⊢;refine aM ?_;dsimp only;refine aF (aX ?_);refine ⟨_,rfl,_,rfl,st,4,rfl,g1.sa,by decide,by decide,fun r2 a2 b2 c2 Ml Q8 k4 k5 k6=>⟨_,rfl,st,20,rfl,(g1.draw k4 k5 k6).sa,by decide,by decide,fun r3 a3 b3 c3 Mm Mn k7 k8 k9=>⟨zL,fun p hp=>?_⟩⟩⟩;have g3:=(g1.draw (c:=c2) k4 k5 k6).draw (c:=c3) k7 k8 k9;have np:=g3.ne hp;have g4:=g3.new (o:=.lst [V.int 0,V.int r2,V.int r3]) hp;have ep:upd (upd (upd H1 st (.lst [.int a2,.int b2,.int c2])) st (.lst [.int a3,.int b3,.int c3])) p (.lst [V.int 0,V.int r2,V.int r3]) p=some (.lst [V.int 0,V.int r2,V.int r3]):=aj;generalize upd (upd (upd H1 st (.lst [.int a2,.int b2,.int c2])) st (.lst [.int a3,.int b3,.int c3])) p (.lst [V.int 0,V.int r2,V.int r3])=H2 at g4 ep ⊢;refine ⟨_,rfl,st,3,rfl,g4.sa,by decide,by decide,fun r4 a4 b4 c4 Q9 Ra k1 k2 k3=>?_⟩
  obtain ⟨d,hd,d0,d1⟩:∃ d:Int,atI [V.int 0,V.int r2,V.int r3] r4=some (.int d)/\0<=d/\d < 20:=by
   have:r4=0\/r4=1\/r4=2:=by lia
   rcases this with rfl | rfl | rfl
   ·exact ⟨_,rfl,by decide,by decide⟩
   ·exact ⟨_,rfl,Ml,by lia⟩
   ·exact ⟨_,rfl,Mm,Mn⟩
  refine ⟨p,_,r4,.int d,rfl,rfl,SqL.of (by rw [aA np];exact ep),hd,_,_,rfl,rfl,_,_,rfl,?_⟩;have g5:=g4.draw (c:=c4) k1 k2 k3
  obtain ⟨la,BA,ER,ES⟩:∃ la:Int,la=(if fi+d < 19 then fi+d else 19)/\fi<=la/\la<=19:=⟨_,rfl,by split <;> lia,by split <;> lia⟩
  rw [<- BA];clear ep np g3;generalize upd H2 st (.lst [.int a4,.int b4,.int c4])=H3 at g5 ⊢;refine aM ?_;dsimp only;refine aF ?_;refine ⟨_,rfl,zL,fun p2 nr=>?_⟩;have Mo:=g5.ne nr;have g6:=g5.new (o:=.lst (([4,12,99]:List Int).map V.int)) nr;have JP:upd H3 p2 (.lst (([4,12,99]:List Int).map V.int)) p2=some (.lst (([4,12,99]:List Int).map V.int)):=aj;generalize upd H3 p2 (.lst (([4,12,99]:List Int).map V.int))=H4 at g6 JP ⊢;refine ⟨_,rfl,st,3,rfl,g6.sa,by decide,by decide,fun r5 a5 b5 c5 Rb Rc k4 k5 k6=>?_⟩
  obtain ⟨wd,hw,w1,w2⟩:∃ wd:Int,atI (([4,12,99]:List Int).map V.int) r5=some (.int wd)/\1<=wd/\wd<=99:=by
   have:r5=0\/r5=1\/r5=2:=by lia
   rcases this with rfl | rfl | rfl
   ·exact ⟨4,rfl,by decide,by decide⟩
   ·exact ⟨12,rfl,by decide,by decide⟩
   ·exact ⟨99,rfl,by decide,by decide⟩
  have g7:=g6.draw (c:=c5) k4 k5 k6;refine ⟨p2,_,r5,.int wd,rfl,rfl,SqL.of (by rw [aA Mo];exact JP),hw,st,wd,rfl,g7.sa,w1,by lia,fun r6 a6 b6 c6 Rf Rg k7 k8 k9=>⟨_,_,rfl,rfl,?_⟩⟩;have g8:=g7.draw (c:=c6) k7 k8 k9;generalize upd (upd H4 st (.lst [.int a5,.int b5,.int c5])) st (.lst [.int a6,.int b6,.int c6])=H5 at g8 ⊢;refine ⟨_,rfl,st,500,rfl,g8.sa,by decide,by decide,fun r7 a7 b7 c7 Mp Rh k1 k2 k3=>⟨_,_,rfl,?_⟩⟩;have g9:=g8.draw (c:=c7) k1 k2 k3;generalize upd H5 st (.lst [.int a7,.int b7,.int c7])=H6 at g9 ⊢;dsimp only;refine fX ?_;refine ⟨_,rfl,st,8,rfl,g9.sa,by decide,by decide,fun r8 a8 b8 c8 Mq Mr k4 k5 k6=>⟨_,rfl,st,3,rfl,(g9.draw k4 k5 k6).sa,by decide,by decide,fun r9 a9 b9 c9 Ms Mt k7 k8 k9=>⟨_,rfl,_,rfl,_,rfl,_,rfl,zL,fun t ht=>?_⟩⟩⟩;have ga:=((g9.draw (c:=c8) k4 k5 k6).draw (c:=c9) k7 k8 k9).new (o:=.tup [V.int r8,V.int r9,V.int fi,V.int la,V.int (1+r6),V.int r7]) ht;exact q t [r8,r9,fi,la,1+r6,r7] _ ga aj ⟨rfl,⟨Mq,Mr⟩,⟨Ms,Mt⟩,⟨Mj,ER,ES⟩,⟨by show 1<=1+r6;lia,by show 1+r6<=99;lia⟩,⟨Mp,by show r7<=1000000;lia⟩⟩
theorem scS:FnScope ["_law_state_here","_law_promises","_law_number","_law_holder","_law_sort","_law_first","_law_last","_law_sacks","_law_price","_law_seller","_law_year"] ["_law_state_here","_law_promises"] (aK (top 79)):=fS
theorem ok_sale (F:Fun K "_law_sale" "_law_sale" (top 79) f fd)(T:K92.Mg mg)(Tm:mg "max" = none)(c1:Cal P w K mg base 1 "_law_choice" ["_law_state_here","_law_many"] spChoice):FnOk P w K mg base CX0 2 f fd ["_law_state_here","_law_promises"] zE:=by
 refine F.ok scS (fun vs H Q E h=>?_) (fun av A outer s H vs Q E hr h=>?_)
 ·obtain ⟨st,ap,xp,ps,rfl,_⟩:=h;rfl
 ·obtain ⟨st,ap,xp,ps,rfl,gp,rp,lp,okp,q⟩:=h
  refine ⟨_,aB (pss 2 scS.nd (aD c1 hr (aq (pv 0) (aq (aQ (gJ rfl) rfl Tm oU (aq az (aq (aQ bT rfl T.len PySem.boot_len (aq (pv 1) aa)) aa))) aa))))
   (aB (bW (bw (wu (K92.room_un hr)) (pv 1) (uI fj) (bF _)) (aG (aR (bJ (jT (by repeat constructor))))) bf)
   (aB (cj (pX cM (pv 1) (pv 2)) (bU rfl (au (pgn 3 scS.nd) (au (pgn 4 scS.nd) (au (pgn 5 scS.nd)
    (au (pgn 6 scS.nd) (au (pgn 7 scS.nd) (au (pgn 8 scS.nd) aY))))))))
   (aB (pss 9 scS.nd (pX bL (dN (aq (pv 3) (aq (pv 3) (aq (aD c1 hr (aq (pv 0) (aq az aa))) aa)))) (aD c1 hr (aq (pv 0) (aq az aa)))))
   (aB (pss 10 scS.nd (aV bC (pv 5) (aD c1 hr (aq (pv 0) (aq (aV bC (aV cJ (pv 6) (pv 5)) az) aa)))))
   (aG (aR (Cz (tO (fW ⟨pv 2⟩ (fW ⟨pv 9⟩ (fW ⟨aD c1 hr (aq (pv 0) (aq az aa))⟩ (fW ⟨aV bC az (aD c1 hr (aq (pv 0) (aq (pv 7) aa)))⟩ (fW ⟨pv 10⟩ fj))))))))))))),?_⟩
  have g0:Dr st H H:=Dr.refl gp;have Ri:xp.length<=10:=by rw [rp.l];exact lp
  refine aF (aX ?_);refine ⟨_,rfl,_,rfl,ap,xp,rfl,.inr (SqT.of rp.e),_,_,rfl,st,_,rfl,gp,?_,?_,fun r1 a1 b1 iE r0 rn k1 k2 k3=>?_⟩
  ·split <;> lia
  ·split <;> lia
  have g1:=g0.draw (c:=iE) k1 k2 k3;have JQ:=g1.rows gp rp;generalize upd H st (.lst [.int a1,.int b1,.int iE])=H1 at g1 JQ ⊢;refine aM ?_;dsimp only;refine aF ?_;refine ⟨_,rfl,zL,fun e0 ua=>?_⟩;have g2:=g1.new (o:=.tup []) ua;have m2:=Same.upd (o:=.tup []) ua;have JR:upd H1 e0 (.tup []) e0=some (.tup []):=aj;have BF:=JQ.same m2;generalize upd H1 e0 (.tup [])=H2 at g2 m2 JR BF ⊢;refine ⟨ap,e0,xp,rfl,rfl,SqT.of BF.e,SqT.of JR,_,rfl,vZ (fun hb=>?_) fun hb=>?_⟩
  ·refine ⟨zL,fun t ht=>?_⟩;exact q t [0,0,1,1,0] _ (g2.new ht) aj ⟨rfl,by decide⟩
  have px:0 < xp.length:=by
   cases xp with
   | nil=>exact absurd rfl hb
   | cons a l=>exact Nat.succ_pos _
  have Rj:r1.toNat < xp.length:=by split at rn <;> lia
  dsimp only;refine aF ?_;obtain ⟨p,hp,_,op⟩:=K92.prom_ok (n:=r1) okp r0 (by rw [<- rp.l];lia);obtain ⟨tp,f7,hV⟩:=K92.rows_at BF r0 hp;rw [K92.six_row op.1] at hV;obtain ⟨_,⟨p1,p2⟩,_,⟨p3,p4,p5⟩,⟨p6,p7⟩,_⟩:=id op;refine ⟨_,rfl,_,rfl,ap,_,r1,.ref tp,rfl,rfl,SqT.of BF.e,f7,?_⟩;refine ⟨tp,_,rfl,SqT.of hV,rfl,_,_,rfl,_,_,rfl,_,_,rfl,_,_,rfl,_,_,rfl,_,_,rfl,rfl,?_⟩;dsimp only;refine aF (aX ?_);refine ⟨_,rfl,_,rfl,_,rfl,st,8,rfl,g2.sa,by decide,by decide,fun r2 a2 b2 c2 i0 i1 k4 k5 k6=>⟨zL,fun l1 gI=>?_⟩⟩;have g4:=(g2.draw (c:=c2) k4 k5 k6).new (o:=.lst [V.int (K92.fl p 0),V.int (K92.fl p 0),V.int r2]) gI;have n4:=(g2.draw k4 k5 k6).ne gI;refine ⟨_,rfl,st,3,rfl,g4.sa,by decide,by decide,fun r3 a3 b3 c3 i2 i3 k7 k8 k9=>?_⟩
  obtain ⟨sl,Mu,Rk,oS⟩:∃ sl:Int,atI [V.int (K92.fl p 0),V.int (K92.fl p 0),V.int r2] r3=some (.int sl)/\0<=sl/\sl < 8:=by
   have:r3=0\/r3=1\/r3=2:=by lia
   rcases this with rfl | rfl | rfl
   ·exact ⟨_,rfl,p1,p2⟩
   ·exact ⟨_,rfl,p1,p2⟩
   ·exact ⟨_,rfl,i0,i1⟩
  have g5:=g4.draw (c:=c3) k7 k8 k9;refine ⟨l1,_,r3,.int sl,rfl,rfl,SqL.of (by rw [aA n4];exact aj),Mu,?_⟩;refine aM ?_;dsimp only;refine aF (aX ?_);refine ⟨_,rfl,_,rfl,_,rfl,_,rfl,_,_,rfl,rfl,_,_,rfl,rfl,st,_,rfl,g5.sa,by lia,by lia,fun r5 a5 b5 c5 i6 i7 m4 m5 m6=>⟨_,_,rfl,rfl,?_⟩⟩;have g7:=g5.draw (c:=c5) m4 m5 m6;refine aM ?_;dsimp only;refine ⟨_,rfl,_,rfl,_,rfl,st,8,rfl,g7.sa,by decide,by decide,fun r4 a4 b4 c4 i4 i5 m1 JS m3=>⟨_,rfl,_,rfl,st,_,rfl,(g7.draw m1 JS m3).sa,p6,by lia,fun r6 a6 b6 c6 i8 i9 m7 m8 m9=>⟨_,_,rfl,rfl,_,rfl,zL,fun t ht=>?_⟩⟩⟩;have g8:=(g7.draw (c:=c4) m1 JS m3).draw (c:=c6) m7 m8 m9;refine q t [r1,sl,r4,1+r6,K92.fl p 2+r5] _ (g8.new ht) aj ⟨rfl,fun i hi=>?_⟩;simp only [List.mem_cons,List.not_mem_nil,or_false] at hi;lia
end
theorem op_catU {X:Cx}:OpR X (binaryOp .Add) (fun x y H Q=>∃ a b xs ys,x=.ref a/\y=.ref b/\H a=some (.tup xs)/\H b=some (.tup ys)/\ys≠[]/\xs.length+ys.length<=sizeLine/\∀ c H',Same H H'->H' c=some (.tup (xs++ys))->Q (.ref c) H'):=by
 intro pins s σ H x y v u Q I rx ry h;obtain ⟨a,b,xs,ys,rfl,rfl,ha,hb,hy,hz,q⟩:=h;refine yf pins s σ H _ _ v u Q I rx ry ⟨a,b,xs,ys,rfl,rfl,SqT.of ha,SqT.of hb,hy,hz,fun e=>q b H (Same.refl H) (by rw [e];exact hb),fun _ p hp=>q p _ (Same.upd hp) aj⟩
theorem pF {H:Hp}{a b t:Addr}{xs:List V}{rs:List (List Int)}{r:List Int}(h:K92.RowsAt H a xs rs)(et:H t=some (.tup (r.map V.int)))(eb:H b=some (.tup (xs++[V.ref t]))):K92.RowsAt H b (xs++[V.ref t]) (rs++[r]):=by
 refine ⟨eb,by rw [zA2,zA2,h.l];rfl,fun i r' e=>?_⟩;by_cases hi:i < rs.length
 ·rw [zB5 hi] at e;rw [zB5 (by rw [h.l];exact hi)];exact h.g i r' e
 ·rw [zB7 (by lia)] at e;rw [zB7 (by rw [h.l];lia),h.l]
  cases hj:i - rs.length with
  | zero =>
   rw [hj] at e;injection e with e;subst e;exact ⟨t,rfl,et⟩
  | succ k =>
   rw [hj] at e;simp at e
theorem zF {u:Option Nat}(h:decide (K92.unV u=.non)=true):u=none:=by
 have:=zB6 h
 cases u with
 | none=>rfl
 | some n=>cases this
theorem nO {X:Cx}{K:PySem.W.Frag}(hK:X.K=K):du X (.builtin "len") (fun xs H Q=>∃ p ys,xs=[.ref p]/\(SqL K H p ys\/SqT K H p ys)/\Q (.int ys.length) H):=by
 subst hK;exact bT
section
variable {P:Program}{w:World}{K:PySem.W.Frag}{mg:Str->Option Value}{base:Heap}{f:Addr}{fd:FuncData}
theorem ndB:(["_law_turn","_law_state_here","_law_clips_here"]:List Str).Nodup:=by decide +kernel
theorem scB:FnScope ["_law_state_here","_law_years","_law_most","_law_clips_here","_law_promises","_law_sales","_law_turn","_law_sale_here"] ["_law_state_here","_law_years","_law_most"] (aK (top 80)):=fS
theorem ok_book (F:Fun K "_law_book" "_law_book" (top 80) f fd)(T:Mg mg)(Tr:mg "range" = none)(Tl:mg "len" = none)(c1:Cal P w K mg base 1 "_law_choice" ["_law_state_here","_law_many"] spChoice)(c2:Cal P w K mg base 2 "_law_clips" ["_law_state_here","_law_most"] vp)(c3:Cal P w K mg base 2 "_law_promise" ["_law_state_here","_law_years"] zB)(c4:Cal P w K mg base 2 "_law_sale" ["_law_state_here","_law_promises"] zE)(c5:Cal P w K mg base 1 "_law_rows" ["_law_promises","_law_sales"] K92.spRows) :
  FnOk P w K mg base CX0 3 f fd ["_law_state_here","_law_years","_law_most"] spBook:=by
 refine F.ok scB (fun vs H Q E h=>?_) (fun av A outer s H vs Q E hr h=>?_)
 ·obtain ⟨st,y,m,rfl,_⟩:=h;rfl
 ·obtain ⟨st,y,m,rfl,gp,y1,y2,m1,m2,q⟩:=h
  refine ⟨_,aB (pM (i:=3) scB.nd rfl (Or.inr rfl) (aD c2 hr (aq (pv 0) (aq (pv 1) aa))))
   (aB (pss 4 scB.nd (bO bH rfl T.tuple boot_tuple (aq (bA ["_law_turn","_law_state_here","_law_clips_here"] [none,some 0,some 3] rfl (bN rfl Tr (aq (aD c1 hr (aq (pv 0) (aq (aV bC (pv 2) az) aa))) aa))
    (fun C fp pins s₂ H₂=>⟨pgn 0 ndB,bh,aD c3 hr (aq (pv 1) (aq (aQ (nO (K:=K) rfl) rfl Tl PySem.boot_len (aq (pv 2) aa)) aa))⟩)
    (fun C=>cI (cI trivial)) ⟨rfl,rfl,rfl,rfl⟩) aa)))
   (aB (pss 5 scB.nd (uI fj))
   (aB (cV zB8 rfl (bN rfl Tr (aq (aD c1 hr (aq (pv 0) (aq az aa))) aa)) (pgn 6 scB.nd)
    (aB (pss 7 scB.nd (aD c4 hr (aq (pv 0) (aq (pv 4) aa))))
    (aG (bW (bw xQ (pX cM (aD c5 hr (aq (pv 4) (aq (aV op_catU (pv 5) (bJ (aq (pv 7) aa))) aa))) az) pJ (bF _)) (aG (pss 5 scB.nd (aV op_catU (pv 5) (bJ (aq (pv 7) aa))))) bf))))
   (aG (aR (bJ (aq (pv 3) (aq (pv 4) (aq (pv 5) aa)))))))))  ,?_⟩
  refine aF (aX ?_);refine ⟨_,rfl,_,rfl,st,y,rfl,gp,y1,y2,fun ac xc cs H1 d1 rc lc1 JT okc=>?_⟩;refine aM ?_;dsimp only;refine aF (aX ?_);refine ⟨_,rfl,_,rfl,_,_,rfl,rfl,st,m+1,rfl,d1.sa,by lia,by lia,fun r a1 b1 iE k0 kn k1 k2 k3=>⟨r,rfl,by lia,by lia,?_⟩⟩;have d2:=(Dr.refl d1.sa).draw (c:=iE) k1 k2 k3;have BG:=d2.rows d1.sa rc;have ET:=d1.trans d2;generalize upd H1 st (.lst [.int a1,.int b1,.int iE])=H2 at d2 ET BG ⊢
  have lz:r.toNat < sizeLine:=by
   rw [sizeLine_eq];lia
  refine bu r.toNat (fun i ys σ Hc=>Dr st H2 Hc/\(∃ o,σ=[o,some (.ref st),some (.ref ac)])/\∃ rows:List (List Int),rows.length=i/\(∀ r∈rows,K92.okP r)/\IsThs (fun _=>False) Hc ys (rows.map K92.rowD)) ⟨Dr.refl d2.sa,⟨_,rfl⟩,[],rfl,fun _ h=>(List.not_mem_nil h).elim,.nil⟩ lz ?_ ?_
  ·rintro i ys σ Hc hi hy ⟨g4,⟨o,rfl⟩,rows,hZ,om,it⟩;refine ⟨hi,fun v H' y R hR=>?_⟩;obtain ⟨eH,rfl⟩:=y;subst H';refine aM ?_;have Mv:=g4.rows d2.sa BG;have:=rc.l;refine ⟨_,rfl,_,rfl,ac,xc,rfl,.inr (SqT.of Mv.e),st,_,rfl,g4.sa,by lia,by lia,fun t JU H5 d5 et Mw=>hR _ _ _ ⟨g4.trans d5,⟨_,rfl⟩,rows++[JU],by rw [zA2,hZ];rfl,fun x hx=>?_,?_⟩⟩
   ·rcases zA6.mp hx with z | z
    ·exact om x z
    ·rw [List.mem_singleton.mp z];exact Mw
   ·rw [zA4];exact (d5.ths g4.sa it).append (.cons (.tup et (IsThs.ints JU)) .nil)
  rintro ys σ Hc hy ⟨g4,_,ps,Rl,okp,it⟩;refine ⟨zA3 _,fun D hD=>⟨D,_,rfl,.inl ⟨SqL.of aj,fun t ht=>?_⟩⟩⟩;have s6:=(Same.upd (o:=.lst ys) hD).updR (o:=.tup ys) ht;obtain ⟨ap,xp,ev,rp⟩:=K92.th_rows (rs:=ps) (.tup aj (it.same s6));cases ev;have JV:=(g4.rows d2.sa BG).same s6;have JW:=(ET.trans g4).same s6;generalize upd (upd Hc D (.lst ys)) t (.tup ys)=H3 at rp JV JW ⊢;clear BG d2 g4 it s6 ht hD ET rc d1;refine aM ?_;dsimp only;refine aF (aX ?_);refine ⟨zL,fun e0 ua=>?_⟩;have d6:=JW.new (o:=.tup []) ua
  have r6:K92.RowsAt (upd H3 e0 (.tup [])) e0 [] []:=⟨aj,rfl,fun i r e=>by simp at e⟩
  have JX:=rp.same (Same.upd (o:=.tup []) ua);have JY:=JV.same (Same.upd (o:=.tup []) ua);generalize upd H3 e0 (.tup [])=H4 at d6 r6 JX JY ⊢;refine aM ?_;dsimp only;refine aF ?_;refine ⟨_,rfl,st,7,rfl,d6.sa,by decide,by decide,fun r2 a2 b2 AB q0 qn q1 q2 q3=>⟨r2,rfl,by lia,by lia,?_⟩⟩;have d7:=(Dr.refl d6.sa).draw (c:=AB) q1 q2 q3;have JZ:=d7.rows d6.sa JX;have J0:=d7.rows d6.sa JY;have r7:=d7.rows d6.sa r6;have J1:=d6.trans d7;generalize upd H4 st (.lst [.int a2,.int b2,.int AB])=H5 at J1 JZ J0 r7 ⊢;refine dW (lo:=0) (n:=r2.toNat) (fun i σ Hc=>∃ a xs ss x6 x7,σ=[some (.ref st),some (.int y),some (.int m),some (.ref ac),some (.ref t),some (.ref a),x6,x7]/\Dr st H Hc/\K92.RowsAt Hc ac xc cs/\K92.RowsAt Hc t xp ps/\K92.RowsAt Hc a xs ss/\ss.length<=i/\(∀ s∈ss,smR s)/\K92.un ps ss=none) ?_ ?_ ?_
  ·exact ⟨e0,[],[],none,none,rfl,J1,J0,JZ,r7,zA3 _,(fun _ h=>nomatch h),rfl⟩
  ·rintro i σ Hc hi ⟨a,xs,ss,x6,x7,rfl,g,rcc,BH,EU,ls,ff,AD⟩;refine aM (aF ?_);refine aX ?_;refine ⟨_,rfl,_,rfl,st,t,xp,ps,rfl,g.sa,BH,by lia,okp,fun t' s' H6 d8 et sm=>?_⟩;have J2:=d8.rows g.sa rcc;have EV:=d8.rows g.sa BH;have ub:=d8.rows g.sa EU;have gd:=g.trans d8;refine aM ?_;dsimp only
   have J3:∀ s∈ss++[s'],smR s:=fun s hs=>by
    rcases zA6.mp hs with z | z
    ·exact ff s z
    ·rw [List.mem_singleton.mp z];exact sm
   have l5:(ss++[s']).length<=i+1:=by rw [zA2];show ss.length+1<=_;lia
   have yT:=ub.l;refine ⟨_,rfl,_,rfl,_,rfl,zL,fun t1 Mx=>?_⟩;have m4:=Same.upd (o:=.tup [V.ref t']) Mx;refine ⟨a,t1,xs,_,rfl,rfl,m4 _ _ ub.e,aj,by simp,by rw [yT,sizeLine_eq];show _+1<=_;lia,fun c H7 s7 ec=>?_⟩;have My:=pF ((ub.same m4).same s7) (s7 _ _ (m4 _ _ et)) ec;refine ⟨t,xp,ps,c,_,ss++[s'],rfl,(EV.same m4).same s7,by lia,okp,My,by lia,fun s hs=>(J3 s hs).1,fun tt fo H8 s8 Mz _=>?_⟩;have ui:=(m4.trans s7).trans s8;refine ⟨tt,_,1,K92.unV (K92.un ps (ss++[s'])),rfl,rfl,SqT.of Mz,rfl,rfl,_,rfl,vZ (fun hb=>?_) fun _=>?_⟩
   ·refine aX ?_;refine ⟨_,rfl,_,rfl,zL,fun t2 D6=>?_⟩;have m9:=Same.upd (o:=.tup [V.ref t']) D6;refine ⟨a,t2,xs,_,rfl,rfl,m9 _ _ (ui _ _ ub.e),aj,by simp,by rw [yT,sizeLine_eq];show _+1<=_;lia,fun c' H9 s9 MA=>?_⟩;have AE:=(ui.trans m9).trans s9;exact ⟨c',_,ss++[s'],_,_,rfl,gd.same AE,J2.same AE,EV.same AE,pF (ub.same AE) (AE _ _ et) MA,l5,J3,zF hb⟩
   ·exact ⟨a,xs,ss,_,_,rfl,gd.same ui,J2.same ui,EV.same ui,ub.same ui,by lia,ff,AD⟩
  ·rintro σ Hc ⟨a,xs,ss,x6,x7,rfl,g,rcc,BH,EU,ls,ff,AD⟩;refine ⟨_,rfl,_,rfl,_,rfl,zL,fun b hb=>?_⟩;have mb:=Same.upd (o:=.tup [V.ref ac,V.ref t,V.ref a]) hb;exact q b ac xc cs t xp ps a xs ss _ (g.new hb) aj (rcc.same mb) lc1 JT okc (BH.same mb) (by lia) okp (EU.same mb) (by lia) ff AD
end
end K92Q
namespace K92
open PySem L2
theorem qJ {X:Cx}:SlR X (fun x lo hi H Q=>∃ a xs,x=.ref a/\H a=some (.tup xs)/\∀ c H',Same H H'->H' c=some (.tup (iH xs lo hi))->Q (.ref c) H'):=by
 intro pins s σ H x v vl vu lo hi sl Q I rx hs pl pu h;obtain ⟨a,xs,rfl,ha,q⟩:=h;refine uJ pins s σ H _ v vl vu lo hi sl Q I rx hs pl pu ⟨a,xs,rfl,SqT.of ha,fun hw=>q a H (Same.refl H) ?_,fun _ p hp=>q p _ (Same.upd hp) aj⟩;rw [ha];unfold iH;rw [hw.1,hw.2,List.drop_zero,Nat.sub_zero,zAm]
theorem RowsAt.els {H:Hp}{a:Addr}{xs:List V}{rs:List (List Int)}(h:RowsAt H a xs rs):Els H xs rs:=⟨h.l,h.g⟩
theorem Els.takeE {H:Hp}{xs:List V}{rs:List (List Int)}(h:Els H xs rs)(n:Nat):Els H (xs.take n) (rs.take n) :=
 ⟨by rw [zAd,zAd,h.1],fun i r e=>by
  have hi:i < n:=by
   rw [List.getElem?_take] at e;split at e
   ·assumption
   ·cases e
  rw [List.getElem?_take_of_lt hi] at e ⊢
  exact h.2 i r e⟩
theorem Els.dropE {H:Hp}{xs:List V}{rs:List (List Int)}(h:Els H xs rs)(n:Nat):Els H (xs.drop n) (rs.drop n) :=
 ⟨by rw [List.length_drop,List.length_drop,h.1],fun i r e=>by
  rw [List.getElem?_drop] at e ⊢
  exact h.2 _ r e⟩
theorem cut_drop {xs:List V}{i:Nat}(h:i<=xs.length):iH xs (some (i:Int)) none=xs.drop i:=by
 unfold iH;rw [HT.sIx_none,HT.sIx_nat,Nat.min_eq_left h,List.take_of_length_le (by rw [List.length_drop];exact zA3 _)]
variable {P:Program}{w:World}{K:PySem.W.Frag}{mg:Str->Option Value}{base:Heap}{f:Addr}{fd:FuncData}
theorem GC:(["at","sacks","part","sort"]:List Str).Nodup:=by decide +kernel
theorem HX:(["clip","sort","part"]:List Str).Nodup:=by decide +kernel
theorem HY:FnScope ["clip","sort","part"] ["clip","sort","part"] (aK (top 68)):=fS
theorem zG (F:Fun K "clip_less" "clip_less" (top 68) f fd)(T:Mg mg)(Te:mg "enumerate" = none):FnOk P w K mg base CX0 1 f fd ["clip","sort","part"] vo:=by
 refine F.ok HY (fun vs H Q E h=>?_) (fun av A outer s H vs Q E hr h=>?_)
 ·obtain ⟨t,c,so,pa,rfl,_⟩:=h;rfl
 ·obtain ⟨t,c,so,pa,rfl,et,okc,hl,q⟩:=h
  refine ⟨_,aG (aR (bO bH rfl T.tuple boot_tuple (aq (bA (g:=iC K 2 (bR (bG 0) (bR (bG 1) jh))) ["at","sacks","part","sort"] [none,none,some 2,some 1] rfl (pi_enum rfl Te (aq (pv 0) aa))
   (fun C fp pins s₂ H₂=>⟨cU rfl rfl (au (pgn 0 GC) (au (pgn 1 GC) aY)),bh,qP (bw kY (pv 0) (pv 3) (bF _)) (aV jQ (aV fQ (pv 1) (aV cJ az (pv 2))) az) (pv 1)⟩)
   (fun C=>cI (cI trivial)) ⟨rfl,rfl,rfl,rfl⟩) aa))),?_⟩
  have l3:=okc.1;refine ⟨_,rfl,t,_,rfl,SqT.of et,bu 3 (fun i ys σ Hc=>Same H Hc/\(∃ o1 o2,σ=[o1,o2,some (.int pa),some (.int so)])/\ys=((List.range i).map (jH so pa c)).map V.int) ⟨Same.refl H,⟨_,_,rfl⟩,rfl⟩ (by rw [sizeLine_eq];decide) ?_ ?_⟩
  ·rintro i ys σ Hc hi hy ⟨s1,⟨o1,o2,rfl⟩,rfl⟩;have hX:SqT K Hc t (c.map V.int):=SqT.of (s1 _ _ et);have ku:(c.map V.int)[i]?=some (.int (c.getD i 0)):=dz (by lia);refine ⟨⟨_,_,hX,ku⟩,fun x H' yv R hR=>?_⟩;obtain ⟨T1,rg,rfl,yv⟩:=yv;obtain ⟨x',fx,rfl⟩:=yv _ hX;rw [ku] at fx;cases fx;have s2:=s1.updR (o:=.tup [.int (i:Int),.int (c.getD i 0)]) rg;have hb:=okc.2 (c.getD i 0) (by rw [zA7,zA0 (by lia)];exact zAh _);refine ⟨T1,_,rfl,SqT.of aj,rfl,_,_,rfl,_,_,rfl,rfl,?_⟩;have fin:∀ v,v=jH so pa c i->R (.int v) [some (.int (i:Int)),some (.int (c.getD i 0)),some (.int pa),some (.int so)] (upd Hc T1 (.tup [.int (i:Int),.int (c.getD i 0)])):=fun v ev=>hR _ _ _ ⟨s2,⟨_,_,rfl⟩,by rw [ev,List.range_succ,zA4,zA4];rfl⟩;refine ⟨_,rfl,_,rfl,rfl,_,rfl,?_⟩;by_cases hs:(i:Int)=so
   ·rw [zAt (show V.int (i:Int)=V.int so by rw [hs])];refine bV ?_;exact ⟨_,rfl,_,rfl,_,_,rfl,rfl,_,_,rfl,rfl,.inl (by lia),_,_,rfl,rfl,⟨by decide,by decide⟩,fin _ (by unfold jH;rw [zAx hs])⟩
   ·rw [zB1 (show ¬ V.int (i:Int)=V.int so from fun z=>hs (by injection z))];exact bI ⟨_,rfl,fin _ (by unfold jH;rw [zAu hs])⟩
  ·rintro ys σ Hc hy ⟨s1,_,rfl⟩;refine ⟨⟨_,SqT.of (s1 _ _ et),by rw [zA1];lia⟩,fun D hD=>⟨D,_,rfl,.inl ⟨SqL.of aj,fun t' dP=>q t' _ ((s1.updR hD).updR dP) ?_⟩⟩⟩;rw [aj];unfold fO;rw [l3]
theorem Ia:FnScope ["clips","year","sort","part"] ["clips","year","sort","part"] (aK (top 69)):=fS
theorem zH (F:Fun K "clips_less" "clips_less" (top 69) f fd)(T:Mg mg)(c1:Cal P w K mg base 1 "clip_less" ["clip","sort","part"] vo):FnOk P w K mg base CX0 2 f fd ["clips","year","sort","part"] jY:=by
 refine F.ok Ia (fun vs H Q E h=>?_) (fun av A outer s H vs Q E hr h=>?_)
 ·obtain ⟨ac,xc,cs,y,so,pa,rfl,_⟩:=h;rfl
 ·obtain ⟨ac,xc,cs,y,so,pa,rfl,rc,okc,lc,y0,y1,hl,q⟩:=h
  refine ⟨_,aG (aR (aV K92Q.op_catU (gj qJ (pv 0) iD (iG (pv 1))) (bO bH rfl T.tuple boot_tuple (aq (bA ["clip","sort","part"] [none,some 2,some 3] rfl (dM (gj qJ (pv 0) (iG (pv 1)) iD))
   (fun C fp pins s₂ H₂=>⟨pgn 0 HX,bh,aD c1 hr (aq (pv 0) (aq (pv 1) (aq (pv 2) aa)))⟩)
   (fun C=>cI (cI trivial)) ⟨rfl,rfl,rfl,rfl⟩) aa)))),?_⟩
  obtain ⟨n,rfl⟩:∃ n:Nat,y=n:=⟨y.toNat,by lia⟩
  rw [zAi] at q;have EW:=rc.l;refine ⟨_,rfl,_,rfl,_,rfl,ac,_,rfl,rc.e,fun iE H1 s1 J5=>?_⟩;rw [jc (by lia)] at J5;refine ⟨_,rfl,_,rfl,_,rfl,ac,_,rfl,s1 _ _ rc.e,fun c2 H2 s2 AF=>?_⟩;rw [cut_drop (by lia)] at AF;have r2:=(rc.same s1).same s2;have J6:=r2.els.dropE n;refine ⟨c2,rfl,⟨_,SqT.of AF⟩,bu (cs.drop n).length (fun i ys σ Hc=>Same H2 Hc/\(∃ o1,σ=[o1,some (.int so),some (.int pa)])/\Els Hc ys (((cs.drop n).take i).map (fO so pa))) ⟨Same.refl H2,⟨_,rfl⟩,Els.nil⟩ (by rw [List.length_drop,sizeLine_eq];lia) ?_ ?_⟩
  ·rintro i ys σ Hc hi hy ⟨s3,⟨o1,rfl⟩,els⟩;obtain ⟨t,ex,et⟩:=J6.2 i (cs.drop n)[i] (zA0 hi);have om:=okc _ (List.mem_of_mem_drop (zAh hi))
   have dA:((cs.drop n).take (i+1)).map (fO so pa)=((cs.drop n).take i).map (fO so pa)++[fO so pa (cs.drop n)[i]]:=by
    rw [zAj,zA0 hi,zA4];rfl
   rw [dA];generalize (cs.drop n)[i]=r at et om ⊢;refine ⟨⟨_,_,SqT.of (s3 _ _ AF),ex⟩,fun v H' y' R' mv=>?_⟩;obtain ⟨rfl,y'⟩:=y';have hv:=y' _ (SqT.of (s3 _ _ AF));rw [ex] at hv;cases hv;refine aM ?_;exact ⟨_,rfl,_,rfl,_,rfl,t,r,so,pa,rfl,s3 _ _ et,om,hl,fun t' H4 s4 e4=>mv _ _ _ ⟨s3.trans s4,⟨_,rfl⟩,(els.same s4).app (Els.one e4)⟩⟩
  ·rintro ys σ Hc hy ⟨s3,_,els⟩;rw [zAm] at els;refine ⟨⟨_,SqT.of (s3 _ _ AF),by rw [J6.1];exact zA3 _⟩,fun D hD=>⟨D,_,rfl,.inl ⟨SqL.of aj,fun t' dP=>?_⟩⟩⟩;have s5:=(s3.updR (o:=.lst ys) hD).updR (o:=.tup ys) dP;have EX:=s2.trans s5;have eI:=els.same ((Same.upd (o:=.lst ys) hD).updR (o:=.tup ys) dP);have tP:=(((rc.els.takeE n).same s1).same EX).app eI;have ly:=els.1;rw [zA1,List.length_drop] at ly;refine ⟨iE,t',_,ys,rfl,rfl,EX _ _ J5,aj,fun z=>?_,?_,fun c H6 s6 ec=>q c _ H6 ((s1.trans EX).trans s6) ⟨ec,(tP.same s6).1,(tP.same s6).2⟩⟩
   ·rw [z] at ly;simp at ly;lia
   ·rw [zAd,sizeLine_eq];lia
theorem Ib:FnScope ["clips","year","sort","part"] ["clips","year","sort","part"] (aK (top 70)):=fS
theorem sy (F:Fun K "lessened" "lessened" (top 70) f fd)(c1:Cal P w K mg base 5 "refuse_no_clips" ["thing"] zg)(c2:Cal P w K mg base 3 "refuse_no_year_of" ["clips","year"] ue)(c3:Cal P w K mg base 3 "refuse_no_loss" ["sort","part"] zj)(c4:Cal P w K mg base 2 "clips_less" ["clips","year","sort","part"] jY):FnOk P w K mg base CX0 6 f fd ["clips","year","sort","part"] jY:=by
 refine F.ok Ib (fun vs H Q E h=>?_) (fun av A outer s H vs Q E hr h=>?_)
 ·obtain ⟨ac,xc,cs,y,so,pa,rfl,_⟩:=h;rfl
 ·obtain ⟨ac,xc,cs,y,so,pa,rfl,rc,okc,lc,y0,y1,hl,q⟩:=h
  refine ⟨_,aB (cT (aD c1 hr (aq (pv 0) aa))) (aB (cT (aD c2 hr (aq (pv 0) (aq (pv 1) aa)))) (aB (cT (aD c3 hr (aq (pv 2) (aq (pv 3) aa))))
   (aG (aR (aD c4 hr (aq (pv 0) (aq (pv 1) (aq (pv 2) (aq (pv 3) aa))))))))),?_⟩
  refine aF ?_
  have zc:sz (bM cs)<=4000:=by
   show 1+szs (cs.map rowD)<=4000;rw [gG (k:=3) fun r hr=>(okc r hr).1];lia
  refine ⟨_,rfl,(fun _=>False),_,bM cs,rfl,rc.th,zc,zr (by lia) lc okc,fun H1 s1=>?_⟩;dsimp only;refine aF ?_;refine ⟨_,rfl,_,rfl,ac,xc,cs,y,rfl,rc.same s1,y0,y1,fun H2 s2=>?_⟩;dsimp only;refine aF ?_;refine ⟨_,rfl,_,rfl,so,pa,rfl,hl,fun H3 s3=>?_⟩;dsimp only;have AG:=(s1.trans s2).trans s3;exact ⟨_,rfl,_,rfl,_,rfl,_,rfl,ac,xc,cs,y,so,pa,rfl,rc.same AG,okc,lc,y0,y1,hl,fun a' oe H4 s4 r4=>q a' oe H4 (AG.trans s4) r4⟩
structure LsAt (H0 H:Hp)(as:List Addr)(rs:List (List Int)):Prop where
 l:as.length=rs.length
 nd:as.Nodup
 fr:∀ a∈as,H0 a=none
 g:∀ i a,as[i]?=some a->H a=some (.lst ((rs.getD i []).map V.int))
theorem LsAt.same {H0 H H':Hp}{as:List Addr}{rs:List (List Int)}(h:LsAt H0 H as rs)(s:Same H H'):LsAt H0 H' as rs:=⟨h.l,h.nd,h.fr,fun i a e=>s _ _ (h.g i a e)⟩
theorem LsAt.nil {H0 H:Hp}:LsAt H0 H [] []:=⟨rfl,List.nodup_nil,fun _ h=>(List.not_mem_nil h).elim,fun i a e=>by simp at e⟩
theorem LsAt.snoc {H0 H:Hp}{as:List Addr}{rs:List (List Int)}{a:Addr}{r:List Int}(h:LsAt H0 H as rs)(n:∀ b∈as,b≠a)(n0:H0 a=none)(e:H a=some (.lst (r.map V.int))):LsAt H0 H (as++[a]) (rs++[r]):=by
 refine ⟨by rw [zA2,zA2,h.l];rfl,?_,fun b hb=>?_,fun i b eb=>?_⟩
 ·rw [List.nodup_append];exact ⟨h.nd,by simp,fun x hx y hy=>by rw [List.mem_singleton.mp hy];exact n x hx⟩
 ·rcases zA6.mp hb with z | z
  ·exact h.fr b z
  ·rw [List.mem_singleton.mp z];exact n0
 ·by_cases hi:i < as.length
  ·rw [zB5 hi] at eb;rw [zA7,zB5 (by rw [<- h.l];exact hi),<- zA7];exact h.g i b eb
  ·rw [zB7 (by lia)] at eb
   cases hj:i - as.length with
   | zero =>
    rw [hj] at eb;injection eb with eb;subst eb;have:i=rs.length:=by have:=h.l;lia
    rw [this,zA7,List.getElem?_concat_length];exact e
   | succ k =>
    rw [hj] at eb;simp at eb
theorem LsAt.put {H0 H:Hp}{as:List Addr}{rs:List (List Int)}(h:LsAt H0 H as rs){i:Nat}{a:Addr}(ea:as[i]?=some a)(r:List Int):LsAt H0 (upd H a (.lst (r.map V.int))) as (rs.set i r):=by
 have hi:i < as.length:=(zAa.mp ea).1;refine ⟨by rw [List.length_set];exact h.l,h.nd,h.fr,fun j b eb=>?_⟩;by_cases hj:j=i
 ·subst hj;rw [ea] at eb;cases eb;rw [aj,zA7,List.getElem?_set_self (by rw [<- h.l];exact hi)];rfl
 ·rw [aA fun z=>hj ?_,zA7,List.getElem?_set_ne (Ne.symm hj),<- zA7]
  ·exact h.g j b eb
  ·subst z;obtain ⟨h1,e1⟩:=zAa.mp eb;obtain ⟨h2,e2⟩:=zAa.mp ea;exact (List.getElem_inj h.nd).mp (e1.trans e2.symm)
theorem nP {X:Cx}{K:PySem.W.Frag}(hK:X.K=K):du X (.type "list") (fun xs H Q=>∃ p ys,xs=[.ref p]/\(SqL K H p ys\/SqT K H p ys)/\∀ l,H l=none->Q (.ref l) (upd H l (.lst ys))):=by
 subst hK;exact iI
def CT:List (List Int)->List (List Int)->List (List Int)->Int->VK->Hp->Prop:=fun cs ps ss y Q H=>∀ H',Same H H'->Q (.int (aN (dF cs ps ss (y.toNat+1)))) H'
theorem Ie:FnScope ["book","year"] ["book","year"] (aK (top 64)):=fS
theorem Ca (F:Fun K "lack_by" "lack_by" (top 64) f fd)(c1:Cal P w K mg base 8 "refuse_no_year" ["book","year"] (yX Em))(c2:Cal P w K mg base 11 "owed_behind" ["book","year"] (xm CQ))(c3:Cal P w K mg base 1 "sacks_of" ["rows"] jW):FnOk P w K mg base CX0 12 f fd ["book","year"] (yX CT):=by
 refine F.ok Ie (fun vs H Q E h=>?_) (fun av A outer s H vs Q E hr h=>?_)
 ·obtain ⟨S,bk,y,d,ac,xc,cs,ap,xp,ps,ah,xs,ss,rfl,_⟩:=h;rfl
 ·obtain ⟨S,bk,y,d,ac,xc,cs,ap,xp,ps,ah,xs,ss,rfl,th,hz,hb,B,y0,y1,q⟩:=h;refine ⟨_,aB (cT (aD c1 hr (aq (pv 0) (aq (pv 1) aa)))) (aG (aR (aD c3 hr (aq (aD c2 hr (aq (pv 0) (aq (pv 1) aa))) aa)))),?_⟩;refine aF ?_;refine ⟨_,rfl,_,rfl,S,bk,y,d,ac,xc,cs,ap,xp,ps,ah,xs,ss,rfl,th,hz,hb,B,y0,y1,fun H1 s1=>?_⟩;dsimp only;have B1:=B.same s1;obtain ⟨rh,L6⟩:=su (cs:=cs) B.lp B.un B.h5 B.okp (y.toNat+1);exact ⟨_,rfl,_,rfl,bk,y,ac,xc,cs,ap,xp,ps,ah,xs,ss,rfl,B1,y0,y1,fun k xk H2 s2 n ns e1 e2=>⟨k,xk,_,rfl,e1,e2,fun r hr=>(rh r hr).1,by have:=B.lc;lia,fun H3 s3=>q H3 ((s1.trans s2).trans s3)⟩⟩
def je (ns:List Int):List Int:=(List.range (ns.length+1)).map fun i=>(ns.drop i).sum
def jP (ns:List Int)(j:Nat):List Int:=(List.range (j+1)).map fun i=>(ns.drop (ns.length - i)).sum
theorem xu (ns:List Int):jP ns 0=[0]:=by
 show [(ns.drop (ns.length - 0)).sum]=[0];rw [Nat.sub_zero,List.drop_length];rfl
theorem pG (ns:List Int)(j:Nat):jP ns j=(List.range j).map (fun i=>(ns.drop (ns.length - i)).sum)++[(ns.drop (ns.length - j)).sum]:=by
 unfold jP;rw [List.range_succ,zA4];rfl
theorem xx {ns:List Int}{j:Nat}{x:Int}(h:ns.reverse[j]?=some x):jP ns (j+1)=jP ns j++[(ns.drop (ns.length - j)).sum+x]:=by
 have hj:j < ns.length:=by
  have:=(zAa.mp h).1;rw [List.length_reverse] at this;exact this
 rw [List.getElem?_reverse hj] at h;rw [pG ns (j+1)];congr 2;have e:ns.length - j=(ns.length - (j+1))+1:=by lia
 have hl:ns.length - (j+1) < ns.length:=by lia
 have hx:ns[ns.length - (j+1)]=x:=by
  rw [show ns.length - 1 - j=ns.length - (j+1) by lia,zA0 hl] at h;exact zAl h
 rw [List.drop_eq_getElem_cons hl,<- e,hx,List.sum_cons,Int.add_comm]
theorem zJ (ns:List Int):(jP ns ns.length).reverse=je ns:=by
 unfold jP je;refine List.ext_getElem (by simp) fun i h1 h2=>?_;rw [List.getElem_reverse,List.getElem_map,List.getElem_map,List.getElem_range,List.getElem_range];simp only [List.length_reverse,List.length_map,List.length_range] at h1 h2 ⊢;congr 2;lia
theorem zK {α:Type}(xs:List α)(x:α):atI (xs++[x]) (-1)=some x:=by
 have e1:ixN (xs++[x]).length (-1)=some xs.length:=by
  unfold ixN;rw [zAu (by decide),zA2,List.length_singleton,zAx (by lia)];congr 1;lia
 unfold atI;rw [e1];exact List.getElem?_concat_length
inductive SpFromI (vs:List V)(H:Hp)(Q:VK):Prop
 | mk:∀ l ns,(vs=[.ref l])->(H l=some (.lst (ns.map V.int)))->(ns.length<=100)->(∀ k H',Same H H'->H k=none->H' k=some (.lst ((je ns).map V.int))->Q (.ref k) H')->SpFromI  vs H Q
def ug:Sp:=fun vs H Q _=>SpFromI  vs H Q
structure TbAt (H:Hp)(L:Addr)(as:List Addr)(rs:List (List Int)):Prop where
 e:H L=some (.lst (as.map V.ref))
 l:as.length=rs.length
 g:∀ i a,as[i]?=some a->H a=some (.lst ((rs.getD i []).map V.int))
theorem TbAt.same {H H':Hp}{L:Addr}{as:List Addr}{rs:List (List Int)}(h:TbAt H L as rs)(s:Same H H'):TbAt H' L as rs:=⟨s _ _ h.e,h.l,fun i a e=>s _ _ (h.g i a e)⟩
def clT (ps ss:List (List Int))(y s:Nat):List Int:=(List.range (y+1)).map fun (i:Nat)=>aN (aJ ps ss (s:Int) (i:Int))
def mV (ps ss:List (List Int))(y n:Nat):List (List Int):=(List.range n).map fun s=>je (clT ps ss y s)
def wlT (cs:List (List Int))(y s:Nat):List Int:=(List.range (y+1)).map fun (i:Nat)=>fl (cs.getD i []) s
def mW (cs:List (List Int))(y n:Nat):List (List Int):=(List.range n).map fun s=>je (wlT cs y s)
def Eo:List (List Int)->List (List Int)->List (List Int)->Int->VK->Hp->Prop:=fun cs ps ss y Q H=>∀ L as H',Same H H'->TbAt H' L as (mV ps ss y.toNat 3)->Q (.ref L) H'
def Ep:List (List Int)->List (List Int)->List (List Int)->Int->VK->Hp->Prop:=fun cs ps ss y Q H=>∀ L as H',Same H H'->TbAt H' L as (mW cs y.toNat 3)->Q (.ref L) H'
theorem scO1:FnScope ["numbers","sums","number"] ["numbers"] (aK (top 59)):=fS
theorem Cd (F:Fun K "from_each_on" "from_each_on" (top 59) f fd)(Tv:mg "reversed" = none):FnOk P w K mg base CX0 1 f fd ["numbers"] ug:=by
 refine F.ok scO1 (fun vs H Q E h=>?_) (fun av A outer s H vs Q E hr h=>?_)
 ·obtain ⟨l,ns,rfl,_⟩:=h;rfl
 ·obtain ⟨l,ns,rfl,el,hl,q⟩:=h
  refine ⟨_,aB (pss 1 scO1.nd (dN (aq az aa)))
   (aB (cV zB8 rfl (Ea rfl Tv (aq (pv 0) aa)) (pgn 2 scO1.nd)
    (aG (cT (uB zBg zBf zBe gK (pv 1) (aq (aV bC (pX bL (pv 1) (xO tE az)) (pv 2)) aa)))))
   (aG (aR (Bm (pv 1))))),?_⟩
  refine aF (aX ?_);refine ⟨zL,fun l1 gI=>?_⟩;have s1:=Same.upd (o:=.lst [V.int 0]) gI;have e1:upd H l1 (.lst [V.int 0]) l1=some (.lst ((jP ns 0).map V.int)):=by rw [xu];exact aj
  generalize upd H l1 (.lst [V.int 0])=H1 at s1 e1 ⊢;refine aM ?_;dsimp only;refine aF ?_;refine ⟨_,rfl,l,_,rfl,SqL.of (s1 _ _ el),?_⟩;refine Bl (xs:=ns.map V.int) (fun i σ Hc=>∃ x2,σ=[some (.ref l),some (.ref l1),x2]/\Same H Hc/\Hc l1=some (.lst ((jP ns i).map V.int))) ?_ ?_ ?_ ?_
  ·exact ⟨none,rfl,s1,e1⟩
  ·rintro i σ Hc hi ⟨x2,rfl,sc,e⟩;exact SqL.of (sc _ _ el)
  ·rintro i x σ Hc hx ⟨x2,rfl,sc,e⟩;rw [<- List.map_reverse,zAb] at hx;obtain ⟨n,hn,rfl⟩:=Option.map_eq_some_iff.mp hx
   have hi:i < ns.length:=by
    have:=(zAa.mp hn).1;rw [List.length_reverse] at this;exact this
   rw [xx hn];refine aM ?_;have tI:(jP ns i).length=i+1:=by unfold jP;rw [zA1,List.length_range]
   have f7:atI ((jP ns i).map V.int) (-1)=some (.int (ns.drop (ns.length - i)).sum):=by
    rw [pG,zA4];exact zK _ _
   refine ⟨_,rfl,.inl ⟨rfl,_,SqL.of e⟩,_,rfl,_,rfl,l1,_,-1,_,rfl,rfl,SqL.of e,f7,_,rfl,_,_,rfl,rfl,l1,_,_,rfl,rfl,e,?_,?_⟩
   ·rw [zA1,tI,sizeLine_eq];lia
   ·refine ⟨_,rfl,fun b o e'=>?_,?_⟩
    ·rw [aA (aC e' gI)];exact sc _ _ e'
    ·rw [aj,zA4];rfl
  ·rintro σ Hc ⟨x2,rfl,sc,e⟩;dsimp only;rw [zA1] at e;refine ⟨_,rfl,l1,_,rfl,SqL.of e,fun k hk=>q k _ (sc.updR hk) (sc.free hk) ?_⟩;rw [aj,<- List.map_reverse,zJ]
theorem Ig:(["sort","promises","sales","year"]:List Str).Nodup:=by decide +kernel
theorem Ih:(["at","promises","sales","sort"]:List Str).Nodup:=by decide +kernel
theorem scO2:FnScope ["book","year","clips","promises","sales"] ["book","year"] (aK (top 60)):=fS
theorem uh (F:Fun K "claimed_since" "claimed_since" (top 60) f fd)(N:Nums mg)(Tr:mg "range" = none)(c1:Cal P w K mg base 1 "from_each_on" ["numbers"] ug)(c2:Cal P w K mg base 1 "sacks_of" ["rows"] jW)(c3:Cal P w K mg base 2 "claims_in" ["promises","sales","sort","year"] mO):FnOk P w K mg base CX0 3 f fd ["book","year"] (xm Eo):=by
 refine F.ok scO2 (fun vs H Q E h=>?_) (fun av A outer s H vs Q E hr h=>?_)
 ·obtain ⟨bk,y,ac,xc,cs,ap,xp,ps,ah,xs,ss,rfl,_⟩:=h;rfl
 ·obtain ⟨bk,y,ac,xc,cs,ap,xp,ps,ah,xs,ss,rfl,B,y0,y1,q⟩:=h;obtain ⟨t1,e1⟩:=N.sorts
  refine ⟨_,aB (cj (pv 0) (bU rfl (au (pgn 2 scO2.nd) (au (aZ (i:=3) scO2.nd rfl (Or.inr rfl)) (au (aZ (i:=4) scO2.nd rfl (Or.inr rfl)) aY)))))
   (aG (aR (rA (x₀:="sort") ["sort","promises","sales","year"] [none,some 3,some 4,some 1] rfl (bN rfl Tr (aq (bK (v:=.int 3) rfl e1 ⟨_,rfl⟩) aa))
    (fun C fp pins s₂ H₂=>⟨aZ (i:=0) Ig rfl (Or.inr rfl) (Or.inl rfl),bh,aD c1 hr (aq (bA ["at","promises","sales","sort"] [none,some 1,some 2,some 0] rfl (bN rfl Tr (aq (aV bC (pv 3) az) aa))
     (fun C fp pins s₂ H₂=>⟨pgn 0 Ih,bh,aD c2 hr (aq (aD c3 hr (aq (pv 1) (aq (pv 2) (aq (pv 3) (aq (pv 0) aa))))) aa)⟩)
     (fun C=>cI (cI (cI trivial))) ⟨rfl,rfl,rfl,rfl⟩) aa)⟩)
    (fun C=>cI (cI (cI trivial))) ⟨rfl,rfl,rfl,rfl,fun _ _=>rfl,fun _=>rfl⟩))),?_⟩
  obtain ⟨n,rfl⟩:∃ n:Nat,y=n:=⟨y.toNat,by lia⟩
  unfold Eo at q;rw [zAi] at q;have hn:n < 20:=by have:=B.lc;lia
  refine aF ?_;refine ⟨_,rfl,bk,_,rfl,SqT.of B.e,rfl,_,_,rfl,_,_,rfl,_,_,rfl,rfl,?_⟩;dsimp only;refine fX ?_;refine ⟨3,rfl,by decide,by decide,bu 3 (fun i ys σ Hc=>Same H Hc/\(∃ o1,σ=[o1,some (.ref ap),some (.ref ah),some (.int n)])/\∃ as:List Addr,ys=as.map V.ref/\as.length=i/\∀ j a,as[j]?=some a->Hc a=some (.lst (((mV ps ss n 3).getD j []).map V.int))) ⟨Same.refl H,⟨_,rfl⟩,[],rfl,rfl,fun j a e=>by simp at e⟩ (by rw [sizeLine_eq];decide) ?_ ?_⟩
  ·rintro i ys σ Hc hi hy ⟨s1,⟨o1,rfl⟩,as,rfl,la,ga⟩;refine ⟨hi,fun v H' y' R hR=>?_⟩;obtain ⟨eH,rfl⟩:=y';subst H';refine aM ?_;have ff:=vg B.un B.h5;have B1:=B.same s1;refine ⟨_,rfl,_,_,rfl,rfl,(n:Int)+1,rfl,by lia,by lia,?_⟩;refine bu (n+1) (fun j ys σ Hd=>Same Hc Hd/\(∃ o1,σ=[o1,some (.ref ap),some (.ref ah),some (.int (0+(i:Int)))])/\ys=(((List.range j).map fun (k:Nat)=>aN (aJ ps ss (i:Int) (k:Int))):List Int).map V.int) ⟨Same.refl Hc,⟨_,rfl⟩,rfl⟩ (by rw [sizeLine_eq];lia) ?_ ?_
   ·rintro j ys σ Hd hj hy ⟨s2,⟨o1,rfl⟩,rfl⟩;refine ⟨by show j < _;lia,fun v H' y' R' mv=>?_⟩;obtain ⟨eH,rfl⟩:=y';subst H';refine aM ?_;have B2:=B1.same s2;refine ⟨_,rfl,_,rfl,_,rfl,_,rfl,ap,xp,ps,ah,xs,ss,_,_,rfl,B2.rp,B.lp,B.okp,B2.rs,B.ls,ff,fun l xl H3 s3 nl el els=>?_⟩;have i0:(0:Int)+(i:Int)=(i:Int):=Int.zero_add _;have j0:(0:Int)+(j:Int)=(j:Int):=Int.zero_add _;rw [i0,j0] at els;have Rm:=cY (ss:=ss) (sort:=(i:Int)) (year:=(j:Int)) B.lp;refine ⟨l,xl,_,rfl,el,els,fun r hr=>(eF B.un B.h5 B.okp r hr).1,by lia,fun H4 s4=>mv _ _ _ ⟨(s2.trans s3).trans s4,⟨_,rfl⟩,?_⟩⟩;rw [List.range_succ,zA4,zA4];rfl
   ·rintro ys σ Hd hy ⟨s2,_,rfl⟩;refine ⟨by show _<=n+1;lia,fun D hD=>?_⟩;have s3:=Same.upd (o:=.lst (((List.range (n+1)).map fun (k:Nat)=>aN (aJ ps ss (i:Int) (k:Int))).map V.int)) hD;refine ⟨D,_,rfl,aj,by rw [zA1,List.length_range];lia,fun k H4 s4 nk ek=>hR _ _ _ ⟨((s1.trans s2).trans s3).trans s4,⟨_,rfl⟩,as++[k],by rw [zA4];rfl,by rw [zA2,la];rfl,fun j a e=>?_⟩⟩;by_cases hj:j < as.length
    ·rw [zB5 hj] at e;exact s4 _ _ (s3 _ _ (s2 _ _ (ga j a e)))
    ·rw [zB7 (by lia)] at e
     cases hk:j - as.length with
     | zero =>
      rw [hk] at e;injection e with e;subst e;have:j=i:=by lia
      rw [ek,this]
      have:(mV ps ss n 3).getD i []=je (clT ps ss n i):=by
       unfold mV;rw [zA7,zAb,List.getElem?_range hi];rfl
      rw [this];rfl
     | succ m =>
      rw [hk] at e;simp at e
  ·rintro ys σ Hc hy ⟨s1,_,as,rfl,la,ga⟩;refine ⟨by show _<=3;decide,fun D hD=>?_⟩;have s2:=Same.upd (o:=.lst (as.map V.ref)) hD;exact q D as _ (s1.trans s2) ⟨aj,by rw [la];unfold mV;rw [zA1,List.length_range],fun i a e=>s2 _ _ (ga i a e)⟩
def mnL:List Int->Int
 | []=>0
 | [x]=>x
 | x::y::r=>if x<=mnL (y::r) then x else mnL (y::r)
theorem jZ:∀ {ns:List Int},ns≠[]->mnL ns∈ns
 | [],h=>absurd rfl h
 | [x],_=>List.mem_singleton.mpr rfl
 | x::y::r,_=>by
  show (if x<=mnL (y::r) then x else mnL (y::r))∈_;split
  ·exact .head _
  ·exact .tail _ (jZ (fun z=>nomatch z))
theorem qK:∀ {ns:List Int},∀ a∈ns,mnL ns<=a
 | [],a,h=>nomatch h
 | [x],a,h=>by rw [List.mem_singleton.mp h];exact Int.le_refl _
 | x::y::r,a,h=>by
  show (if x<=mnL (y::r) then x else mnL (y::r))<=a;rcases zAo.mp h with z | z
  ·rw [z];split <;> lia
  ·have:=qK (ns:=y::r) a z;split <;> lia
theorem Er {ns:List Int}{M:Int}(h:M∈ns)(hl:∀ a∈ns,M<=a):M=mnL ns:=by
 have h1:=hl _ (jZ (fun z=>by rw [z] at h;cases h));have h2:=qK M h;lia
def tb (T:List (List Int))(s:Nat)(i:Int):Int:=(T.getD s []).getD i.toNat 0
def shV (C W:List (List Int))(p:List Int):Int:=((List.range 3).map fun s=>tb C s (fl p s)).sum - ((List.range 3).map fun s=>tb W s (mnL (p.drop s))).sum
def xF (n:Int)(p:List Int):Prop:=p.length=3/\∀ x∈p,0<=x/\x<=n+1
inductive SpShownI (vs:List V)(H:Hp)(Q:VK):Prop
 | mk:∀ lc ac C lw aw W t p n,(vs=[.ref lc,.ref lw,.ref t])->(TbAt H lc ac C)->(TbAt H lw aw W)->(C.length=3)->(W.length=3)->((∀ r∈C,(r.length:Int)=n+2))->((∀ r∈W,(r.length:Int)=n+2))->(H t=some (.tup (p.map V.int)))->(xF n p)->(∀ H',Same H H'->Q (.int (shV C W p)) H')->SpShownI  vs H Q
def vq:Sp:=fun vs H Q _=>SpShownI  vs H Q
inductive SpIsPI (vs:List V)(H:Hp)(Q:VK):Prop
 | mk:∀ y t p,(vs=[.int y,.ref t])->(H t=some (.tup (p.map V.int)))->(xF y p)->(∀ H',Same H H'->Q (.bl true) H')->SpIsPI  vs H Q
def CV:Sp:=fun vs H Q _=>SpIsPI  vs H Q
def zM (cs ps ss:List (List Int))(y:Nat)(p:List Int):Int:=shV (mV ps ss y 3) (mW cs y 3) p
inductive SpShByI (vs:List V)(H:Hp)(Q:VK):Prop
 | mk:∀ S bk y t p d ac xc cs ap xp ps ah xs ss,(vs=[.ref bk,.int y,.ref t])->(IsTh S H (.ref bk) d)->(sz d<=4000)->(gZ d=true)->(BookAt H bk ac xc cs ap xp ps ah xs ss)->(0<=y)->(y < cs.length)->(H t=some (.tup (p.map V.int)))->(xF y p)->(∀ H',Same H H'->Q (.int (zM cs ps ss y.toNat p)) H')->SpShByI  vs H Q
def zN:Sp:=fun vs H Q _=>SpShByI  vs H Q
theorem zP {T:List (List Int)}{s:Nat}{m:Int}(h:∀ r∈T,(r.length:Int)=m)(hs:s < T.length):((T.getD s []).length:Int)=m:=by
 rw [zA7,zA0 hs];exact h _ (zAh hs)
theorem sE {n:Int}{p:List Int}(h:xF n p){s:Nat}(hs:s < 3):0<=fl p s/\fl p s<=n+1:=by
 have hl:s < p.length:=by rw [h.1];exact hs
 unfold fl;rw [zA7,zA0 hl];exact h.2 _ (zAh hl)
theorem vy {n:Int}{p:List Int}(h:xF n p){s:Nat}(hs:s < 3):0<=mnL (p.drop s)/\mnL (p.drop s)<=n+1:=by
 have hl:p.drop s≠[]:=fun z=>by
  have:=congrArg List.length z;rw [List.length_drop,h.1] at this;simp at this;lia
 exact h.2 _ (List.mem_of_mem_drop (jZ hl))
theorem CW {T:List (List Int)}{s:Nat}{n i:Int}(h:∀ r∈T,(r.length:Int)=n+2)(hs:s < T.length)(h0:0<=i)(h1:i<=n+1):atI ((T.getD s []).map V.int) i=some (.int (tb T s i)):=by
 have hl:=zP h hs;have:=bQ (dz (L:=T.getD s []) (i:=i.toNat) (by lia));rw [show ((i.toNat:Nat):Int)=i by lia] at this;exact this
theorem TbAt.at {H:Hp}{L:Addr}{as:List Addr}{T:List (List Int)}(h:TbAt H L as T){s:Nat}(hs:s < T.length):∃ a,atI (as.map V.ref) (s:Int)=some (.ref a)/\H a=some (.lst ((T.getD s []).map V.int)):=by
 have hl:s < as.length:=by rw [h.l];exact hs
 exact ⟨as[s],bQ (by rw [zAb,zA0 hl];rfl),h.g s _ (zA0 hl)⟩
theorem Ii:(["sort","clips","year"]:List Str).Nodup:=by decide +kernel
theorem Ij:(["at","clips","sort"]:List Str).Nodup:=by decide +kernel
theorem scP2:FnScope ["book","year","clips","promises","sales"] ["book","year"] (aK (top 61)):=fS
theorem sG (F:Fun K "wool_since" "wool_since" (top 61) f fd)(N:Nums mg)(Tr:mg "range" = none)(c1:Cal P w K mg base 1 "from_each_on" ["numbers"] ug):FnOk P w K mg base CX0 2 f fd ["book","year"] (xm Ep):=by
 refine F.ok scP2 (fun vs H Q E h=>?_) (fun av A outer s H vs Q E hr h=>?_)
 ·obtain ⟨bk,y,ac,xc,cs,ap,xp,ps,ah,xs,ss,rfl,_⟩:=h;rfl
 ·obtain ⟨bk,y,ac,xc,cs,ap,xp,ps,ah,xs,ss,rfl,B,y0,y1,q⟩:=h;obtain ⟨t1,e1⟩:=N.sorts
  refine ⟨_,aB (cj (pv 0) (bU rfl (au (aZ (i:=2) scP2.nd rfl (Or.inr rfl)) (au (pgn 3 scP2.nd) (au (pgn 4 scP2.nd) aY)))))
   (aG (aR (rA (x₀:="sort") ["sort","clips","year"] [none,some 2,some 1] rfl (bN rfl Tr (aq (bK (v:=.int 3) rfl e1 ⟨_,rfl⟩) aa))
    (fun C fp pins s₂ H₂=>⟨aZ (i:=0) Ii rfl (Or.inr rfl) (Or.inl rfl),bh,aD c1 hr (aq (bA ["at","clips","sort"] [none,some 1,some 0] rfl (bN rfl Tr (aq (aV bC (pv 2) az) aa))
     (fun C fp pins s₂ H₂=>⟨pgn 0 Ij,bh,pX (K92P.ix_tupK (K:=K) rfl) (pX (K92P.ix_tupK (K:=K) rfl) (pv 1) (pv 0)) (pv 2)⟩)
     (fun C=>cI (cI trivial)) ⟨rfl,rfl,rfl,rfl⟩) aa)⟩)
    (fun C=>cI (cI trivial)) ⟨rfl,rfl,rfl,rfl,fun _ _=>rfl,fun _=>rfl⟩))),?_⟩
  obtain ⟨n,rfl⟩:∃ n:Nat,y=n:=⟨y.toNat,by lia⟩
  unfold Ep at q;rw [zAi] at q;have hn:n < 20:=by have:=B.lc;lia
  refine aF ?_;refine ⟨_,rfl,bk,_,rfl,SqT.of B.e,rfl,_,_,rfl,_,_,rfl,_,_,rfl,rfl,?_⟩;dsimp only;refine fX ?_;refine ⟨3,rfl,by decide,by decide,bu 3 (fun i ys σ Hc=>Same H Hc/\(∃ o1,σ=[o1,some (.ref ac),some (.int n)])/\∃ as:List Addr,ys=as.map V.ref/\as.length=i/\∀ j a,as[j]?=some a->Hc a=some (.lst (((mW cs n 3).getD j []).map V.int))) ⟨Same.refl H,⟨_,rfl⟩,[],rfl,rfl,fun j a e=>by simp at e⟩ (by rw [sizeLine_eq];decide) ?_ ?_⟩
  ·rintro i ys σ Hc hi hy ⟨s1,⟨o1,rfl⟩,as,rfl,la,ga⟩;refine ⟨hi,fun v H' y' R hR=>?_⟩;obtain ⟨eH,rfl⟩:=y';subst H';refine aM ?_;have B1:=B.same s1;refine ⟨_,rfl,_,_,rfl,rfl,(n:Int)+1,rfl,by lia,by lia,?_⟩;refine bu (n+1) (fun j ys σ Hd=>Hd=Hc/\(∃ o1,σ=[o1,some (.ref ac),some (.int (0+(i:Int)))])/\ys=(((List.range j).map fun (k:Nat)=>fl (cs.getD k []) i):List Int).map V.int) ⟨rfl,⟨_,rfl⟩,rfl⟩ (by rw [sizeLine_eq];lia) ?_ ?_
   ·rintro j ys σ Hd hj hy ⟨rfl,⟨o1,rfl⟩,rfl⟩;refine ⟨by show j < _;lia,fun v H' y' R' mv=>?_⟩;obtain ⟨eH,rfl⟩:=y';subst H';refine aM ?_;have EZ:j < cs.length:=by lia
    obtain ⟨t,ex,et⟩:=B1.rc.g j cs[j] (zA0 EZ);have l3:=(B.okc _ (zAh EZ)).1;have E1:atI xc (0+(j:Int))=some (.ref t):=by rw [Int.zero_add];exact bQ ex
    have E2:atI (cs[j].map V.int) (0+(i:Int))=some (.int (fl (cs.getD j []) i)):=by
     rw [Int.zero_add,getD_get EZ];exact bQ (dz (by lia))
    refine ⟨_,rfl,_,rfl,ac,_,_,_,rfl,rfl,SqT.of B1.rc.e,E1,_,rfl,t,_,_,_,rfl,rfl,SqT.of et,E2,mv _ _ _ ⟨rfl,⟨_,rfl⟩,?_⟩⟩;rw [List.range_succ,zA4,zA4];rfl
   ·rintro ys σ Hd hy ⟨rfl,_,rfl⟩;refine ⟨by show _<=n+1;lia,fun D hD=>?_⟩;have s3:=Same.upd (o:=.lst (((List.range (n+1)).map fun (k:Nat)=>fl (cs.getD k []) i).map V.int)) hD;refine ⟨D,_,rfl,aj,by rw [zA1,List.length_range];lia,fun k H4 s4 nk ek=>hR _ _ _ ⟨(s1.trans s3).trans s4,⟨_,rfl⟩,as++[k],by rw [zA4];rfl,by rw [zA2,la];rfl,fun j a e=>?_⟩⟩;by_cases hj:j < as.length
    ·rw [zB5 hj] at e;exact s4 _ _ (s3 _ _ (ga j a e))
    ·rw [zB7 (by lia)] at e
     cases hk:j - as.length with
     | zero =>
      rw [hk] at e;injection e with e;subst e;have:j=i:=by lia
      rw [ek,this]
      have:(mW cs n 3).getD i []=je (wlT cs n i):=by
       unfold mW;rw [zA7,zAb,List.getElem?_range hi];rfl
      rw [this];rfl
     | succ m =>
      rw [hk] at e;simp at e
  ·rintro ys σ Hc hy ⟨s1,_,as,rfl,la,ga⟩;refine ⟨by show _<=3;decide,fun D hD=>?_⟩;have s2:=Same.upd (o:=.lst (as.map V.ref)) hD;exact q D as _ (s1.trans s2) ⟨aj,by rw [la];unfold mW;rw [zA1,List.length_range],fun i a e=>s2 _ _ (ga i a e)⟩
theorem nQ {X:Cx}{K:PySem.W.Frag}(hK:X.K=K)(hc:X.calm=true):du X (.builtin "min") (fun xs H Q=>∃ (p:Addr) (ns:List Int),xs=[.ref p]/\SqT K H p (ns.map V.int)/\ns≠[]/\∀ M,M∈ns->(∀ a∈ns,M<=a)->Q (.int M) H):=by
 subst hK;exact qu hc
theorem GD:(["sort","since","claimed"]:List Str).Nodup:=by decide +kernel
theorem Ik:(["sort","wool","paper"]:List Str).Nodup:=by decide +kernel
theorem Il:(["since","year"]:List Str).Nodup:=by decide +kernel
theorem jy:bootBuiltins "min" = some (.builtin "min"):=by decide +kernel
theorem scQ1:FnScope ["claimed","wool","paper","claims"] ["claimed","wool","paper"] (aK (top 62)):=fS
theorem zQ (F:Fun K "shown" "shown" (top 62) f fd)(N:Nums mg)(Tr:mg "range" = none)(Ts:mg "sum" = none)(Te:mg "enumerate" = none)(Tn:mg "min" = none):FnOk P w K mg base CX0 1 f fd ["claimed","wool","paper"] vq:=by
 refine F.ok scQ1 (fun vs H Q E h=>?_) (fun av A outer s H vs Q E hr h=>?_)
 ·obtain ⟨lc,ac,C,lw,aw,W,t,p,n,rfl,_⟩:=h;rfl
 ·obtain ⟨lc,ac,C,lw,aw,W,t,p,n,rfl,tC,tW,lC,lW,rC,rW,et,okp,q⟩:=h;obtain ⟨t1,e1⟩:=N.sorts
  refine ⟨_,aB (pss 3 scQ1.nd (aQ (cZ rfl) rfl Ts boot_sum (aq (bA (g:=iC K 2 (bR (bG 0) (bR (bG 1) jh))) ["sort","since","claimed"] [none,none,some 0] rfl (pi_enum rfl Te (aq (pv 2) aa))
    (fun C fp pins s₂ H₂=>⟨cU rfl rfl (au (pgn 0 GD) (au (pgn 1 GD) aY)),bh,pX (fJ (K:=K) rfl) (pX (fJ (K:=K) rfl) (pv 2) (pv 0)) (pv 1)⟩)
    (fun C=>cI trivial) ⟨rfl,rfl,rfl,rfl⟩) aa)))
   (aG (aR (aV cJ (pv 3) (aQ (cZ rfl) rfl Ts boot_sum (aq (bA ["sort","wool","paper"] [none,some 1,some 2] rfl (bN rfl Tr (aq (bK (v:=.int 3) rfl e1 ⟨_,rfl⟩) aa))
    (fun C fp pins s₂ H₂=>⟨pgn 0 Ik,bh,pX (fJ (K:=K) rfl) (pX (fJ (K:=K) rfl) (pv 1) (pv 0)) (aQ (nQ (K:=K) rfl rfl) rfl Tn jy (aq (gj qJ (pv 2) (iG (pv 0)) iD) aa))⟩)
    (fun C=>cI (cI trivial)) ⟨rfl,rfl,rfl,rfl⟩) aa))))),?_⟩
  have l3:=okp.1;refine aF (aX ?_);refine ⟨_,rfl,t,_,rfl,SqT.of et,bu 3 (fun i ys σ Hc=>Same H Hc/\(∃ o1 o2,σ=[o1,o2,some (.ref lc)])/\ys=((List.range i).map fun s=>tb C s (fl p s)).map V.int) ⟨Same.refl H,⟨_,_,rfl⟩,rfl⟩ (by rw [sizeLine_eq];decide) ?_ ?_⟩
  ·rintro i ys σ Hc hi hy ⟨s1,⟨o1,o2,rfl⟩,rfl⟩;have hX:SqT K Hc t (p.map V.int):=SqT.of (s1 _ _ et);have ku:(p.map V.int)[i]?=some (.int (fl p i)):=dz (by lia);refine ⟨⟨_,_,hX,ku⟩,fun x H' yv R hR=>?_⟩;obtain ⟨T1,rg,rfl,yv⟩:=yv;obtain ⟨x',fx,rfl⟩:=yv _ hX;rw [ku] at fx;cases fx;have s2:=s1.updR (o:=.tup [.int (i:Int),.int (fl p i)]) rg;obtain ⟨f0,f1⟩:=sE okp hi;obtain ⟨a,ha,ea⟩:=(tC.same s2).at (s:=i) (by lia);refine ⟨T1,_,rfl,SqT.of aj,rfl,_,_,rfl,_,_,rfl,rfl,?_⟩;refine ⟨_,rfl,_,rfl,lc,_,_,_,rfl,rfl,SqL.of (tC.same s2).e,ha,_,rfl,a,_,_,_,rfl,rfl,SqL.of ea,CW rC (by lia) f0 f1,hR _ _ _ ⟨s2,⟨_,_,rfl⟩,?_⟩⟩;rw [List.range_succ,zA4,zA4];rfl
  ·rintro ys σ Hc hy ⟨s1,_,rfl⟩;refine ⟨⟨_,SqT.of (s1 _ _ et),by rw [zA1];lia⟩,fun D hD=>⟨D,_,rfl,.inl (SqL.of aj),?_⟩⟩;have s2:=s1.updR (o:=.lst (((List.range 3).map fun s=>tb C s (fl p s)).map V.int)) hD;generalize upd Hc D (.lst (((List.range 3).map fun s=>tb C s (fl p s)).map V.int))=H2 at s2 ⊢;refine aM ?_;dsimp only;refine fX ?_;refine ⟨_,rfl,3,rfl,by decide,by decide,bu 3 (fun i ys σ Hc=>Same H2 Hc/\(∃ o1,σ=[o1,some (.ref lw),some (.ref t)])/\ys=((List.range i).map fun s=>tb W s (mnL (p.drop s))).map V.int) ⟨Same.refl H2,⟨_,rfl⟩,rfl⟩ (by rw [sizeLine_eq];decide) ?_ ?_⟩
   ·rintro i ys σ Hd hi hy ⟨s3,⟨o1,rfl⟩,rfl⟩;refine ⟨hi,fun v H' y' R hR=>?_⟩;obtain ⟨eH,rfl⟩:=y';subst H';refine aM ?_;have E3:=s2.trans s3;obtain ⟨a,ha,ea⟩:=(tW.same E3).at (s:=i) (by lia);rw [show ((i:Nat):Int)=0+(i:Int) by lia] at ha;refine ⟨_,rfl,_,rfl,lw,_,_,_,rfl,rfl,SqL.of (tW.same E3).e,ha,_,rfl,_,rfl,_,rfl,t,_,rfl,E3 _ _ et,fun c H4 s4 ec=>?_⟩;rw [Int.zero_add,cut_drop (by rw [zA1];lia),<- List.map_drop] at ec
    have e8:p.drop i≠[]:=fun z=>by
     have:=congrArg List.length z;rw [List.length_drop,l3] at this;simp at this;lia
    refine ⟨c,_,rfl,SqT.of ec,e8,fun M hM hle=>?_⟩;have eM:=Er hM hle;subst eM;obtain ⟨m0,m1⟩:=vy okp hi;refine ⟨a,_,_,_,rfl,rfl,SqL.of (s4 _ _ ea),CW rW (by lia) m0 m1,hR _ _ _ ⟨s3.trans s4,⟨_,rfl⟩,?_⟩⟩;rw [List.range_succ,zA4,zA4];rfl
   ·rintro ys σ Hd hy ⟨s3,_,rfl⟩;refine ⟨by show _<=3;decide,fun D2 MB=>⟨D2,_,rfl,.inl (SqL.of aj),_,_,rfl,rfl,q _ ((s2.trans s3).updR MB)⟩⟩
theorem Im:FnScope ["year","thing"] ["year","thing"] (aK (top 63)):=fS
theorem Es (F:Fun K "is_paper_for" "is_paper_for" (top 63) f fd)(T:Mg mg)(N:Nums mg)(c1:Cal P w K mg base 2 "are_wholes" ["thing","many"] (yw bx)):FnOk P w K mg base CX0 3 f fd ["year","thing"] CV:=by
 refine F.ok Im (fun vs H Q E h=>?_) (fun av A outer s H vs Q E hr h=>?_)
 ·obtain ⟨y,t,p,rfl,_⟩:=h;rfl
 ·obtain ⟨y,t,p,rfl,et,okp,q⟩:=h;obtain ⟨t1,e1⟩:=N.sorts
  refine ⟨_,aG (aR (cg (aD c1 hr (aq (pv 1) (aq (bK (v:=.int 3) rfl e1 ⟨_,rfl⟩) aa)))
   (dB (aQ (dI rfl) rfl T.all boot_all (aq (bA ["since","year"] [none,some 0] rfl (dM (pv 1))
    (fun C fp pins s₂ H₂=>⟨pgn 0 Il,bh,cC bY bY az (pv 0) (aV bC (pv 1) az)⟩) (fun C=>cI trivial) ⟨rfl,rfl,rfl,rfl⟩) aa))))),?_⟩
  have l3:=okp.1;have th:IsTh (fun _=>False) H (.ref t) (rowD p):=.tup et (IsThs.ints p)
  have zp:sz (rowD p)<=4000:=by
   show 1+szs (p.map PyData.int)<=4000;rw [jx,l3];decide
  refine ⟨_,rfl,(fun _=>False),.ref t,rowD p,3,rfl,th,zp,fun H1 s1=>⟨_,rfl,?_⟩⟩;rw [show bx (rowD p) 3=true from gQ l3];refine bV ?_;refine ⟨_,rfl,t,rfl,⟨_,SqT.of (s1 _ _ et)⟩,bu 3 (fun i ys σ Hc=>Hc=H1/\(∃ o1,σ=[o1,some (.int y)])/\ys=(List.replicate i true).map V.bl) ⟨rfl,⟨_,rfl⟩,rfl⟩ (by rw [sizeLine_eq];decide) ?_ ?_⟩
  ·rintro i ys σ Hc hi hy ⟨rfl,⟨o1,rfl⟩,rfl⟩;have ku:(p.map V.int)[i]?=some (.int (fl p i)):=dz (by lia);refine ⟨⟨_,_,SqT.of (s1 _ _ et),ku⟩,fun v H' y' R hR=>?_⟩;obtain ⟨rfl,y'⟩:=y';have hv:=y' _ (SqT.of (s1 _ _ et));rw [ku] at hv;cases hv;obtain ⟨f0,f1⟩:=sE okp hi;refine aM ?_;refine cB (p:=fun i j=>decide (i<=j)) (q:=fun i j=>decide (i<=j)) (i:=0) (j:=fl p i) (k:=y+1) (fun Q q=>q) (eO rfl) (fun Q q=>⟨_,rfl,_,_,rfl,rfl,q⟩) _ (hR _ _ _ ⟨rfl,⟨_,rfl⟩,?_⟩);rw [zAt f0,zAt f1,List.replicate_succ',zA4];rfl
  ·rintro ys σ Hc hy ⟨rfl,_,rfl⟩;refine ⟨⟨_,SqT.of (s1 _ _ et),by rw [zA1];lia⟩,fun D hD=>⟨D,_,rfl,SqL.of aj,q _ (s1.updR hD)⟩⟩
theorem sI (ns:List Int):(je ns).length=ns.length+1:=by unfold je;rw [zA1,List.length_range]
theorem Io:FnScope ["book","year","paper"] ["book","year","paper"] (aK (top 65)):=fS
theorem Ce (F:Fun K "shown_by" "shown_by" (top 65) f fd)(c1:Cal P w K mg base 8 "refuse_no_year" ["book","year"] (yX Em))(c2:Cal P w K mg base 3 "is_paper_for" ["year","thing"] CV)(c3:Cal P w K mg base 3 "claimed_since" ["book","year"] (xm Eo))(c4:Cal P w K mg base 2 "wool_since" ["book","year"] (xm Ep))(c5:Cal P w K mg base 1 "shown" ["claimed","wool","paper"] vq):FnOk P w K mg base CX0 9 f fd ["book","year","paper"] zN:=by
 refine F.ok Io (fun vs H Q E h=>?_) (fun av A outer s H vs Q E hr h=>?_)
 ·obtain ⟨S,bk,y,t,p,d,ac,xc,cs,ap,xp,ps,ah,xs,ss,rfl,_⟩:=h;rfl
 ·obtain ⟨S,bk,y,t,p,d,ac,xc,cs,ap,xp,ps,ah,xs,ss,rfl,th,hz,hb,B,y0,y1,et,okp,q⟩:=h
  refine ⟨_,aB (cT (aD c1 hr (aq (pv 0) (aq (pv 1) aa))))
   (aB (bW (cH (dq (aD c2 hr (aq (pv 1) (aq (pv 2) aa))))) (aG dH) bf)
   (aG (aR (aD c5 hr (aq (aD c3 hr (aq (pv 0) (aq (pv 1) aa))) (aq (aD c4 hr (aq (pv 0) (aq (pv 1) aa))) (aq (pv 2) aa))))))),?_⟩
  refine aF ?_;refine ⟨_,rfl,_,rfl,S,bk,y,d,ac,xc,cs,ap,xp,ps,ah,xs,ss,rfl,th,hz,hb,B,y0,y1,fun H1 s1=>?_⟩;dsimp only;refine aF ?_;refine ⟨_,rfl,_,rfl,y,t,p,rfl,s1 _ _ et,okp,fun H2 s2=>⟨_,rfl,?_⟩⟩;refine bI (dw ?_);dsimp only;have l9:=s1.trans s2;refine ⟨_,rfl,_,rfl,bk,y,ac,xc,cs,ap,xp,ps,ah,xs,ss,rfl,B.same l9,y0,y1,fun L1 a1 H3 s3 tC=>⟨_,rfl,_,rfl,bk,y,ac,xc,cs,ap,xp,ps,ah,xs,ss,rfl,(B.same l9).same s3,y0,y1,fun L2 a2 H4 s4 tW=>?_⟩⟩;refine ⟨_,rfl,L1,a1,_,L2,a2,_,t,p,y,rfl,tC.same s4,tW,by unfold mV;rw [zA1,List.length_range],by unfold mW;rw [zA1,List.length_range],fun r hr=>?_,fun r hr=>?_,s4 _ _ (s3 _ _ (l9 _ _ et)),okp,fun H5 s5=>q _ (((l9.trans s3).trans s4).trans s5)⟩
  ·obtain ⟨i,_,rfl⟩:=zA5.mp hr;rw [sI];unfold clT;rw [zA1,List.length_range];lia
  ·obtain ⟨i,_,rfl⟩:=zA5.mp hr;rw [sI];unfold wlT;rw [zA1,List.length_range];lia
theorem pH:∀ {w:Int} {rs:List (List Int)},0<=w->(∀ r∈rs,0<=fl r 3)->(cD w rs).sum=min w (aN rs)
 | w,[],hw,_=>by
  show (0:Int)=min w 0;lia
 | w,r::rs,hw,h=>by
  have h0:=h r (.head _);have ih:=pH (w:=w - (if w < fl r 3 then w else fl r 3)) (rs:=rs) (by split <;> lia) fun q hq=>h q (.tail _ hq)
  have hn:0<=aN rs:=by
   unfold aN wts;refine (fZ fun x hx=>?_).1;obtain ⟨q,hq,rfl⟩:=zA5.mp hx;exact h q (.tail _ hq)
  have es:aN (r::rs)=fl r 3+aN rs:=rfl;unfold cD;rw [List.sum_cons,ih,es];split <;> lia
theorem ul {w:Int}{cl:List (List Int)}(hw:0<=w)(hc:∀ r∈cl,r.length=4/\1<=fl r 3/\fl r 3<=99)(hz:cl.length<=80):(bz w cl).sum=min w (aN cl):=by
 unfold bz;by_cases h:(wts cl).sum<=w
 ·rw [zAx h];show (wts cl).sum=min w (wts cl).sum;lia
 ·rw [zAu h]
  have ok:K92P.OkW (wts cl):=by
   refine ⟨?_,by unfold wts;rw [zA1];exact hz,fun x hx=>?_⟩
   ·cases qB:cl with
    | nil =>
     rw [qB] at h;exact absurd hw h
    | cons r qE =>
     unfold wts;rw [zA1,zAe];lia
   ·obtain ⟨r,hr,rfl⟩:=zA5.mp hx;exact (hc r hr).2
  rw [K92P.res_sum ok];show w=min w (wts cl).sum;lia
theorem gR (a b:List (List Int)):aN (a++b)=aN a+aN b:=by
 unfold aN wts;rw [zA4,List.sum_append]
theorem jf {rs:List (List Int)}(h:∀ r∈rs,0<=fl r 3):0<=aN rs:=by
 unfold aN wts;refine (fZ fun x hx=>?_).1;obtain ⟨q,hq,rfl⟩:=zA5.mp hx;exact h q hq
theorem Cg {w:Int}{cl ow:List (List Int)}(hw:0<=w)(hc:∀ r∈cl,r.length=4/\1<=fl r 3/\fl r 3<=99)(hz:cl.length<=80)(ho:∀ r∈ow,0<=fl r 3):(shr w cl ow).sum=min w (aN cl+aN ow):=by
 unfold shr;have h1:=ul hw hc hz;have h2:=pH (w:=w - (bz w cl).sum) (rs:=ow) (by lia) ho
 have h3:=jf (rs:=cl) fun r hr=>by have:=(hc r hr).2.1;lia
 have h4:=jf ho;rw [List.sum_append,h2,h1];lia
theorem sJ:∀ {rs:List (List Int)} {sh:List Int},sh.length=rs.length->(∀ p∈rs.zip sh,p.2<=fl p.1 3)->aN (cP (rs.zip sh))=aN rs - sh.sum
 | [],[],_,_=>rfl
 | [],_::_,h,_=>by simp at h
 | _::_,[],h,_=>by simp at h
 | r::rs,x::sh,h,hn=>by
  have ih:=sJ (rs:=rs) (sh:=sh) (by simpa using h) fun y hy=>hn y (by rw [List.zip_cons_cons];exact .tail _ hy);have hx:x<=fl r 3:=hn (r,x) (by rw [List.zip_cons_cons];exact .head _);have es:aN (r::rs)=fl r 3+aN rs:=rfl;rw [List.zip_cons_cons,List.sum_cons,es];unfold cP at ih ⊢;by_cases hp:x < fl r 3
  ·rw [zBd (p:=fun (p:List Int×Int)=>decide (p.2 < fl p.1 3)) (zAt hp),zAk];have e2:∀ L,aN ([fl r 0,fl r 1,fl r 2,fl r 3 - x]::L)=(fl r 3 - x)+aN L:=fun L=>rfl;rw [e2,ih];lia
  ·rw [zBc (p:=fun (p:List Int×Int)=>decide (p.2 < fl p.1 3)) (by rw [decide_eq_true_eq];exact hp),ih];lia
section
variable {c:List Int}{ps ss ow:List (List Int)}{y:Int}
def xD (c:List Int)(ps ss ow:List (List Int))(y:Int)(s:Nat):Int:=aN (aJ ps ss s y)+aN (aH ps ow s) - c.getD s 0
def sD (c:List Int)(ps ss ow:List (List Int))(y:Int):Nat->Int
 | 0=>0
 | n+1=>sD c ps ss ow y n+xD c ps ss ow y n
theorem Et {w:Int}(hw:0<=w)(hu:un ps ss=none)(h5:∀ s∈ss,s.length=5)(okp:∀ r∈ps,okP r)(hl:ps.length<=10)(n:Nat):∀ p∈(aJ ps ss n y++aH ps ow n).zip (shr w (aJ ps ss n y) (aH ps ow n)),p.2<=fl p.1 3:=fun p hp=>by
 unfold shr at hp;rw [List.zip_append shares_len.symm] at hp;rcases zA6.mp hp with z | z
 ·exact Gw hw (eF hu h5 okp) (cY hl) p z
 ·exact Gx p z
theorem zR (hc:∀ x∈c,0<=x)(hu:un ps ss=none)(h5:∀ s∈ss,s.length=5)(okp:∀ r∈ps,okP r)(hl:ps.length<=10)(ho:∀ r∈ow,okO ps r)(n:Nat) :
  aN (yTo c ps ss ow y (n+1)).k=aN (yTo c ps ss ow y n).k+max 0 (xD c ps ss ow y n - (yTo c ps ss ow y n).d)/\(yTo c ps ss ow y (n+1)).d=max 0 ((yTo c ps ss ow y n).d - xD c ps ss ow y n):=by
 have nn:=El (y:=y) hc hu h5 okp hl ho n
 have hw:0<=c.getD n 0+(yTo c ps ss ow y n).d:=by
  have:=jX hc n;lia
 have BB:=eF (sort:=n) (year:=y) hu h5 okp;have J7:=cY (ss:=ss) (sort:=n) (year:=y) hl
 have J8:∀ r∈aH ps ow n,0<=fl r 3:=fun r hr=>by have:=(gF (sort:=n) ho r hr).2.2.2;lia
 have e1:=Cg hw BB J7 J8;have e2:=(vd hw BB J7 J8).1;have e3:=sJ (rs:=aJ ps ss n y++aH ps ow n) (sh:=shr (c.getD n 0+(yTo c ps ss ow y n).d) (aJ ps ss n y) (aH ps ow n)) (by unfold shr;rw [zA2,zA2,shares_len,dZ]) (Et hw hu h5 okp hl n);rw [gR] at e3;constructor
 ·show aN ((yTo c ps ss ow y n).k++cP _)=_;rw [gR,e3,e1];unfold xD;lia
 ·show c.getD n 0+(yTo c ps ss ow y n).d - aN (eV _)=_;rw [e2,e1];unfold xD;lia
theorem CZ (hc:∀ x∈c,0<=x)(hu:un ps ss=none)(h5:∀ s∈ss,s.length=5)(okp:∀ r∈ps,okP r)(hl:ps.length<=10)(ho:∀ r∈ow,okO ps r):∀ n,(yTo c ps ss ow y n).d=aN (yTo c ps ss ow y n).k - sD c ps ss ow y n
 | 0=>rfl
 | n+1=>by
  have ih:=CZ hc hu h5 okp hl ho n;obtain ⟨a,b⟩:=zR (y:=y) hc hu h5 okp hl ho n;rw [a,b];show _=_ - (sD c ps ss ow y n+xD c ps ss ow y n);lia
theorem GF (hc:∀ x∈c,0<=x)(hu:un ps ss=none)(h5:∀ s∈ss,s.length=5)(okp:∀ r∈ps,okP r)(hl:ps.length<=10)(ho:∀ r∈ow,okO ps r)(n:Nat):aN (yTo c ps ss ow y (n+1)).k=max (aN (yTo c ps ss ow y n).k) (sD c ps ss ow y (n+1)):=by
 have ih:=CZ (y:=y) hc hu h5 okp hl ho n;obtain ⟨a,_⟩:=zR (y:=y) hc hu h5 okp hl ho n;rw [a];show _=max _ (sD c ps ss ow y n+xD c ps ss ow y n);lia
theorem vz {s:Nat}:∀ n,aN (aH ps (yTo c ps ss ow y n).k s)=if s < n then aN (yTo c ps ss ow y (s+1)).k - aN (yTo c ps ss ow y s).k else 0
 | 0=>rfl
 | n+1=>by
  have ih:=vz (s:=s) n;have ek:∀ m,(yTo c ps ss ow y (m+1)).k=(yTo c ps ss ow y m).k++cP ((aJ ps ss m y++aH ps ow m).zip (shr (c.getD m 0+(yTo c ps ss ow y m).d) (aJ ps ss m y) (aH ps ow m))):=fun m=>rfl
  have oo:∀ r∈cP ((aJ ps ss n y++aH ps ow n).zip (shr (c.getD n 0+(yTo c ps ss ow y n).d) (aJ ps ss n y) (aH ps ow n))),fl (ps.getD (fl r 1).toNat []) 1=n:=fun r hr=>by
   obtain ⟨p,hp,rfl⟩:=zA5.mp hr;obtain ⟨m1,_⟩:=List.of_mem_zip (show (p.1,p.2)∈_ from (zAq.mp hp).1);show fl (ps.getD (fl p.1 1).toNat []) 1=n;rcases zA6.mp m1 with z | z
   ·exact (BL z).2.1
   ·exact zB6 (zAq.mp z).2
  have e1:aH ps (yTo c ps ss ow y (n+1)).k s=aH ps (yTo c ps ss ow y n).k s++aH ps (cP ((aJ ps ss n y++aH ps ow n).zip (shr (c.getD n 0+(yTo c ps ss ow y n).d) (aJ ps ss n y) (aH ps ow n)))) s:=by
   rw [ek n];exact List.filter_append ..
  rw [e1,gR,ih];by_cases hs:s=n
  ·subst hs;rw [zAu (Nat.lt_irrefl _),zAx (Nat.lt_succ_self _),ek s,gR];have e2:aH ps (cP ((aJ ps ss s y++aH ps ow s).zip (shr (c.getD s 0+(yTo c ps ss ow y s).d) (aJ ps ss s y) (aH ps ow s)))) s=cP ((aJ ps ss s y++aH ps ow s).zip (shr (c.getD s 0+(yTo c ps ss ow y s).d) (aJ ps ss s y) (aH ps ow s))):=List.filter_eq_self.mpr fun r hr=>zAt (oo r hr);rw [e2];lia
  ·have e2:aH ps (cP ((aJ ps ss n y++aH ps ow n).zip (shr (c.getD n 0+(yTo c ps ss ow y n).d) (aJ ps ss n y) (aH ps ow n)))) s=[]:=List.filter_eq_nil_iff.mpr fun r hr z=>by
    have:=oo r hr;have z:=zB6 z;rw [this] at z;lia
   rw [e2];have e0:aN []=0:=rfl;rw [e0,Int.add_zero];by_cases h:s < n
   ·rw [zAx h,zAx (by lia)]
   ·rw [zAu h,zAu (by lia)]
end
theorem Eu {a b:List Int}(h:a.Perm b):a.sum=b.sum:=by
 induction h with
 | nil=>rfl
 | cons x _ ih=>rw [List.sum_cons,List.sum_cons,ih]
 | swap x y l =>
  rw [List.sum_cons,List.sum_cons,List.sum_cons,List.sum_cons];lia
 | trans _ _ h1 h2=>exact h1.trans h2
theorem sO {a b:List (List Int)}(h:a.Perm b):aN a=aN b:=by
 unfold aN wts;exact Eu (h.map _)
def aO (cs ps ss:List (List Int))(m:Nat):Nat->Int
 | 0=>0
 | n+1=>aO cs ps ss m n+aN (aH ps (dF cs ps ss m) n)
def dl (cs ps ss:List (List Int))(s m:Nat):Int:=aN (aJ ps ss s m) - (cs.getD m []).getD s 0
def dS (cs ps ss:List (List Int))(m:Nat):Nat->Int
 | 0=>0
 | n+1=>dS cs ps ss m n+dl cs ps ss n m
theorem Dc {cs ps ss:List (List Int)}{m:Nat}:∀ n,sD (cs.getD m []) ps ss (dF cs ps ss m) m n=aO cs ps ss m n+dS cs ps ss m n
 | 0=>rfl
 | n+1=>by
  show sD _ _ _ _ _ n+xD _ _ _ _ _ n=(aO cs ps ss m n+aN _)+(dS cs ps ss m n+dl cs ps ss n m);rw [Dc n];unfold xD dl;lia
structure BkO (cs ps ss:List (List Int)):Prop where
 okc:∀ r∈cs,r.length=3/\∀ x∈r,0<=x
 hl:ps.length<=10
 hu:un ps ss=none
 h5:∀ s∈ss,s.length=5
 okp:∀ r∈ps,okP r
theorem kh {cs ps ss:List (List Int)}(m:Nat):∀ n,n<=3->aO cs ps ss (m+1) n=aN (yTo (cs.getD m []) ps ss (dF cs ps ss m) m n).k
 | 0,_=>rfl
 | n+1,h=>by
  show aO cs ps ss (m+1) n+aN (aH ps (dF cs ps ss (m+1)) n)=_;rw [kh m n (by lia)];have e:aN (aH ps (dF cs ps ss (m+1)) n)=aN (aH ps (yTo (cs.getD m []) ps ss (dF cs ps ss m) m 3).k n):=sO ((zb _).filter _);rw [e,vz 3,zAx (by lia)];lia
theorem zT {cs ps ss:List (List Int)}(B:BkO cs ps ss)(m n:Nat)(hn:n+1<=3):aO cs ps ss (m+1) (n+1)=max (aO cs ps ss (m+1) n) (aO cs ps ss m (n+1)+dS cs ps ss m (n+1)):=by
 rw [kh m (n+1) hn,kh m n (by lia),GF (Gy B.okc m) B.hu B.h5 B.okp B.hl (su B.hl B.hu B.h5 B.okp m).1 n,Dc]
theorem vA {cs ps ss:List (List Int)}:∀ m,aO cs ps ss m 3=aN (dF cs ps ss m)
 | 0=>rfl
 | m+1=>by
  rw [kh m 3 (zA3 _)];exact (sO (zb _)).symm
def seg (f:Nat->Int)(a:Nat):Nat->Int
 | 0=>0
 | m+1=>if a<=m then seg f a m+f m else 0
def val (δ:Nat->Nat->Int)(t:Nat->Nat)(m:Nat):Nat->Int
 | 0=>0
 | n+1=>val δ t m n+seg (δ n) (t n) m
def Mono (t:Nat->Nat)(n:Nat):Prop:=∀ s,s+1 < n->t s<=t (s+1)
theorem Mono.le {t:Nat->Nat}{n:Nat}(h:Mono t n):∀ {a b},a<=b->b < n->t a<=t b:=fun {a b} oj=>by
 induction oj with
 | refl=>exact fun _=>zA3 _
 | step _ ih=>exact fun hb=>Nat.le_trans (ih (by lia)) (h _ hb)
theorem vB {f:Nat->Int}{a m:Nat}(h:m<=a):seg f a m=0:=by
 cases m with
 | zero=>rfl
 | succ m =>
  show (if a<=m then _ else 0)=(0:Int);rw [zAu (by lia)]
theorem Ew {f:Nat->Int}{a m:Nat}(h:a<=m):seg f a (m+1)=seg f a m+f m:=zAx h
theorem vC {cs ps ss:List (List Int)}(B:BkO cs ps ss)(m:Nat):∀ {a b:Nat},a<=b->aO cs ps ss m a<=aO cs ps ss m b:=fun {a b} oj=>by
 induction oj with
 | refl=>exact Int.le_refl _
 | @step b h ih =>
  refine Int.le_trans ih ?_
  have:0<=aN (aH ps (dF cs ps ss m) b):=jf (rs:=aH ps (dF cs ps ss m) b) fun r hr=>by
   have:=(gF (sort:=(b:Int)) (su B.hl B.hu B.h5 B.okp m).1 r hr).2.2.2;lia
  show aO cs ps ss m b<=aO cs ps ss m b+aN (aH ps (dF cs ps ss m) b);exact Int.le_add_of_nonneg_right this
theorem GJ {cs ps ss:List (List Int)}(B:BkO cs ps ss)(m:Nat):∀ i,i<=3->aO cs ps ss m i+dS cs ps ss m i<=aO cs ps ss (m+1) i
 | 0,_=>Int.le_refl _
 | i+1,h=>by
  rw [zT B m i h];lia
theorem jz {δ:Nat->Nat->Int}{t:Nat->Nat}{m:Nat}(ds:Nat->Int)(h0:ds 0=0)(hs:∀ n,ds (n+1)=ds n+δ n m):∀ i,(∀ s,s < i->t s<=m)->val δ t (m+1) i=val δ t m i+ds i
 | 0,_=>by rw [h0];rfl
 | i+1,h=>by
  show val δ t (m+1) i+seg (δ i) (t i) (m+1)=(val δ t m i+seg (δ i) (t i) m)+ds (i+1);rw [jz ds h0 hs i fun s hs=>h s (by lia),Ew (h i (by lia)),hs];lia
theorem vD {δ:Nat->Nat->Int}{t:Nat->Nat}{m i:Nat}:∀ n,i<=n->(∀ s,i<=s->s < n->m<=t s)->val δ t m n=val δ t m i
 | 0,h,_=>by
  have:i=0:=by lia
  rw [this]
 | n+1,h,ht=>by
  by_cases e:i=n+1
  ·rw [e]
  ·show val δ t m n+seg (δ n) (t n) m=_;rw [vD n (by lia) fun s h1 h2=>ht s h1 (by lia),vB (ht n (by lia) (by lia)),Int.add_zero]
theorem zU (t:Nat->Nat)(m:Nat):∀ n,Mono t n->∃ i,i<=n/\(∀ s,s < i->t s<=m)/\∀ s,i<=s->s < n->m+1<=t s
 | 0,_=>⟨0,zA3 _,fun s h=>by lia,fun s _ h=>by lia⟩
 | n+1,hm=>by
  by_cases h:t n<=m
  ·exact ⟨n+1,zA3 _,fun s hs=>Nat.le_trans (hm.le (by lia) (by lia)) h,fun s h1 h2=>by lia⟩
  ·obtain ⟨i,hi,h1,h2⟩:=zU t m n fun s hs=>hm s (by lia);refine ⟨i,by lia,h1,fun s hs sL=>?_⟩;by_cases e:s=n
   ·rw [e];lia
   ·exact h2 s hs (by lia)
theorem um {cs ps ss:List (List Int)}(B:BkO cs ps ss){t:Nat->Nat}:∀ m n,n<=3->Mono t n->val (dl cs ps ss) t m n<=aO cs ps ss m n
 | 0,n,hn,_=>by
  have e:∀ n,val (dl cs ps ss) t 0 n=0:=fun n=>by
   induction n with
   | zero=>rfl
   | succ n ih =>
    show val _ t 0 n+0=0;rw [ih];rfl
  rw [e];exact vC B 0 (zAp n)
 | m+1,n,hn,hm=>by
  obtain ⟨i,hi,h1,h2⟩:=zU t m n hm;rw [vD n hi h2,jz (dS cs ps ss m) rfl (fun _=>rfl) i h1];have a:=um B (t:=t) m i (by lia) fun s hs=>hm s (by lia);have b:=GJ B m i (by lia);have c:=vC B (m+1) hi;lia
theorem vG {δ:Nat->Nat->Int}{t u:Nat->Nat}{m:Nat}:∀ n,(∀ s,s < n->t s=u s)->val δ t m n=val δ u m n
 | 0,_=>rfl
 | n+1,h=>by
  show val δ t m n+seg (δ n) (t n) m=val δ u m n+seg (δ n) (u n) m;rw [vG n fun s hs=>h s (by lia),h n (by lia)]
theorem val_eq {cs ps ss:List (List Int)}(B:BkO cs ps ss):∀ m n,n<=3->∃ t,Mono t n/\(∀ s,s < n->t s<=m)/\val (dl cs ps ss) t m n=aO cs ps ss m n
 | 0,n,hn=>by
  refine ⟨fun _=>0,fun _ _=>zA3 _,fun _ _=>zA3 _,?_⟩
  have e:∀ n,val (dl cs ps ss) (fun _=>0) 0 n=0:=fun n=>by
   induction n with
   | zero=>rfl
   | succ n ih =>
    show val _ _ 0 n+0=0;rw [ih];rfl
  have e2:∀ n,aO cs ps ss 0 n=0:=fun n=>by
   induction n with
   | zero=>rfl
   | succ n ih =>
    show aO cs ps ss 0 n+aN (aH ps [] n)=0;rw [ih];rfl
  rw [e,e2]
 | m+1,0,_=>⟨fun _=>0,fun _ _=>zA3 _,fun s hs=>by lia,rfl⟩
 | m+1,n+1,hn=>by
  rw [zT B m n hn];by_cases h:aO cs ps ss (m+1) n<=aO cs ps ss m (n+1)+dS cs ps ss m (n+1)
  ·obtain ⟨t,t1,t2,t3⟩:=val_eq B m (n+1) hn;refine ⟨t,t1,fun s hs=>Nat.le_succ_of_le (t2 s hs),?_⟩;rw [jz (dS cs ps ss m) rfl (fun _=>rfl) (n+1) t2,t3];lia
  ·obtain ⟨t,t1,t2,t3⟩:=val_eq B (m+1) n (by lia);refine ⟨fun s=>if s < n then t s else m+1,fun s hs=>?_,fun s hs=>?_,?_⟩
   ·show (if s < n then t s else m+1)<=(if s+1 < n then t (s+1) else m+1);by_cases h1:s+1 < n
    ·rw [zAx h1,zAx (by lia)];exact t1 s h1
    ·rw [zAu h1,zAx (by lia)];exact t2 s (by lia)
   ·show (if s < n then t s else m+1)<=m+1;split
    ·exact t2 s (by assumption)
    ·exact zA3 _
   ·show val _ _ (m+1) n+seg _ (if n < n then t n else m+1) (m+1)=_;rw [zAu (Nat.lt_irrefl _),vB (zA3 _),vG (u:=t) n fun s hs=>zAx hs,t3];lia
theorem sS (f:Nat->Int)(a:Nat):∀ m,(((List.range m).map f).drop a).sum=seg f a m
 | 0=>by
  show (([]:List Int).drop a).sum=0;rw [List.drop_nil];rfl
 | m+1=>by
  rw [List.range_succ,zA4];show (((List.range m).map f++[f m]).drop a).sum=if a<=m then seg f a m+f m else 0;by_cases h:a<=m
  ·rw [zAx h,List.drop_append_of_le_length (by rw [zA1,List.length_range];exact h),List.sum_append,sS f a m];show _+(f m+0)=_;rw [Int.add_zero]
  ·rw [zAu h,List.drop_of_length_le (by rw [zA2,zA1,List.length_range];show m+1<=a;lia)];rfl
theorem zV {ns:List Int}{k:Nat}(h:k<=ns.length):(je ns).getD k 0=(ns.drop k).sum:=by
 unfold je;rw [zA7,zAb,List.getElem?_range (by lia)];rfl
theorem zW {f:Nat->Nat->Int}{Y s:Nat}{i:Int}(hs:s < 3)(h1:i<=Y+1):tb ((List.range 3).map fun s=>je ((List.range (Y+1)).map (f s))) s i=seg (f s) i.toNat (Y+1):=by
 unfold tb
 have e:((List.range 3).map fun s=>je ((List.range (Y+1)).map (f s))).getD s []=je ((List.range (Y+1)).map (f s)):=by
  rw [zA7,zAb,List.getElem?_range hs];rfl
 rw [e,zV (by rw [zA1,List.length_range];lia),sS]
def cF (ps ss:List (List Int))(s i:Nat):Int:=aN (aJ ps ss (s:Int) (i:Int))
def wF (cs:List (List Int))(s i:Nat):Int:=fl (cs.getD i []) s
theorem zZ {ps ss:List (List Int)}{Y s:Nat}{i:Int}(hs:s < 3)(h1:i<=Y+1):tb (mV ps ss Y 3) s i=seg (cF ps ss s) i.toNat (Y+1):=zW (f:=cF ps ss) hs h1
theorem Aa {cs:List (List Int)}{Y s:Nat}{i:Int}(hs:s < 3)(h1:i<=Y+1):tb (mW cs Y 3) s i=seg (wF cs s) i.toNat (Y+1):=zW (f:=wF cs) hs h1
theorem vH {f g:Nat->Int}{a:Nat}:∀ m,seg (fun j=>f j - g j) a m=seg f a m - seg g a m
 | 0=>rfl
 | m+1=>by
  have ih:=vH (f:=f) (g:=g) (a:=a) m;show (if a<=m then seg (fun j=>f j - g j) a m+(f m - g m) else 0)=(if a<=m then seg f a m+f m else 0) - (if a<=m then seg g a m+g m else 0);rw [ih];split <;> lia
theorem sU {f:Nat->Int}(hf:∀ j,0<=f j){a b:Nat}(h:a<=b):∀ m,0<=seg f b m/\seg f b m<=seg f a m
 | 0=>⟨Int.le_refl _,Int.le_refl _⟩
 | m+1=>by
  have ih:=sU hf h m;have:=hf m;show 0<=(if b<=m then seg f b m+f m else 0)/\(if b<=m then seg f b m+f m else 0)<=(if a<=m then seg f a m+f m else 0);by_cases h1:b<=m
  ·rw [zAx h1,zAx (by lia)];lia
  ·rw [zAu h1];refine ⟨Int.le_refl _,?_⟩;split <;> lia
theorem jg {f g:Nat->Int}{a:Nat}(h:∀ j,f j<=g j):∀ m,seg f a m<=seg g a m
 | 0=>Int.le_refl _
 | m+1=>by
  have ih:=jg (a:=a) h m;have:=h m;show (if a<=m then seg f a m+f m else 0)<=(if a<=m then seg g a m+g m else 0);split <;> lia
theorem vI {f g:Nat->Int}{a y:Nat}{k:Int}(h:∀ j,g j=f j+(if j=y then k else 0)):∀ m,seg g a m=seg f a m+(if a<=y/\y < m then k else 0)
 | 0=>by
  rw [zAu (by lia)];rfl
 | m+1=>by
  have ih:=vI (a:=a) h m;have hm:=h m;show (if a<=m then seg g a m+g m else 0)=(if a<=m then seg f a m+f m else 0)+_;by_cases h1:a<=m
  ·rw [zAx h1,zAx h1,ih,hm];by_cases h2:m=y
   ·rw [zAx h2,zAu (by lia),zAx (by lia)];lia
   ·rw [zAu h2];by_cases h3:a<=y/\y < m
    ·rw [zAx h3,zAx (by lia)];lia
    ·rw [zAu h3,zAu (by lia)];lia
  ·rw [zAu h1,zAu h1,zAu (by lia)];rfl
def wS (cs:List (List Int))(Y:Nat)(t:Nat->Nat):Int:=seg (wF cs 0) (t 0) (Y+1)+seg (wF cs 1) (t 1) (Y+1)+seg (wF cs 2) (t 2) (Y+1)
def cS (ps ss:List (List Int))(Y:Nat)(t:Nat->Nat):Int:=seg (cF ps ss 0) (t 0) (Y+1)+seg (cF ps ss 1) (t 1) (Y+1)+seg (cF ps ss 2) (t 2) (Y+1)
theorem Ab {cs ps ss:List (List Int)}{Y:Nat}{t:Nat->Nat}:val (dl cs ps ss) t (Y+1) 3=cS ps ss Y t - wS cs Y t:=by
 have e:∀ s,seg (dl cs ps ss s) (t s) (Y+1)=seg (cF ps ss s) (t s) (Y+1) - seg (wF cs s) (t s) (Y+1):=fun s=>vH (f:=cF ps ss s) (g:=wF cs s) (Y+1);show 0+seg (dl cs ps ss 0) (t 0) (Y+1)+seg (dl cs ps ss 1) (t 1) (Y+1)+seg (dl cs ps ss 2) (t 2) (Y+1)=_;rw [e,e,e];unfold cS wS;lia
theorem km {cs oq ps ss:List (List Int)}{Y:Nat}(B:BkO cs ps ss)(B':BkO oq ps ss)(h:∀ t,Mono t 3->wS cs Y t<=wS oq Y t):aN (dF oq ps ss (Y+1))<=aN (dF cs ps ss (Y+1)):=by
 obtain ⟨t,t1,t2,t3⟩:=val_eq B' (Y+1) 3 (zA3 _);have a:=um B (Y+1) 3 (zA3 _) t1;rw [vA] at a t3;rw [Ab] at a t3;have:=h t t1;lia
theorem GK {cs ps ss:List (List Int)}(B:BkO cs ps ss)(s j:Nat):0<=cF ps ss s j:=jf fun r hr=>by
 have:=(eF B.hu B.h5 B.okp r hr).2.1;lia
theorem shown_le {cs ps ss:List (List Int)}{Y:Nat}{p:List Int}(B:BkO cs ps ss)(h:xF Y p):zM cs ps ss Y p<=aN (dF cs ps ss (Y+1)):=by
 have hm:∀ s,s < 3->mnL (p.drop s)<=fl p s:=fun s hs=>by
  refine qK _ ?_;have hl:s < p.length:=by rw [h.1];exact hs
  rw [List.drop_eq_getElem_cons hl]
  have:fl p s=p[s]:=by
   unfold fl;rw [zA7,zA0 hl];rfl
  rw [this];exact .head _
 have MC:∀ s,s+1 < 3->mnL (p.drop s)<=mnL (p.drop (s+1)):=fun s hs=>by
  refine qK _ ?_
  have e8:p.drop (s+1)≠[]:=fun z=>by
   have:=congrArg List.length z;rw [List.length_drop,h.1] at this;simp at this;lia
  have:=jZ e8;have hl:s < p.length:=by rw [h.1];lia
  rw [List.drop_eq_getElem_cons hl];exact .tail _ this
 have mo:Mono (fun s=>(mnL (p.drop s)).toNat) 3:=fun s hs=>by
  have:=MC s hs;show (mnL (p.drop s)).toNat<=(mnL (p.drop (s+1))).toNat;lia
 have a:=um B (Y+1) 3 (zA3 _) mo;rw [vA,Ab] at a;refine Int.le_trans ?_ a;have i0:=sE h (s:=0) (by decide);have i1:=sE h (s:=1) (by decide);have i2:=sE h (s:=2) (by decide);have m0:=vy h (s:=0) (by decide);have m1:=vy h (s:=1) (by decide);have m2:=vy h (s:=2) (by decide)
 have an:∀ s,s < 3->seg (cF ps ss s) (fl p s).toNat (Y+1)<=seg (cF ps ss s) (mnL (p.drop s)).toNat (Y+1):=fun s hs=>by
  have:=hm s hs;exact (sU (GK B s) (by lia) (Y+1)).2
 have a0:=an 0 (by decide);have a1:=an 1 (by decide);have a2:=an 2 (by decide);show (tb (mV ps ss Y 3) 0 (fl p 0)+(tb (mV ps ss Y 3) 1 (fl p 1)+(tb (mV ps ss Y 3) 2 (fl p 2)+0))) - (tb (mW cs Y 3) 0 (mnL (p.drop 0))+(tb (mW cs Y 3) 1 (mnL (p.drop 1))+(tb (mW cs Y 3) 2 (mnL (p.drop 2))+0)))<=_;rw [zZ (by decide) i0.2,zZ (by decide) i1.2,zZ (by decide) i2.2,Aa (by decide) m0.2,Aa (by decide) m1.2,Aa (by decide) m2.2];unfold cS wS;dsimp only;lia
theorem sV {l:List Int}{s s':Nat}{v:Int}(h:s'≠s):(l.set s v).getD s' 0=l.getD s' 0:=by
 rw [zA7,zA7,List.getElem?_set_ne (Ne.symm h)]
def mX (cs:List (List Int))(y s:Nat)(k:Int):List (List Int):=cs.set y ((cs.getD y []).set s (fl (cs.getD y []) s+k))
theorem dJ (cs:List (List Int))(y s:Nat)(k:Int):(mX cs y s k).length=cs.length:=List.length_set
theorem Ac {cs:List (List Int)}{y s:Nat}{k:Int}(hy:y < cs.length)(hs:s < (cs.getD y []).length)(s' j:Nat):wF (mX cs y s k) s' j=wF cs s' j+(if j=y then (if s'=s then k else 0) else 0):=by
 unfold wF mX;by_cases h:j=y
 ·subst h;rw [zAx rfl]
  have e1:(cs.set j ((cs.getD j []).set s (fl (cs.getD j []) s+k))).getD j []=(cs.getD j []).set s (fl (cs.getD j []) s+k):=by
   rw [zA7,List.getElem?_set_self hy];rfl
  rw [e1];by_cases h2:s'=s
  ·subst h2;rw [zAx rfl]
   have:fl ((cs.getD j []).set s' (fl (cs.getD j []) s'+k)) s'=fl (cs.getD j []) s'+k:=by
    show List.getD _ _ _=_;rw [zA7,List.getElem?_set_self hs];rfl
   exact this
  ·rw [zAu h2,Int.add_zero];exact sV h2
 ·rw [zAu h,Int.add_zero,zA7,List.getElem?_set_ne (Ne.symm h),zA7]
theorem kE {cs:List (List Int)}{y s Y:Nat}{k:Int}{t:Nat->Nat}(hy:y < cs.length)(hY:y<=Y)(Rn:s < 3)(hs:s < (cs.getD y []).length):wS (mX cs y s k) Y t=wS cs Y t+(if t s<=y then k else 0):=by
 have e:∀ s',seg (wF (mX cs y s k) s') (t s') (Y+1)=seg (wF cs s') (t s') (Y+1)+(if t s'<=y/\y < Y+1 then (if s'=s then k else 0) else 0):=fun s'=>vI (fun j=>Ac hy hs s' j) (Y+1);unfold wS;rw [e,e,e];have MD:y < Y+1:=by lia
 have h3:s=0\/s=1\/s=2:=by lia
 have hand:∀ q:Prop,∀ [Decidable q],(if q/\y < Y+1 then (0:Int) else 0)=0:=fun q _=>by split <;> rfl
 have kD:∀ q:Prop,∀ [Decidable q],(if q/\y < Y+1 then k else 0)=(if q then k else 0):=fun q _=>by
  by_cases hq:q
  ·rw [zAx ⟨hq,MD⟩,zAx hq]
  ·rw [zAu (fun z=>hq z.1),zAu hq]
 rcases h3 with rfl | rfl | rfl
 ·rw [zAx rfl,zAu (show ¬ (1=0) by decide),zAu (show ¬ (2=0) by decide),hand,hand,kD];lia
 ·rw [zAu (show ¬ (0=1) by decide),zAx rfl,zAu (show ¬ (2=1) by decide),hand,hand,kD];lia
 ·rw [zAu (show ¬ (0=2) by decide),zAu (show ¬ (1=2) by decide),zAx rfl,hand,hand,kD];lia
theorem Ci {cs:List (List Int)}{so pa:Int}{y Y:Nat}{t:Nat->Nat}(okc:∀ r∈cs,okC r)(hl:okL so pa):wS (mU so pa y cs) Y t<=wS cs Y t:=by
 have e:∀ s j,wF (mU so pa y cs) s j<=wF cs s j:=fun s j=>by
  unfold wF mU;by_cases hj:j < cs.length
  ·by_cases h:j < y
   ·rw [zA7,zB5 (by rw [zAd];lia),List.getElem?_take_of_lt h,<- zA7];exact Int.le_refl _
   ·rw [zA7,zB7 (by rw [zAd];lia),zAb,List.getElem?_drop,zAd,show y+(j - min y cs.length)=j by lia,zA0 hj];have e2:cs.getD j []=cs[j]:=getD_get hj;rw [e2];have ok:=okc _ (zAh hj);generalize cs[j]=c at ok;show fl (fO so pa c) s<=fl c s;unfold fO fl;by_cases hs:s < c.length
    ·rw [zA7,zAb,List.getElem?_range hs];show jH so pa c s<=_;have hb:=ok.2 (c.getD s 0) (by rw [zA7,zA0 hs];exact zAh hs);obtain ⟨_,p0,p1⟩:=hl;unfold jH;split
     ·have a1:c.getD s 0 * (100 - pa)<=c.getD s 0 * 100:=Int.mul_le_mul_of_nonneg_left (by lia) hb.1;lia
     ·exact Int.le_refl _
    ·rw [zA7,zA7,List.getElem?_eq_none (by rw [zA1,List.length_range];lia),List.getElem?_eq_none (by lia)];exact Int.le_refl _
  ·rw [zA7,zA7,List.getElem?_eq_none (by rw [zA2,zA1,zAd,List.length_drop];lia),List.getElem?_eq_none (by lia)];exact Int.le_refl _
 unfold wS;have e0:=jg (a:=t 0) (e 0) (Y+1);have e1:=jg (a:=t 1) (e 1) (Y+1);have e2:=jg (a:=t 2) (e 2) (Y+1);lia
theorem kI {cs:List (List Int)}{y s:Nat}{k:Int}(okc:∀ r∈cs,okC r)(hy:y < cs.length)(hs:s < 3)(h0:0<=fl (cs.getD y []) s+k)(h1:fl (cs.getD y []) s+k < 1000):∀ r∈mX cs y s k,okC r:=fun r hr=>by
 rcases List.mem_or_eq_of_mem_set hr with z | z
 ·exact okc r z
 ·rw [z];have ok:okC (cs.getD y []):=by rw [getD_get hy];exact okc _ (zAh hy)
  refine ⟨by rw [List.length_set];exact ok.1,fun x hx=>?_⟩;rcases List.mem_or_eq_of_mem_set hx with z | z
  ·exact ok.2 x z
  ·rw [z];exact ⟨h0,h1⟩
inductive SpWithI (vs:List V)(H:Hp)(Q:VK):Prop
 | mk:∀ ac xc cs y so k,(vs=[.ref ac,.int y,.int so,.int k])->(RowsAt H ac xc cs)->((∀ r∈cs,r.length=3))->(cs.length<=20)->(0<=y)->(y < cs.length)->(0<=so)->(so < 3)->(∀ a' oe H',Same H H'->RowsAt H' a' oe (mX cs y.toNat so.toNat k)->Q (.ref a') H')->SpWithI  vs H Q
def Ad:Sp:=fun vs H Q _=>SpWithI  vs H Q
theorem Ip:(["_law_clip"]:List Str).Nodup:=by decide +kernel
theorem Ir:(["_law_row"]:List Str).Nodup:=by decide +kernel
theorem scW1:FnScope ["_law_clips_here","_law_year","_law_sort","_law_sacks","_law_rows_here"] ["_law_clips_here","_law_year","_law_sort","_law_sacks"] (aK (top 81)):=fS
theorem Cj (F:Fun K "_law_with" "_law_with" (top 81) f fd)(T:Mg mg)(Tl:mg "list" = none):FnOk P w K mg base CX0 1 f fd ["_law_clips_here","_law_year","_law_sort","_law_sacks"] Ad:=by
 refine F.ok scW1 (fun vs H Q E h=>?_) (fun av A outer s H vs Q E hr h=>?_)
 ·obtain ⟨ac,xc,cs,y,so,k,rfl,_⟩:=h;rfl
 ·obtain ⟨ac,xc,cs,y,so,k,rfl,rc,okc,lc,y0,y1,ME,EE,q⟩:=h
  refine K92P.ok_b (aP ⟨fU (i:=4) ["_law_clip"] [none] rfl scW1.nd rfl (Or.inl rfl) (dM (pv 0)) (fun C fp pins s₂ H₂=>⟨pgn 0 Ip,bh,bO (nP (K:=K) rfl) rfl Tl jF (aq (pv 0) aa)⟩) (fun C=>trivial) ⟨rfl,rfl,rfl,rfl⟩⟩
   (aP ⟨cj (aV bC (pX bL (pX bL (pv 4) (pv 1)) (pv 2)) (pv 3)) (ie (pX bL (pv 4) (pv 1)) (pv 2) set_list)⟩
   (cG ⟨aR (bO bH rfl T.tuple boot_tuple (aq (bA ["_law_row"] [none] rfl (dG (pv 4)) (fun C fp pins s₂ H₂=>⟨pgn 0 Ir,bh,bO (K92P.call_tuple_ofK (K:=K) rfl) rfl T.tuple boot_tuple (aq (pv 0) aa)⟩) (fun C=>trivial) ⟨rfl,rfl,rfl,rfl⟩) aa))⟩))) ?_
  obtain ⟨n,rfl⟩:∃ n:Nat,y=n:=⟨y.toNat,by lia⟩
  obtain ⟨m,rfl⟩:∃ m:Nat,so=m:=⟨so.toNat,by lia⟩
  rw [zAi,zAi] at q;have EW:=rc.l;have hn:n < cs.length:=by lia
  refine f9 fun c_ gc=>?_;refine ⟨_,rfl,ac,rfl,⟨_,SqT.of rc.e⟩,bu cs.length (fun i ys σ Hc=>Same H Hc/\(∃ o1,σ=[o1])/\∃ as:List Addr,ys=as.map V.ref/\LsAt H Hc as (cs.take i)) ⟨Same.refl H,⟨_,rfl⟩,[],rfl,LsAt.nil⟩ (by rw [sizeLine_eq];lia) ?_ ?_⟩
  ·rintro i ys σ Hc hi hy ⟨s1,⟨o1,rfl⟩,as,rfl,hA⟩;obtain ⟨t,ex,et⟩:=rc.g i cs[i] (zA0 hi);have dA:cs.take (i+1)=cs.take i++[cs[i]]:=by rw [zAj,zA0 hi];rfl
   rw [dA];generalize cs[i]=r at et ⊢;refine ⟨⟨_,_,SqT.of (s1 _ _ rc.e),ex⟩,fun v H' y' R' mv=>?_⟩;obtain ⟨rfl,y'⟩:=y';have hv:=y' _ (SqT.of (s1 _ _ rc.e));rw [ex] at hv;cases hv;refine aM ?_;refine ⟨_,rfl,t,_,rfl,.inr (SqT.of (s1 _ _ et)),fun l AH=>mv _ _ _ ⟨s1.updR AH,⟨_,rfl⟩,as++[l],by rw [zA4];rfl,(hA.same (Same.upd AH)).snoc (fun b hb z=>?_) (s1.free AH) aj⟩⟩;obtain ⟨j,hj⟩:=List.getElem?_of_mem hb;have:=hA.g j b hj;rw [z,AH] at this;cases this
  ·rintro ys σ Hc hy ⟨s1,_,as,rfl,hA⟩;rw [zAm] at hA;refine ⟨⟨_,SqT.of (s1 _ _ rc.e),by lia⟩,fun D hD=>?_⟩;have s2:=s1.updR (o:=.lst (as.map V.ref)) hD;have BI:=hA.same (Same.upd (o:=.lst (as.map V.ref)) hD);have eD:upd Hc D (.lst (as.map V.ref)) D=some (.lst (as.map V.ref)):=aj
   have nD:∀ b∈as,b≠D:=fun b hb z=>by
    obtain ⟨j,hj⟩:=List.getElem?_of_mem hb;have:=hA.g j b hj;rw [z,hD] at this;cases this
   generalize upd Hc D (.lst (as.map V.ref))=H2 at s2 BI eD ⊢;have lA:=hA.l;clear hA hD s1;refine gc _ _ ?_;clear gc c_
   try dsimp only
   have AI:n < as.length:=by lia
   have eb:=BI.g n _ (zA0 AI);have AJ:atI (as.map V.ref) (n:Int)=some (.ref as[n]):=bQ (by rw [zAb,zA0 AI];rfl);have l3:(cs.getD n []).length=3:=by rw [getD_get hn];exact okc _ (zAh hn)
   have f7:atI ((cs.getD n []).map V.int) (m:Int)=some (.int (fl (cs.getD n []) m)):=bQ (dz (by lia));refine aF ?_;refine ⟨_,rfl,_,rfl,D,_,_,_,rfl,rfl,SqL.of eD,AJ,_,rfl,as[n],_,_,_,rfl,rfl,SqL.of eb,f7,_,rfl,_,_,rfl,rfl,_,rfl,_,rfl,D,_,_,_,rfl,rfl,SqL.of eD,AJ,_,rfl,as[n],_,_,m,rfl,rfl,eb,rP (by lia) (by rw [zA1];lia),?_⟩;rw [jV];have put:=BI.put (zA0 AI) ((cs.getD n []).set m (fl (cs.getD n []) m+k));have nan:as[n]≠D:=nD _ (zAh AI)
   have s3:Same H (upd H2 as[n] (.lst (((cs.getD n []).set m (fl (cs.getD n []) m+k)).map V.int))):=fun b o e=>by
    rw [aA (aC e (BI.fr _ (zAh AI)))];exact s2 _ _ e
   have e1:upd H2 as[n] (.lst (((cs.getD n []).set m (fl (cs.getD n []) m+k)).map V.int)) D=some (.lst (as.map V.ref)):=by rw [aA nan.symm];exact eD
   generalize upd H2 as[n] (.lst (((cs.getD n []).set m (fl (cs.getD n []) m+k)).map V.int))=H3 at put s3 e1 ⊢;dsimp only;refine fX ?_;have hA:LsAt H H3 as (mX cs n m k):=put;have lR:(mX cs n m k).length=cs.length:=dJ _ _ _ _;generalize mX cs n m k=R at hA q lR;refine ⟨_,rfl,D,rfl,⟨_,SqL.of e1⟩,bu R.length (fun i ys σ Hd=>Same H3 Hd/\(∃ o1,σ=[o1])/\Els Hd ys (R.take i)) ⟨Same.refl H3,⟨_,rfl⟩,Els.nil⟩ (by rw [sizeLine_eq];lia) ?_ ?_⟩
   ·rintro i ys σ Hd hi hy ⟨s4,⟨o1,rfl⟩,els⟩;have J9:i < as.length:=by lia
    have ex:(as.map V.ref)[i]?=some (.ref as[i]):=by rw [zAb,zA0 J9];rfl
    have eb:=s4 _ _ (hA.g i _ (zA0 J9));have dA:R.take (i+1)=R.take i++[R.getD i []]:=by rw [zAj,zA0 hi,zA7,zA0 hi];rfl
    rw [dA];refine ⟨⟨_,_,SqL.of (s4 _ _ e1),ex⟩,fun v H' y' R' mv=>?_⟩;obtain ⟨rfl,y'⟩:=y';have hv:=y' _ (SqL.of (s4 _ _ e1));rw [ex] at hv;cases hv;refine aM ?_;exact ⟨_,rfl,as[i],_,rfl,.inl ⟨SqL.of eb,fun t ht=>mv _ _ _ ⟨s4.updR ht,⟨_,rfl⟩,(els.same (Same.upd ht)).app (Els.one aj)⟩⟩⟩
   ·rintro ys σ Hd hy ⟨s4,_,els⟩;rw [zAm] at els;refine ⟨⟨_,SqL.of (s4 _ _ e1),by rw [zA1];lia⟩,fun D3 MF=>⟨D3,_,rfl,.inl ⟨SqL.of aj,fun t ht=>?_⟩⟩⟩;have s5:=(Same.upd (o:=.lst ys) MF).updR (o:=.tup ys) ht;have eI:=els.same s5;exact q t ys _ ((s3.trans s4).trans s5) ⟨aj,eI.1,eI.2⟩
structure TriAt (H:Hp)(ac:Addr)(xc:List V)(cs:List (List Int))(ap:Addr)(xp:List V)(ps:List (List Int))(ah:Addr)(xs:List V)(ss:List (List Int)):Prop where
 rc:RowsAt H ac xc cs
 okc:∀ r∈cs,okC r
 lc1:1<=cs.length
 lc:cs.length<=20
 rp:RowsAt H ap xp ps
 lp:ps.length<=10
 okp:∀ r∈ps,okP r
 rs:RowsAt H ah xs ss
 ls:ss.length<=12
 h5:∀ s∈ss,s.length=5
 un:un ps ss=none
section
variable {H H':Hp}{ac:Addr}{xc:List V}{cs:List (List Int)}{ap:Addr}{xp:List V}{ps:List (List Int)}{ah:Addr}{xs:List V}{ss:List (List Int)}
theorem TriAt.keep (h:TriAt H ac xc cs ap xp ps ah xs ss)(k:∀ b l,H b=some (.tup l)->H' b=some (.tup l)):TriAt H' ac xc cs ap xp ps ah xs ss:=⟨h.rc.keep k,h.okc,h.lc1,h.lc,h.rp.keep k,h.lp,h.okp,h.rs.keep k,h.ls,h.h5,h.un⟩
theorem TriAt.same (h:TriAt H ac xc cs ap xp ps ah xs ss)(s:Same H H'):TriAt H' ac xc cs ap xp ps ah xs ss:=h.keep fun _ _ e=>s _ _ e
theorem TriAt.with {Ka:Addr}{oe:List V}{oq:List (List Int)}(h:TriAt H ac xc cs ap xp ps ah xs ss)(r:RowsAt H Ka oe oq)(o:∀ r∈oq,okC r)(l:oq.length=cs.length):TriAt H Ka oe oq ap xp ps ah xs ss:=⟨r,o,by rw [l];exact h.lc1,by rw [l];exact h.lc,h.rp,h.lp,h.okp,h.rs,h.ls,h.h5,h.un⟩
theorem TriAt.bko (h:TriAt H ac xc cs ap xp ps ah xs ss):BkO cs ps ss:=⟨fun r hr=>⟨(h.okc r hr).1,fun x hx=>((h.okc r hr).2 x hx).1⟩,h.lp,h.un,h.h5,h.okp⟩
theorem TriAt.book {b:Addr}(h:TriAt H ac xc cs ap xp ps ah xs ss)(hb:H b=none):BookAt (upd H b (.tup [.ref ac,.ref ap,.ref ah])) b ac xc cs ap xp ps ah xs ss/\IsTh (fun _=>False) (upd H b (.tup [.ref ac,.ref ap,.ref ah])) (.ref b) (.tuple [bM cs,bM ps,bM ss])/\sz (.tuple [bM cs,bM ps,bM ss])<=4000/\gZ (.tuple [bM cs,bM ps,bM ss])=true:=by
 have h':=h.same (Same.upd (o:=.tup [.ref ac,.ref ap,.ref ah]) hb);refine ⟨⟨aj,h'.rc,h.bko.okc,h.lc,h'.rp,h.lp,h.okp,h'.rs,h.ls,h.h5,h.un⟩,.tup aj (.cons h'.rc.th (.cons h'.rp.th (.cons h'.rs.th .nil))),?_,vm h.lc1 h.lc h.okc h.lp h.okp h.ls h.h5 h.un⟩;show 1+((1+szs (cs.map rowD))+((1+szs (ps.map rowD))+((1+szs (ss.map rowD))+0)))<=4000;rw [gG (k:=3) fun r hr=>(h.okc r hr).1,gG (k:=6) fun r hr=>(h.okp r hr).1,gG (k:=5) h.h5];have:=h.lc;have:=h.lp;have:=h.ls;lia
end
theorem uo {c:List Int}(ok:okC c){m:Nat}(hm:m < 3):0<=fl c m/\fl c m < 1000:=by
 have hl:m < c.length:=by rw [ok.1];exact hm
 refine ok.2 _ ?_;unfold fl;rw [zA7,zA0 hl];exact zAh hl
inductive SpLawI (K:PySem.W.Frag)(vs:List V)(H:Hp)(Q:VK):Prop
 | mk:∀ (a:Addr) (ns:List Int),(vs=[.ref a])->(SqL K H a (ns.map V.int))->(ns.length<=63)->(∀ H',Q (.bl true) H')->SpLawI K vs H Q
def vJ (K:PySem.W.Frag):Sp:=fun vs H Q _=>SpLawI K vs H Q
theorem xG:bootBuiltins "max" = some (.builtin "max"):=by decide +kernel
theorem Iu:(["_law_one","_law_state_here","_law_last"]:List Str).Nodup:=by decide +kernel
theorem scLL:FnScope ["_law_script","_law_k","_law_state_here","_law_clips_here","_law_promises","_law_sales","_law_last","_law_lack","_law_turn","_law_year","_law_sort","_law_have","_law_more","_law_richer","_law_fewer","_law_some","_law_poor","_law_later","_law_better","_law_paper"] ["_law_script"] (aK (top 82)):=fS
theorem Ex (F:Fun K "law" "law" (top 82) f fd)(T:Mg mg)(Tr:mg "range" = none)(Tm:mg "max" = none)(Tn:mg "min" = none)
  (c0:Cal P w K mg base 1 "_law_choice" ["_law_state_here","_law_many"] K92P.spChoice) (c1:Cal P w K mg base 2 "_law_state" ["_law_script","_law_k"] (K92P.spState K)) (c2:Cal P w K mg base 3 "_law_book" ["_law_state_here","_law_years","_law_most"] K92Q.spBook) (c3:Cal P w K mg base 12 "lack_by" ["book","year"] (yX CT)) (c4:Cal P w K mg base 1 "_law_with" ["_law_clips_here","_law_year","_law_sort","_law_sacks"] Ad) (c5:Cal P w K mg base 6 "lessened" ["clips","year","sort","part"] jY) (c6:Cal P w K mg base 9 "shown_by" ["book","year","paper"] zN):FnOk P w K mg base CX0 63 f fd ["_law_script"] (vJ K):=by
 refine F.ok scLL (fun vs H Q E h=>?_) (fun av A outer s H vs Q E hr h=>?_)
 ·obtain ⟨a,ns,rfl,_⟩:=h;rfl
 ·obtain ⟨a,ns,rfl,hS,hl,q⟩:=h
  refine K92P.ok_b (aP ⟨cV zB8 rfl (bN rfl Tr (aq (aQ (gJ rfl) rfl Tm xG (aq az (aq (aQ (dX rfl) rfl Tn jy (aq (aQ bT rfl T.len PySem.boot_len (aq (pv 0) aa)) (aq az aa))) aa))) aa)) (pgn 1 scLL.nd)
   (jE (aP (lU (i:=2) scLL.nd rfl (Or.inr rfl) ⟨aD c1 hr (aq (pv 0) (aq (pv 1) aa))⟩)
   (aP ⟨cj (aD c2 hr (aq (pv 2) (aq az (aq az aa)))) (bU rfl (au (pgn 3 scLL.nd) (au (pgn 4 scLL.nd) (au (pgn 5 scLL.nd) aY))))⟩
   (aP (lU (i:=6) scLL.nd rfl (Or.inr rfl) ⟨aV cJ (aQ bT rfl T.len PySem.boot_len (aq (pv 3) aa)) az⟩)
   (aP (gU 7 scLL.nd ⟨aD c3 hr (aq (bJ (aq (pv 3) (aq (pv 4) (aq (pv 5) aa)))) (aq (pv 6) aa))⟩)
   (cG ⟨cV zB8 rfl (bN rfl Tr (aq az aa)) (pgn 8 scLL.nd)
    (jE (aP ⟨sY (i:=9) (j:=10) rfl scLL.nd rfl rfl (by decide) rfl rfl (aq (aD c0 hr (aq (pv 2) (aq (aQ bT rfl T.len PySem.boot_len (aq (pv 3) aa)) aa))) (aq (aD c0 hr (aq (pv 2) (aq az aa))) aa)) rfl⟩
    (aP (gU 11 scLL.nd ⟨pX cM (pX cM (pv 3) (pv 9)) (pv 10)⟩)
    (aP (gU 12 scLL.nd ⟨aD c0 hr (aq (pv 2) (aq (aQ (dX rfl) rfl Tn jy (aq az (aq (aV cJ az (pv 11)) aa))) aa))⟩)
    (aP (gU 13 scLL.nd ⟨aD c4 hr (aq (pv 3) (aq (pv 9) (aq (pv 10) (aq (pv 12) aa))))⟩)
    (aP (gU 14 scLL.nd ⟨aD c5 hr (aq (pv 3) (aq (pv 9) (aq (pv 10) (aq (aD c0 hr (aq (pv 2) (aq az aa))) aa))))⟩)
    (aP ⟨bW (PW.pt (qO (bw gW (aD c3 hr (aq (bJ (aq (pv 13) (aq (pv 4) (aq (pv 5) aa)))) (aq (pv 6) aa))) (pv 7) (bF _)) (sW (bw gh (aD c3 hr (aq (bJ (aq (pv 14) (aq (pv 4) (aq (pv 5) aa)))) (aq (pv 6) aa))) (pv 7) (bF _))))) (aG (aR iB)) bf⟩
    (aP (gU 15 scLL.nd ⟨aD c0 hr (aq (pv 2) (aq (aV bC (pv 11) az) aa))⟩)
    (aP ⟨sY (i:=16) (j:=17) rfl scLL.nd rfl rfl (by decide) rfl rfl (aq (aD c4 hr (aq (pv 3) (aq (pv 9) (aq (pv 10) (aq (aV cJ az (pv 15)) aa))))) (aq (aV bC (pv 9) (aD c0 hr (aq (pv 2) (aq (aV bC (aV cJ (pv 6) (pv 9)) az) aa)))) aa)) rfl⟩
    (aP ⟨bW (PW.pt (sX (bw gW (pv 10) az (bF _)) (pL (bw gh (aV bC (pX cM (pX cM (pv 16) (pv 9)) (aV cJ (pv 10) az)) (pv 15)) az (bF _)))))
     (jE (aP (gU 18 scLL.nd ⟨aD c4 hr (aq (pv 16) (aq (pv 9) (aq (aV cJ (pv 10) az) (aq (pv 15) aa))))⟩)
      (cG ⟨bW (bw gW (aD c3 hr (aq (bJ (aq (pv 18) (aq (pv 4) (aq (pv 5) aa)))) (aq (pv 6) aa))) (pv 7) (bF _)) (aG (aR iB)) bf⟩))) bf⟩
    (aP ⟨bW (bw gh (aV bC (pX cM (pX cM (pv 16) (pv 17)) (pv 10)) (pv 15)) az (bF _))
     (aG (bW (bw gW (aD c3 hr (aq (bJ (aq (aD c4 hr (aq (pv 16) (aq (pv 17) (aq (pv 10) (aq (pv 15) aa))))) (aq (pv 4) (aq (pv 5) aa)))) (aq (pv 6) aa))) (pv 7) (bF _)) (aG (aR iB)) bf)) bf⟩
    (aP (gU 19 scLL.nd ⟨bO bH rfl T.tuple boot_tuple (aq (bA ["_law_one","_law_state_here","_law_last"] [none,some 2,some 6] rfl (bN rfl Tr (aq az aa)) (fun C fp pins s₂ H₂=>⟨pgn 0 Iu,bh,aD c0 hr (aq (pv 1) (aq (aV bC (pv 2) az) aa))⟩) (fun C=>cI (cI trivial)) ⟨rfl,rfl,rfl,rfl⟩) aa)⟩)
    (cG ⟨bW (bw gW (aD c6 hr (aq (bJ (aq (pv 3) (aq (pv 4) (aq (pv 5) aa)))) (aq (pv 6) (aq (pv 19) aa)))) (pv 7) (bF _)) (aG (aR iB)) bf⟩)))))))))))))⟩))))))⟩
   (cG (tQ FT))) ?_
  refine aF ?_;have AH:(ns.map V.int).length<=63:=by rw [zA1];exact hl
  refine ⟨_,rfl,a,_,rfl,.inl hS,_,_,rfl,_,_,rfl,_,rfl,?_,?_,?_⟩
  ·split <;> split <;> lia
  ·split <;> split <;> lia
  refine dW (lo:=0) (fun i σ Hc=>∃ x1 x2 x3 x4 x5 x6 x7 x8 x9 df cx cy cE cK de eJ sj kF mw,σ=[some (.ref a),x1,x2,x3,x4,x5,x6,x7,x8,x9,df,cx,cy,cE,cK,de,eJ,sj,kF,mw]/\Same H Hc) ?_ ?_ ?_
  ·exact ⟨none,none,none,none,none,none,none,none,none,none,none,none,none,none,none,none,none,none,none,rfl,Same.refl H⟩
  ·rintro i σ H1 hi ⟨x1,x2,x3,x4,x5,x6,x7,x8,x9,df,cx,cy,cE,cK,de,eJ,sj,kF,mw,rfl,s1⟩;refine aM ?_;refine wY fun De zw=>?_;refine aF (aX ?_);refine ⟨_,rfl,_,rfl,a,ns,_,rfl,s1.seq hS,by lia,fun st x y z hn DV MG rb=>?_⟩;have Kb:H st=none:=s1.free hn
   have g1:K92P.StAt (upd H1 st (.lst [.int x,.int y,.int z])) st:=⟨x,y,z,aj,DV,MG,rb⟩
   have s2:Same H (upd H1 st (.lst [.int x,.int y,.int z])):=s1.updR hn;generalize upd H1 st (.lst [.int x,.int y,.int z])=H2 at g1 s2 ⊢;refine aM ?_;dsimp only;refine aF ?_;refine ⟨_,rfl,st,12,10,rfl,g1,by decide,by decide,by decide,by decide,fun bk ac xc cs ap xp ps ah xs ss H3 d3 eb rc lc1 JT okc rp lp okp rs ls ff AD=>?_⟩;have s3:Same H H3:=fun b o e=>d3.bt b o (s2 _ _ e) (aC e Kb);have h5:∀ s∈ss,s.length=5:=fun s hs=>(ff s hs).1
   have T3:TriAt H3 ac xc cs ap xp ps ah xs ss:=⟨rc,okc,lc1,by lia,rp,by lia,okp,rs,by lia,h5,AD⟩
   have EW:=rc.l;refine ⟨bk,_,rfl,SqT.of eb,rfl,_,_,rfl,_,_,rfl,_,_,rfl,rfl,?_⟩;dsimp only;refine aF (aX ?_);refine ⟨_,rfl,ac,_,rfl,.inr (SqT.of rc.e),_,_,rfl,rfl,?_⟩;refine aM ?_;dsimp only
   obtain ⟨Y,hY⟩:∃ Y:Nat,(xc.length:Int) - 1=Y:=⟨xc.length - 1,by lia⟩
   have Ro:Y+1=cs.length:=by lia
   rw [hY];refine aF (aX ?_);refine ⟨_,rfl,_,rfl,_,rfl,zL,fun b1 eR=>?_⟩;obtain ⟨B1,bX,z1,k1⟩:=T3.book eR;refine ⟨_,rfl,(fun _=>False),b1,(Y:Int),_,ac,xc,cs,ap,xp,ps,ah,xs,ss,rfl,bX,z1,k1,B1,by lia,by lia,fun H4 s4=>?_⟩;have BM:=(Same.upd (o:=.tup [.ref ac,.ref ap,.ref ah]) eR).trans s4;have T4:=T3.same BM;have d4:=d3.same BM;have EA:=s3.trans BM;clear T3 d3 rc rp rs s3 s2 g1 eR B1 bX z1 k1 s4 BM eb;rw [zAi];have BK:=T4.bko;generalize hL:aN (dF cs ps ss (Y+1))=L;refine aM ?_;dsimp only;refine ⟨_,rfl,by decide,by decide,?_⟩;refine dW (lo:=0) (n:=4) (fun j σ Hc=>∃ x8 x9 df cx cy cE cK de eJ sj kF mw,σ=[some (.ref a),some (.int (0+(i:Int))),some (.ref st),some (.ref ac),some (.ref ap),some (.ref ah),some (.int Y),some (.int L),x8,x9,df,cx,cy,cE,cK,de,eJ,sj,kF,mw]/\K92P.Dr st H4 Hc) ?_ ?_ ?_
   ·exact ⟨_,_,_,_,_,_,_,_,_,_,_,_,rfl,K92P.Dr.refl d4.sa⟩
   ·rintro j σ Hc hj ⟨x8,x9,df,cx,cy,cE,cK,de,eJ,sj,kF,mw,rfl,dc⟩;refine aM ?_;refine wY fun L9 kX=>?_;have TC:=T4.keep (dc.tups d4.sa);refine aF ?_;refine ⟨_,rfl,_,rfl,ac,xc,rfl,.inr (SqT.of TC.rc.e),st,_,rfl,dc.sa,by lia,by lia,fun y a1 b1 iE y0 y1 k1 k2 k3=>⟨_,rfl,st,3,rfl,(dc.draw k1 k2 k3).sa,by decide,by decide,fun so a2 b2 AB ME EE k4 k5 k6=>⟨_,_,rfl,?_⟩⟩⟩;rw [EW] at y1
    obtain ⟨n,rfl⟩:∃ n:Nat,y=n:=⟨y.toNat,by lia⟩
    obtain ⟨m,rfl⟩:∃ m:Nat,so=m:=⟨so.toNat,by lia⟩
    have d5:=(dc.draw (c:=iE) k1 k2 k3).draw (c:=AB) k4 k5 k6;generalize upd (upd Hc st (.lst [.int a1,.int b1,.int iE])) st (.lst [.int a2,.int b2,.int AB])=H5 at d5 ⊢;clear dc TC;have T5:=T4.keep (d5.tups d4.sa);have hn:n < cs.length:=by lia
    have hm:m < 3:=by lia
    have E4:okC (cs.getD n []):=by rw [getD_get hn];exact okc _ (zAh hn)
    have MJ:=uo E4 hm;dsimp only;refine aF (aX ?_);obtain ⟨tn,Kc,E5⟩:=T5.rc.g n cs[n] (zA0 hn);rw [<- getD_get hn] at E5;refine ⟨_,rfl,_,rfl,ac,_,_,_,rfl,rfl,SqT.of T5.rc.e,bQ Kc,_,rfl,tn,_,_,_,rfl,rfl,SqT.of E5,bQ (dz (by rw [E4.1];exact hm)),?_⟩;have MK:fl (cs.getD n []) m=(cs.getD n []).getD m 0:=rfl;rw [<- MK];generalize BN:fl (cs.getD n []) m=hv at MJ;refine aM ?_;dsimp only;refine aF (aX ?_);refine ⟨_,rfl,_,rfl,_,_,rfl,rfl,_,_,rfl,st,_,rfl,d5.sa,?_,?_,fun mo a3 b3 Kd Rp Ke k1 k2 k3=>?_⟩
    ·split <;> lia
    ·split <;> lia
    have Rq:hv+mo < 1000:=by
     split at Ke <;> lia
    clear Ke;have d6:=d5.draw (c:=Kd) k1 k2 k3;generalize upd H5 st (.lst [.int a3,.int b3,.int Kd])=H6 at d6 ⊢;clear d5 T5 E5 Kc;have T6:=T4.keep (d6.tups d4.sa);have AK:∀ r∈cs,r.length=3:=fun r hr=>(okc r hr).1;have sv:=T4.lc;refine aM ?_;dsimp only;refine aF (aX ?_);refine ⟨_,rfl,_,rfl,_,rfl,_,rfl,ac,xc,cs,(n:Int),(m:Int),mo,rfl,T6.rc,AK,sv,by lia,by lia,by lia,by lia,fun ar xr H7 s7 rr=>?_⟩;rw [zAi,zAi] at rr;have d7:=d6.same s7;refine aM ?_;dsimp only;refine aF (aX ?_);refine ⟨_,rfl,_,rfl,_,rfl,_,rfl,st,101,rfl,d7.sa,by decide,by decide,fun pa a4 b4 E6 ML Rr k4 k5 k6=>?_⟩;have d8:=d7.draw (c:=E6) k4 k5 k6;have E7:=rr.keep (K92P.Dr.tups ((K92P.Dr.refl d7.sa).draw (c:=E6) k4 k5 k6) d7.sa);generalize upd H7 st (.lst [.int a4,.int b4,.int E6])=H8 at d8 E7 ⊢;clear d7 d6 T6 rr s7;have T8:=T4.keep (d8.tups d4.sa)
    have dE:okL (m:Int) pa:=⟨⟨by lia,by lia⟩,ML,by lia⟩
    refine ⟨ac,xc,cs,(n:Int),(m:Int),pa,rfl,T8.rc,okc,sv,by lia,by lia,dE,fun af xf H9 s9 rf=>?_⟩;rw [zAi] at rf;have T9:=T8.same s9;have Kf:=E7.same s9;have d9:=d8.same s9;clear d8 T8 E7 s9;have Kg:m < (cs.getD n []).length:=by rw [E4.1];exact hm
    have TR:=T9.with Kf (kI okc hn hm (by rw [BN];lia) (by rw [BN];lia)) (dJ ..)
    have TF:=T9.with rf (zq okc dE) pq
    have E8:n<=Y:=by lia
    have Kh:=km (Y:=Y) BK TR.bko fun t mt=>by
     rw [kE hn E8 hm Kg];split <;> lia
    have Ki:=km (Y:=Y) TF.bko BK fun t mt=>Ci okc dE;rw [hL] at Kh Ki;refine aM ?_;dsimp only;refine aF ?_;refine ⟨_,rfl,_,rfl,_,rfl,zL,fun b1 eR=>?_⟩;obtain ⟨B1,bX,z1,q1⟩:=TR.book eR;refine ⟨_,rfl,(fun _=>False),b1,(Y:Int),_,ar,xr,_,ap,xp,ps,ah,xs,ss,rfl,bX,z1,q1,B1,by lia,by rw [dJ];lia,fun Rt Kj=>⟨_,rfl,_,_,rfl,rfl,_,rfl,?_⟩⟩;rw [zAi,decide_eq_false (by lia)];refine bI ?_;have sx:=(Same.upd (o:=.tup [.ref ar,.ref ap,.ref ah]) eR).trans Kj;have AL:=TF.same sx;refine ⟨_,rfl,_,rfl,_,rfl,zL,fun b2 qr=>?_⟩;obtain ⟨B2,tw,z2,q2⟩:=AL.book qr;refine ⟨_,rfl,(fun _=>False),b2,(Y:Int),_,af,xf,_,ap,xp,ps,ah,xs,ss,rfl,tw,z2,q2,B2,by lia,by rw [pq];lia,fun MM Kk=>⟨_,rfl,_,_,rfl,rfl,_,rfl,?_⟩⟩;rw [zAi,decide_eq_false (by lia)];refine bI (dw ?_);have sA:=sx.trans ((Same.upd (o:=.tup [.ref af,.ref ap,.ref ah]) qr).trans Kk);have MN:=T9.same sA;have E9:=d9.same sA;clear d9 T9 Kf TR TF AL B1 bX z1 q1 B2 tw z2 q2 eR qr Kj Kk sx sA rf Kh Ki;dsimp only;refine aF (aX ?_);refine ⟨_,rfl,_,rfl,_,_,rfl,rfl,st,_,rfl,E9.sa,by lia,by lia,fun sm a5 b5 Kl Ru Rv k1 k2 k3=>?_⟩;have BO:=E9.draw (c:=Kl) k1 k2 k3;generalize upd MM st (.lst [.int a5,.int b5,.int Kl])=Rw at BO ⊢;clear E9 MN;have Km:=T4.keep (BO.tups d4.sa);refine aM ?_;dsimp only;refine aF ?_;refine ⟨_,rfl,_,rfl,_,rfl,_,rfl,_,_,rfl,rfl,ac,xc,cs,(n:Int),(m:Int),_,rfl,Km.rc,AK,sv,by lia,by lia,by lia,by lia,fun ao xo MO AG ro=>?_⟩;rw [zAi,zAi] at ro;have AM:=BO.same AG;refine ⟨_,rfl,_,rfl,_,rfl,_,rfl,_,_,rfl,rfl,_,_,rfl,rfl,st,_,rfl,AM.sa,by lia,by lia,fun la a6 b6 Fc ER ES k4 k5 k6=>⟨_,_,rfl,rfl,_,_,rfl,?_⟩⟩
    obtain ⟨u,hu⟩:∃ u:Nat,(n:Int)+la=u:=⟨(n+la).toNat,by lia⟩
    dsimp only;rw [hu];have MP:n<=u:=by lia
    have MQ:u<=Y:=by lia
    have Fh:=AM.draw (c:=Fc) k4 k5 k6;have mx:=ro.keep (K92P.Dr.tups ((K92P.Dr.refl AM.sa).draw (c:=Fc) k4 k5 k6) AM.sa);generalize upd MO st (.lst [.int a6,.int b6,.int Fc])=Fm at Fh mx ⊢;clear AM BO Km ro AG hu ER ES;have Kn:=T4.keep (Fh.tups d4.sa);generalize Fn:mX cs n m (0 - sm)=PO at mx;have MR:PO.length=cs.length:=by rw [<- Fn];exact dJ ..
    have okO:∀ r∈PO,okC r:=by rw [<- Fn];exact kI okc hn hm (by rw [BN];lia) (by rw [BN];lia)
    have kG:∀ r∈PO,r.length=3:=fun r hr=>(okO r hr).1
    have wO:∀ t,wS PO Y t=wS cs Y t+(if t m<=n then 0 - sm else 0):=fun t=>by rw [<- Fn];exact kE hn E8 hm Kg
    have TO:=Kn.with mx okO MR
    try dsimp only
    have AN:∀ (q:Nat) (s':Nat),q < PO.length->s' < 3->∃ tq,xo[q]?=some (V.ref tq)/\Fm tq=some (.tup ((PO.getD q []).map V.int))/\((PO.getD q []).map V.int)[s']?=some (.int (fl (PO.getD q []) s')):=fun q s' hq cb=>by
     obtain ⟨tq,e1,e2⟩:=mx.g q PO[q] (zA0 hq);rw [<- getD_get hq] at e2;have l3:(PO.getD q []).length=3:=by rw [getD_get hq];exact kG _ (zAh hq)
     exact ⟨tq,e1,e2,dz (by lia)⟩
    refine f9 fun cc AW=>?_
    have key:∀ kF H15,Same Fm H15->cc [some (.ref a),some (.int (0+(i:Int))),some (.ref st),some (.ref ac),some (.ref ap),some (.ref ah),some (.int Y),some (.int L),some (.int (0+(j:Int))),some (.int n),some (.int m),some (.int hv),some (.int mo),some (.ref ar),some (.ref af),some (.int sm),some (.ref ao),some (.int u),kF,mw] H15:=fun kF H15 BQ=>by
     refine AW _ _ ?_;refine f9 fun MT Fs=>?_
     have AO:∀ H16,Same Fm H16->MT [some (.ref a),some (.int (0+(i:Int))),some (.ref st),some (.ref ac),some (.ref ap),some (.ref ah),some (.int Y),some (.int L),some (.int (0+(j:Int))),some (.int n),some (.int m),some (.int hv),some (.int mo),some (.ref ar),some (.ref af),some (.int sm),some (.ref ao),some (.int u),kF,mw] H16:=fun H16 ot=>by
      refine Fs _ _ ?_;have Ko:=Fh.same ot;have Rx:=Kn.same ot;refine aF (aX ?_);refine ⟨3,rfl,by decide,by decide,bu 3 (fun i ys σ Hd=>K92P.Dr st H16 Hd/\(∃ o1,σ=[o1,some (.ref st),some (.int Y)])/\∃ p:List Int,ys=p.map V.int/\p.length=i/\∀ x∈p,0<=x/\x<=(Y:Int)+1) ⟨K92P.Dr.refl Ko.sa,⟨_,rfl⟩,[],rfl,rfl,fun _ h=>(List.not_mem_nil h).elim⟩ (by rw [sizeLine_eq];decide) ?_ ?_⟩
      ·rintro i ys σ Hd hi hy ⟨dd,⟨o1,rfl⟩,p,rfl,BU,mB⟩;refine ⟨hi,fun v H' y' R hR=>?_⟩;obtain ⟨eH,rfl⟩:=y';subst H';refine aM ?_;refine ⟨_,rfl,_,rfl,_,_,rfl,rfl,st,_,rfl,dd.sa,by lia,by lia,fun r a7 b7 Ry r0 r1 k1 k2 k3=>hR _ _ _ ⟨dd.draw k1 k2 k3,⟨_,rfl⟩,p++[r],by rw [zA4];rfl,by rw [zA2,BU];rfl,fun x hx=>?_⟩⟩;rcases zA6.mp hx with z | z
       ·exact mB x z
       ·rw [List.mem_singleton.mp z];lia
      ·rintro ys σ Hd hy ⟨dd,_,p,rfl,BU,mB⟩;refine ⟨by show _<=3;decide,fun D hD=>⟨D,_,rfl,.inl ⟨SqL.of aj,fun tp MU=>?_⟩⟩⟩;have AQ:=(Same.upd (o:=.lst (p.map V.int)) hD).updR (o:=.tup (p.map V.int)) MU;have Fu:=(Ko.trans dd).same AQ;have hV:upd (upd Hd D (.lst (p.map V.int))) tp (.tup (p.map V.int)) tp=some (.tup (p.map V.int)):=aj;generalize upd (upd Hd D (.lst (p.map V.int))) tp (.tup (p.map V.int))=Kp at Fu hV ⊢;have MV:=T4.keep (Fu.tups d4.sa);have MW:=shown_le (Y:=Y) (p:=p) BK ⟨BU,mB⟩;rw [hL] at MW;refine aM ?_;dsimp only;refine ⟨_,rfl,_,rfl,_,rfl,zL,fun b1 eR=>?_⟩;obtain ⟨B1,bX,z1,q1⟩:=MV.book eR;refine ⟨_,rfl,_,rfl,(fun _=>False),b1,(Y:Int),tp,p,_,ac,xc,cs,ap,xp,ps,ah,xs,ss,rfl,bX,z1,q1,B1,by lia,by lia,Same.upd eR _ _ hV,⟨BU,mB⟩,fun Rz MX=>⟨_,rfl,_,_,rfl,rfl,_,rfl,?_⟩⟩;rw [zAi,decide_eq_false (by lia)];refine bI ?_;exact kX _ _ ⟨_,_,_,_,_,_,_,_,_,_,_,_,rfl,Fu.same ((Same.upd eR).trans MX)⟩
     obtain ⟨tu,e1,e2,e3⟩:=AN u m (by lia) hm;have sC:=TO.same BQ;refine ⟨_,rfl,_,rfl,ao,_,_,_,rfl,rfl,SqT.of sC.rc.e,bQ e1,_,rfl,tu,_,_,_,rfl,rfl,SqT.of (BQ _ _ e2),bQ e3,_,rfl,_,_,rfl,rfl,_,_,rfl,rfl,_,rfl,vZ (fun hb=>?_) fun _=>AO _ BQ⟩;have hb:=zB6 hb;have FA:m < (PO.getD u []).length:=by rw [getD_get (by lia)];rw [kG _ (zAh (by lia))];exact hm
     refine ⟨_,rfl,_,rfl,_,rfl,_,rfl,ao,xo,PO,(u:Int),(m:Int),sm,rfl,sC.rc,kG,by lia,by lia,by lia,by lia,by lia,fun al xl H16 ot rl=>?_⟩;rw [zAi,zAi] at rl
     have TL:=(sC.same ot).with rl (kI okO (by lia) hm (by have:=(uo (show okC (PO.getD u []) by rw [getD_get (by lia)];exact okO _ (zAh (by lia))) hm).1;lia) hb) (dJ ..)
     have MY:=km (Y:=Y) BK TL.bko fun t mt=>by
      rw [kE (by lia) MQ hm FA,wO];split <;> split <;> lia
     rw [hL] at MY;refine ⟨_,rfl,_,rfl,zL,fun b1 eR=>?_⟩;obtain ⟨B1,bX,z1,q1⟩:=TL.book eR;refine ⟨_,rfl,(fun _=>False),b1,(Y:Int),_,al,xl,_,ap,xp,ps,ah,xs,ss,rfl,bX,z1,q1,B1,by lia,by rw [dJ];lia,fun Kp AQ=>⟨_,rfl,_,_,rfl,rfl,_,rfl,?_⟩⟩;rw [zAi,zB1 (by lia)];exact bI (AO _ ((BQ.trans ot).trans ((Same.upd eR).trans AQ)))
    refine ⟨_,rfl,_,_,rfl,rfl,_,rfl,?_⟩;by_cases yi:(m:Int) > 0
    ·rw [zAt yi];refine bV ?_
     obtain ⟨m',rfl⟩:∃ m',m=m'+1:=⟨m - 1,by lia⟩
     have em:((m'+1:Nat):Int) - 1=(m':Int):=by lia
     obtain ⟨tu,e1,e2,e3⟩:=AN n m' (by lia) (by lia);refine ⟨_,rfl,_,rfl,ao,_,_,_,rfl,rfl,SqT.of TO.rc.e,bQ e1,_,rfl,_,_,rfl,rfl,tu,_,_,_,rfl,rfl,SqT.of e2,by rw [em];exact bQ e3,_,rfl,_,_,rfl,rfl,_,_,rfl,rfl,_,rfl,vZ (fun hb=>?_) fun _=>key _ _ (Same.refl _)⟩;have hb:=zB6 hb;have FA:m' < (PO.getD n []).length:=by rw [getD_get (by lia)];rw [kG _ (zAh (by lia))];lia
     refine aF (aX ?_);refine ⟨_,rfl,_,rfl,_,rfl,_,_,rfl,rfl,_,rfl,ao,xo,PO,(n:Int),(m':Int),sm,by show [V.ref ao,V.int (n:Int),V.int (((m'+1:Nat):Int) - 1),V.int sm]=_;rw [em],TO.rc,kG,by lia,by lia,by lia,by lia,by lia,fun al xl H16 ot rl=>?_⟩;rw [zAi,zAi] at rl
     have TL:=(TO.same ot).with rl (kI okO (by lia) (by lia) (by have:=(uo (m:=m') (show okC (PO.getD n []) by rw [getD_get (by lia)];exact okO _ (zAh (by lia))) (by lia)).1;lia) hb) (dJ ..)
     have MZ:=km (Y:=Y) BK TL.bko fun t mt=>by
      rw [kE (by lia) E8 (by lia) FA,wO];have:=mt m' (by lia);split <;> split <;> lia
     rw [hL] at MZ;refine aM ?_;dsimp only;refine ⟨_,rfl,_,rfl,_,rfl,zL,fun b1 eR=>?_⟩;obtain ⟨B1,bX,z1,q1⟩:=TL.book eR;refine ⟨_,rfl,(fun _=>False),b1,(Y:Int),_,al,xl,_,ap,xp,ps,ah,xs,ss,rfl,bX,z1,q1,B1,by lia,by rw [dJ];lia,fun Kp AQ=>⟨_,rfl,_,_,rfl,rfl,_,rfl,?_⟩⟩;rw [zAi,decide_eq_false (by lia)];exact bI (key _ _ (ot.trans ((Same.upd eR).trans AQ)))
    ·rw [zB1 yi];exact bI (key _ _ (Same.refl _))
   ·rintro σ Hc ⟨x8,x9,df,cx,cy,cE,cK,de,eJ,sj,kF,mw,rfl,dc⟩;exact zw _ _ ⟨_,_,_,_,_,_,_,_,_,_,_,_,_,_,_,_,_,_,_,rfl,fun b o e=>dc.bt _ _ (EA _ _ e) (aC e Kb)⟩
  ·rintro σ Hc ⟨x1,x2,x3,x4,x5,x6,x7,x8,x9,df,cx,cy,cE,cK,de,eJ,sj,kF,mw,rfl,sc⟩;exact q Hc
end K92
namespace PySem.W.Fast
abbrev T:=True
theorem t:T:=⟨⟩
theorem tw8854858981997441056:T:=t
theorem tw8016188177538648128:T:=t
theorem tw9554729200415054112:T:=t
theorem tw2811834236484433216:T:=t
theorem tw7789889795790491584:T:=t
theorem tw6211417681872336961:T:=t
theorem tw1643589206860600417:T:=t
theorem tw12664386106216817921:T:=t
theorem tw2760244304811075873:T:=t
theorem tw12837842467043872033:T:=t
theorem tw11196893337322995137:T:=t
theorem tw9332522305497588193:T:=t
theorem tw3256847371739524609:T:=t
theorem tw18366648826514470497:T:=t
theorem tw10000917154211020449:T:=t
theorem tw4071695833283982081:T:=t
theorem tw3919937548502566689:T:=t
theorem tw11491455738776961921:T:=t
theorem tw3816366175697502177:T:=t
theorem tw5065826673433718753:T:=t
theorem tw13666873864256348162:T:=t
theorem tw5046395715765804258:T:=t
theorem tw18105971393584582978:T:=t
theorem tw2063000266265332034:T:=t
theorem tw15059533019850340770:T:=t
theorem tw16745813259886282210:T:=t
theorem tw17149401024880673346:T:=t
theorem tw13043392397543952034:T:=t
theorem tw4610320140474702562:T:=t
theorem tw1512803058124524290:T:=t
theorem tw15990158421084847010:T:=t
theorem tw15180049051048776674:T:=t
theorem tw6721894124857547875:T:=t
theorem tw2043276907061130339:T:=t
theorem tw4545641177572974787:T:=t
theorem tw8559260022123118819:T:=t
theorem tw17399379391203037795:T:=t
theorem tw9142136869671291555:T:=t
theorem tw17480477917701713667:T:=t
theorem tw8123849294908766308:T:=t
theorem tw11434880631986738404:T:=t
theorem tw17102200998032921028:T:=t
theorem tw18430043028923535812:T:=t
theorem tw15293899234321001956:T:=t
theorem tw16228544630629355012:T:=t
theorem tw17328594710295028324:T:=t
theorem tw3390437383699243780:T:=t
theorem tw16091946726111647492:T:=t
theorem tw9241527692191513380:T:=t
theorem tw18045682729068527460:T:=t
theorem tw12275965942854185924:T:=t
theorem tw2883853260959127524:T:=t
theorem tw2600883628979569861:T:=t
theorem tw11919523809586785573:T:=t
theorem tw4857403023659309445:T:=t
theorem tw5160149670866084261:T:=t
theorem tw11899528459546525189:T:=t
theorem tw2221486147476649541:T:=t
theorem tw929223504568034117:T:=t
theorem tw11138976463226203045:T:=t
theorem tw16700851950747311174:T:=t
theorem tw7302868489662101702:T:=t
theorem tw2035204848423253222:T:=t
theorem tw4444668805884103942:T:=t
theorem tw5631126679014148422:T:=t
theorem tw16218920157642291558:T:=t
theorem tw2615633233933675942:T:=t
theorem tw8409617222190599622:T:=t
theorem tw7563098673335830054:T:=t
theorem tw2705889414963204646:T:=t
theorem tw16186283521018899014:T:=t
theorem tw3100754998889118310:T:=t
theorem tw5724822096553758342:T:=t
theorem tw1130614473393841894:T:=t
theorem tw9975977976229943078:T:=t
theorem tw1723346082765674374:T:=t
theorem tw1967480076196579367:T:=t
theorem tw2889168049961549895:T:=t
theorem tw5475679674696834151:T:=t
theorem tw214484274570583239:T:=t
theorem tw10175371715696049575:T:=t
theorem tw14427732739809689031:T:=t
theorem tw17530010698465878503:T:=t
theorem tw12220317567092856327:T:=t
theorem tw1618284906444701223:T:=t
theorem tw14923166388279017191:T:=t
theorem tw16430859326962383623:T:=t
theorem tw14695384449063668551:T:=t
theorem tw9199050181103960967:T:=t
theorem tw2487237076795074471:T:=t
theorem tw954245933032480711:T:=t
theorem tw12037269555524085768:T:=t
theorem tw5837553389785734280:T:=t
theorem tw4235635277741966568:T:=t
theorem tw17521529695187863784:T:=t
theorem tw15094822842745094600:T:=t
theorem tw9732497054426492392:T:=t
theorem tw9678978680776828424:T:=t
theorem tw5003152864862984712:T:=t
theorem tw13047754420680239752:T:=t
theorem tw2551316785475698312:T:=t
theorem tw8891402823582698376:T:=t
theorem tw13144215917909700488:T:=t
theorem tw933894021536646185:T:=t
theorem tw5989999585543225417:T:=t
theorem tw12271740458050677961:T:=t
theorem tw8686082888042418665:T:=t
theorem tw7815075914237072105:T:=t
theorem tw6832386317894336361:T:=t
theorem tw12302842280262353769:T:=t
theorem tw1766405800484469641:T:=t
theorem tw11984742957014726537:T:=t
theorem tw15021942497853837225:T:=t
theorem tw9680833396372209609:T:=t
theorem tw4386796772411925610:T:=t
theorem tw16105133360268352650:T:=t
theorem tw16786895641124689066:T:=t
theorem tw4293046286188218602:T:=t
theorem tw17918239665692781834:T:=t
theorem tw13999846521372657930:T:=t
theorem tw5354740484733819178:T:=t
theorem tw14237125336830001514:T:=t
theorem tw1367980224031050154:T:=t
theorem tw14594938001802664394:T:=t
theorem tw9195892066749189706:T:=t
theorem tw18303443994537213610:T:=t
theorem tw7272387674531548874:T:=t
theorem tw12381793205178233610:T:=t
theorem tw7320515237422809866:T:=t
theorem tw2804257859475608362:T:=t
theorem tw14005262948882851626:T:=t
theorem tw3718168089165729674:T:=t
theorem tw2263676832498061226:T:=t
theorem tw11559971279730723754:T:=t
theorem tw8228217486661404618:T:=t
theorem tw4817983926808748331:T:=t
theorem tw17113326901399264651:T:=t
theorem tw16295764929602551179:T:=t
theorem tw3920050697300043435:T:=t
theorem tw2760508327239668427:T:=t
theorem tw10761545400343132875:T:=t
theorem tw6879801013467805419:T:=t
theorem tw11775196097313161995:T:=t
theorem tw8808873315964973835:T:=t
theorem tw12220711746867717931:T:=t
theorem tw3158655359282331756:T:=t
theorem tw13626101449927643276:T:=t
theorem tw3578551299175885100:T:=t
theorem tw13166752991078525388:T:=t
theorem tw12304718837452280300:T:=t
theorem tw667466186321205836:T:=t
theorem tw2181418228701360780:T:=t
theorem tw9823750622617100972:T:=t
theorem tw3328865776811563756:T:=t
theorem tw17415848129092615916:T:=t
theorem tw16305780908611799980:T:=t
theorem tw16890548078290713645:T:=t
theorem tw2121877463543014477:T:=t
theorem tw13655330103708485837:T:=t
theorem tw14186475863377000685:T:=t
theorem tw15797532131169367277:T:=t
theorem tw10197253944748998989:T:=t
theorem tw4940592669021965677:T:=t
theorem tw15485902865339553453:T:=t
theorem tw3051200828706919085:T:=t
theorem tw9677578649254037229:T:=t
theorem tw18396371593644850989:T:=t
theorem tw12634730283813403597:T:=t
theorem tw15557754899907324877:T:=t
theorem tw789334559121657998:T:=t
theorem tw3535891960367638670:T:=t
theorem tw7985457908272412846:T:=t
theorem tw8745250632387111214:T:=t
theorem tw2438064982618648878:T:=t
theorem tw9077762674152999246:T:=t
theorem tw4354770262206616910:T:=t
theorem tw6503048570952680942:T:=t
theorem tw542346064339608078:T:=t
theorem tw12562718654151001678:T:=t
theorem tw14880039329808697038:T:=t
theorem tw5803616031113717518:T:=t
theorem tw15100857996497093422:T:=t
theorem tw15675416739973115822:T:=t
theorem tw16913912601739575246:T:=t
theorem tw964125374856694766:T:=t
theorem tw10284291431871355055:T:=t
theorem tw8306119918332373167:T:=t
theorem tw17963934820742527183:T:=t
theorem tw12739797228193383855:T:=t
theorem tw11034074076121475503:T:=t
theorem tw2755423522618945999:T:=t
theorem tw5447423928181376655:T:=t
theorem tw9577484136788448975:T:=t
theorem tw18005464066326496015:T:=t
theorem tw285311356958443375:T:=t
theorem tw13292766936939083695:T:=t
theorem tw7514278261741217743:T:=t
theorem tw10917819622440990671:T:=t
theorem tw14334698279123640592:T:=t
theorem tw11742267322091082064:T:=t
theorem tw2183486710351447376:T:=t
theorem tw1587251707759661488:T:=t
theorem tw12526764805814938032:T:=t
theorem tw2035109933856475696:T:=t
theorem tw7142230194836232816:T:=t
theorem tw3488995831098959504:T:=t
theorem tw10241177978618122896:T:=t
theorem tw7856499505301406384:T:=t
theorem tw4898491756655866576:T:=t
theorem tw8866116457564599120:T:=t
theorem tw14724512356427047792:T:=t
theorem tw11429342580751938416:T:=t
theorem tw7751806804448165840:T:=t
theorem tw2635184517649580177:T:=t
theorem tw11632573131015136433:T:=t
theorem tw8758025233383306577:T:=t
theorem tw14228995562921274801:T:=t
theorem tw10727417613458090449:T:=t
theorem tw4954052116190870993:T:=t
theorem tw10592099873740880561:T:=t
theorem tw10945901337833599697:T:=t
theorem tw4458962552628778737:T:=t
theorem tw5585653216113455985:T:=t
theorem tw9867742131683782641:T:=t
theorem tw7606345832189679634:T:=t
theorem tw642808386929114226:T:=t
theorem tw8921144617469514866:T:=t
theorem tw16483848273284451506:T:=t
theorem tw3391590947934179538:T:=t
theorem tw8464811875517773042:T:=t
theorem tw15013845732555928050:T:=t
theorem tw7924398630746793490:T:=t
theorem tw7175933083763015282:T:=t
theorem tw11667036418674728562:T:=t
theorem tw5555268482862954130:T:=t
theorem tw17041636544549604242:T:=t
theorem tw8450364607711537267:T:=t
theorem tw14758825787416257715:T:=t
theorem tw986630560491461875:T:=t
theorem tw6014053815160544595:T:=t
theorem tw15878793208664110419:T:=t
theorem tw6318722700592370003:T:=t
theorem tw12597209351653916019:T:=t
theorem tw9187667146108455443:T:=t
theorem tw12075264795014049363:T:=t
theorem tw3475645990755267187:T:=t
theorem tw10394804328991340211:T:=t
theorem tw15415037316901886643:T:=t
theorem tw1629752460549710579:T:=t
theorem tw7060510387407213395:T:=t
theorem tw1485800493216002899:T:=t
theorem tw10392856833508656083:T:=t
theorem tw15806761363865520083:T:=t
theorem tw5367199957115270099:T:=t
theorem tw3013473632808114260:T:=t
theorem tw17012154976574159156:T:=t
theorem tw5059193004148884884:T:=t
theorem tw16519912103832394164:T:=t
theorem tw10224000937612081652:T:=t
theorem tw10864379729901962772:T:=t
theorem tw8568671716116680212:T:=t
theorem tw17446797452901677652:T:=t
theorem tw11123819350522134132:T:=t
theorem tw2394972188325124756:T:=t
theorem tw3869575403764087476:T:=t
theorem tw4728936062258999988:T:=t
theorem tw3887277286252010196:T:=t
theorem tw3129190302870211380:T:=t
theorem tw12634274016233494420:T:=t
theorem tw8928104589565025204:T:=t
theorem tw17377566987362341844:T:=t
theorem tw1514479963423813588:T:=t
theorem tw6875297391180460149:T:=t
theorem tw17208058743192616053:T:=t
theorem tw3102974530832402581:T:=t
theorem tw3016692156197935317:T:=t
theorem tw3435632360398437717:T:=t
theorem tw10647914941468776213:T:=t
theorem tw16778302017608841077:T:=t
theorem tw15843568605753046933:T:=t
theorem tw16693586705084758965:T:=t
theorem tw6519440636980447382:T:=t
theorem tw15964091353980256406:T:=t
theorem tw1348543624359011574:T:=t
theorem tw5219106615069196566:T:=t
theorem tw7109709193445826966:T:=t
theorem tw17089618119193121206:T:=t
theorem tw10695727554220334518:T:=t
theorem tw7129654694163509750:T:=t
theorem tw16544257176275052054:T:=t
theorem tw14161475180544731702:T:=t
theorem tw14883205287401560726:T:=t
theorem tw10409133995709085334:T:=t
theorem tw12392427552136067798:T:=t
theorem tw12443531029498490646:T:=t
theorem tw8169687290654254870:T:=t
theorem tw11742462010286249782:T:=t
theorem tw3368329172508695414:T:=t
theorem tw18057051365065970711:T:=t
theorem tw3656548937046048887:T:=t
theorem tw17477603987098434743:T:=t
theorem tw2146060738396326103:T:=t
theorem tw3275357547002948951:T:=t
theorem tw2111197932252532119:T:=t
theorem tw17317824550648957463:T:=t
theorem tw3869646771152029239:T:=t
theorem tw7052638949059655351:T:=t
theorem tw2669148504937613047:T:=t
theorem tw9505015254554420023:T:=t
theorem tw2915659771852186423:T:=t
theorem tw11930967168904556471:T:=t
theorem tw15870642165479232503:T:=t
theorem tw14947554941926026231:T:=t
theorem tw17935947699979312152:T:=t
theorem tw12004660506958175320:T:=t
theorem tw5819554223215237272:T:=t
theorem tw6418483913686943896:T:=t
theorem tw14542735513838538936:T:=t
theorem tw16440907135474690328:T:=t
theorem tw4970225714002540920:T:=t
theorem tw12679124981257696664:T:=t
theorem tw14721378063970431384:T:=t
theorem tw8521535313944494616:T:=t
theorem tw15082486760726038072:T:=t
theorem tw2701622766523283032:T:=t
theorem tw17439409464491807544:T:=t
theorem tw15717868945722264408:T:=t
theorem tw5446388040446368664:T:=t
theorem tw14168087531869953081:T:=t
theorem tw12917101680061917241:T:=t
theorem tw5925190407206401177:T:=t
theorem tw16921011597423739129:T:=t
theorem tw17337492983897845017:T:=t
theorem tw1382343378299057593:T:=t
theorem tw12361329256105014777:T:=t
theorem tw1277951889641420313:T:=t
theorem tw5919184646039145017:T:=t
theorem tw15185553330964296313:T:=t
theorem tw14069780453642152697:T:=t
theorem tw2950694162787220281:T:=t
theorem tw3234474358218473273:T:=t
theorem tw10511075234652023705:T:=t
theorem tw5173786047515094969:T:=t
theorem tw7109309052800347258:T:=t
theorem tw15762960526823734426:T:=t
theorem tw8527987417279859898:T:=t
theorem tw11470778343071500538:T:=t
theorem tw16079100979455985018:T:=t
theorem tw17280869236795809178:T:=t
theorem tw6462937052439237050:T:=t
theorem tw6072643875198604730:T:=t
theorem tw3722075137029481946:T:=t
theorem tw18311607669194924538:T:=t
theorem tw8529472931215551994:T:=t
theorem tw13638871616832840474:T:=t
theorem tw15924143748973804442:T:=t
theorem tw3885975599937981338:T:=t
theorem tw15233619951684925338:T:=t
theorem tw10069418203934790811:T:=t
theorem tw15070490808473823419:T:=t
theorem tw5158814232848493787:T:=t
theorem tw3810898743586620923:T:=t
theorem tw16354757489817858747:T:=t
theorem tw7907943578664960731:T:=t
theorem tw3876205549925915419:T:=t
theorem tw13622329501316194171:T:=t
theorem tw4551545095905100860:T:=t
theorem tw15725924612812802140:T:=t
theorem tw4486667649542238716:T:=t
theorem tw1699154228605262364:T:=t
theorem tw17942320459610965532:T:=t
theorem tw8692449296989727388:T:=t
theorem tw12781668744581434172:T:=t
theorem tw5288936407019460476:T:=t
theorem tw10724600467498803132:T:=t
theorem tw18381277517595445212:T:=t
theorem tw12145886206392137724:T:=t
theorem tw8708319078601098301:T:=t
theorem tw14042473052206321821:T:=t
theorem tw12718699997582490781:T:=t
theorem tw11271147319073658141:T:=t
theorem tw5810402735953610045:T:=t
theorem tw2502844939983120701:T:=t
theorem tw16934092215105746237:T:=t
theorem tw13558201823700495837:T:=t
theorem tw1128665172058087101:T:=t
theorem tw16812766571334911773:T:=t
theorem tw5715435326612254589:T:=t
theorem tw2617713996048661437:T:=t
theorem tw12425253682392118430:T:=t
theorem tw18404765434753677534:T:=t
theorem tw8425115342009747774:T:=t
theorem tw9500445474249049438:T:=t
theorem tw9267416208312293758:T:=t
theorem tw3373320446433501662:T:=t
theorem tw15534243426172158430:T:=t
theorem tw15748739148063551998:T:=t
theorem tw3585723783907632638:T:=t
theorem tw5468652409236373086:T:=t
theorem tw13716711014826085022:T:=t
theorem tw6614934125221471966:T:=t
theorem tw8290575805546624734:T:=t
theorem tw1165361719280974718:T:=t
theorem tw12063935123260634014:T:=t
theorem tw1948735057441955806:T:=t
theorem tw6157404893506926558:T:=t
theorem tw11409585056391376959:T:=t
theorem tw5858684005206243423:T:=t
theorem tw2812982174491398239:T:=t
theorem tw1679575380045269151:T:=t
theorem tw17117856604230103231:T:=t
theorem tw80896880169876671:T:=t
theorem tw9359513136236659903:T:=t
theorem tw13438073703322634527:T:=t
theorem tw8297219572909261119:T:=t
theorem tw6844094380716119359:T:=t
theorem tw12948460106277934399:T:=t
theorem tw3843261422942722495:T:=t
theorem tw9674088881392498143:T:=t
theorem tw5571021762608785887:T:=t
theorem tw10651023232090874527:T:=t
theorem tw13322455450380935935:T:=t
theorem tw16593940583337265983:T:=t
theorem tw8412834508579842911:T:=t
theorem tw12053352884720771967:T:=t
theorem tw14248013370796005247:T:=t
theorem tw15906066111627966335:T:=t
theorem tw11416509222782059455:T:=t
theorem tw11143173793125075903:T:=t
theorem tw13292598553256081375:T:=t
theorem tw9641657307414167981:T:=t
end PySem.W.Fast
namespace K92
open PySem L2
theorem el1 {C:List Value->Prop}(h:∀ a0:Value,C [a0]):∀ us:List Value,us.length=1->C us:=fun us e=>match us,e with | [a0],_=>h a0
theorem el2 {C:List Value->Prop}(h:∀ a0 a1:Value,C [a0,a1]):∀ us:List Value,us.length=2->C us:=fun us e=>match us,e with | [a0,a1],_=>h a0 a1
theorem el3 {C:List Value->Prop}(h:∀ a0 a1 a2:Value,C [a0,a1,a2]):∀ us:List Value,us.length=3->C us:=fun us e=>match us,e with | [a0,a1,a2],_=>h a0 a1 a2
theorem el4 {C:List Value->Prop}(h:∀ a0 a1 a2 a3:Value,C [a0,a1,a2,a3]):∀ us:List Value,us.length=4->C us:=fun us e=>match us,e with | [a0,a1,a2,a3],_=>h a0 a1 a2 a3
theorem el5 {C:List Value->Prop}(h:∀ a0 a1 a2 a3 a4:Value,C [a0,a1,a2,a3,a4]):∀ us:List Value,us.length=5->C us:=fun us e=>match us,e with | [a0,a1,a2,a3,a4],_=>h a0 a1 a2 a3 a4
def Has (K:PySem.W.Frag)(x:Str)(st:Stmt):Prop:=∃ (f:Addr) (od an:Option Addr) (sl:Array (Option Value)) (oc kV dc pm cd ct:Value),PySem.W.nsIn K mainGlobals x=some (some (.ref f)) /\
 K.lookup f=some ⟨oc,od,.func (PySem.W.fnOf x x (eZ st) (dU st) (aK st) .none kV dc pm an cd ct),sl⟩/\PySem.W.codeIn K cd x=true/\PySem.W.keepIn K (.ref f)=true
theorem has_mk {K:PySem.W.Frag}{x:Str}{st:Stmt}{f:Addr}{od an:Option Addr}{sl:Array (Option Value)}{oc kV dc pm cd ct:Value}(a:PySem.W.nsIn K mainGlobals x=some (some (.ref f)))
  (l:K.lookup f=some ⟨oc,od,.func (PySem.W.fnOf x x (eZ st) (dU st) (aK st) .none kV dc pm an cd ct),sl⟩) (c:PySem.W.codeIn K cd x=true) (k:PySem.W.keepIn K (.ref f)=true):Has K x st:=⟨f,od,an,sl,oc,kV,dc,pm,cd,ct,a,l,c,k⟩
theorem Has.get {K:PySem.W.Frag}{x:Str}{st:Stmt}{h:Heap}{mg:Str->Option Value}(H:Has K x st)(X:K.In h)(G:h.Ns mainGlobals mg):∃ f fd,Fun K x x st f fd/\mg x=some (.ref f):=by
 obtain ⟨f,od,an,sl,oc,kV,dc,pm,cd,ct,a,l,c,k⟩:=H;exact ⟨f,_,xU (st:=st) l c k,PySem.W.mg_of X G a⟩
theorem aW (P:Program)(w:World)(base:Heap){K:PySem.W.Frag}{mg:Str->Option Value}{k:Nat}{x:Str}{ps:List Str}{sp:Sp}{f:Addr}{fd:FuncData}(F:FnOk P w K mg base CX0 k f fd ps sp)(m:mg x=some (.ref f))(kp:PySem.W.keepIn K (.ref f)=true)(b:Binds K fd ps []):Cal P w K mg base k x ps sp:=⟨f,fd,F,m,kp,b⟩
theorem all_mk {l:PySem.W.OpenLaw}{w:World}{K:PySem.W.Frag}{h:Heap}{mg:Str->Option Value}{fa fL:Addr}{M0 Kq:Option Addr}{M3:Array (Option Value)}{M4 Kr Ks tj FC Kt:Value}{t0 t1 t2 t3 t4 t5 t6 t7 t8 t9 Ku:Tok}(X:K.In h)(G:h.Ns mainGlobals mg)(M5:mg "law" = some (.ref fa))
  (h12:Has K "is_whole" (top 12))
  (h13:Has K "is_whole_from" (top 13))
  (h14:Has K "is_tuple_of" (top 14))
  (h15:Has K "are_wholes" (top 15))
  (h26:Has K "is_clip" (top 26))
  (h27:Has K "are_clips" (top 27))
  (h28:Has K "refuse_no_clips" (top 28))
  (h29:Has K "is_promise" (top 29))
  (h30:Has K "are_promises" (top 30))
  (h31:Has K "are_sales" (top 31))
  (h32:Has K "held_in" (top 32))
  (h33:Has K "is_sale_between" (top 33))
  (h34:Has K "sale_holds" (top 34))
  (h35:Has K "first_unheld" (top 35))
  (h36:Has K "is_book" (top 36))
  (h37:Has K "refuse_no_book" (top 37))
  (h41:Has K "are_weights" (top 41))
  (h42:Has K "refuse_unpartable" (top 42))
  (h43:Has K "places_by_rest" (top 43))
  (h44:Has K "parts_of" (top 44))
  (h45:Has K "parted" (top 45))
  (h47:Has K "sacks_of" (top 47))
  (h48:Has K "claims_in" (top 48))
  (h49:Has K "shares_of" (top 49))
  (h50:Has K "made_good" (top 50))
  (h51:Has K "sort_given" (top 51))
  (h52:Has K "year_given" (top 52))
  (h53:Has K "years_given" (top 53))
  (h54:Has K "refuse_no_year_of" (top 54))
  (h55:Has K "refuse_no_year" (top 55))
  (h57:Has K "owed_behind" (top 57))
  (h59:Has K "from_each_on" (top 59))
  (h60:Has K "claimed_since" (top 60))
  (h61:Has K "wool_since" (top 61))
  (h62:Has K "shown" (top 62))
  (h63:Has K "is_paper_for" (top 63))
  (h64:Has K "lack_by" (top 64))
  (h65:Has K "shown_by" (top 65))
  (h67:Has K "refuse_no_loss" (top 67))
  (h68:Has K "clip_less" (top 68))
  (h69:Has K "clips_less" (top 69))
  (h70:Has K "lessened" (top 70))
  (h72:Has K "_law_cell_at" (top 72))
  (h73:Has K "_law_state" (top 73))
  (h74:Has K "_law_choice" (top 74))
  (h76:Has K "_law_rows" (top 76))
  (h77:Has K "_law_clips" (top 77))
  (h78:Has K "_law_promise" (top 78))
  (h79:Has K "_law_sale" (top 79))
  (h80:Has K "_law_book" (top 80))
  (h81:Has K "_law_with" (top 81))
  (aL:PySem.W.nsIn K mainGlobals "law" = some (some (.ref fL))) (lL:K.lookup fL=some ⟨M4,M0,.func (PySem.W.fnOf "law" "law" (eZ (top 82)) (dU (top 82)) (aK (top 82)) .none Kr Ks tj Kq FC Kt),M3⟩) (cL:PySem.W.codeIn K FC "law" = true) (kL:PySem.W.keepIn K (.ref fL)=true)
  (n0:PySem.W.nsIn K mainGlobals "SORTS" = some (some (.int 3 t0)))
  (n1:PySem.W.nsIn K mainGlobals "HOLDERS" = some (some (.int 8 t1)))
  (n2:PySem.W.nsIn K mainGlobals "LAST_YEAR" = some (some (.int 19 t2)))
  (n3:PySem.W.nsIn K mainGlobals "MOST_CLIPS" = some (some (.int 20 t3)))
  (n4:PySem.W.nsIn K mainGlobals "MOST_PROMISES" = some (some (.int 10 t4)))
  (n5:PySem.W.nsIn K mainGlobals "MOST_WOOL" = some (some (.int 999 t5)))
  (n6:PySem.W.nsIn K mainGlobals "MOST_SACKS" = some (some (.int 99 t6)))
  (n7:PySem.W.nsIn K mainGlobals "MOST_PRICE" = some (some (.int 1000000 t7)))
  (n8:PySem.W.nsIn K mainGlobals "MOST_SALES" = some (some (.int 12 t8)))
  (n9:PySem.W.nsIn K mainGlobals "MOST_WEIGHTS" = some (some (.int 80 t9)))
  (n10:PySem.W.nsIn K mainGlobals "MOST_WEIGHT" = some (some (.int 99 Ku)))
  (cq:PySem.W.nsIn K mainGlobals "isinstance" = some none)
  (oz:PySem.W.nsIn K mainGlobals "int" = some none)
  (kH:PySem.W.nsIn K mainGlobals "bool" = some none)
  (h8:PySem.W.nsIn K mainGlobals "tuple" = some none)
  (kK:PySem.W.nsIn K mainGlobals "len" = some none)
  (oB:PySem.W.nsIn K mainGlobals "all" = some none)
  (aI:PySem.W.nsIn K mainGlobals "range" = some none)
  (kM:PySem.W.nsIn K mainGlobals "list" = some none)
  (ij:PySem.W.nsIn K mainGlobals "max" = some none)
  (gg:PySem.W.nsIn K mainGlobals "min" = some none)
  (AR:PySem.W.nsIn K mainGlobals "zip" = some none)
  (aE:PySem.W.nsIn K mainGlobals "enumerate" = some none)
  (gi:PySem.W.nsIn K mainGlobals "sorted" = some none)
  (fg:PySem.W.nsIn K mainGlobals "sum" = some none)
  (gS:PySem.W.nsIn K mainGlobals "reversed" = some none)
  : ∃ fd:FuncData,(∀ (s:Shared) (v:Value),BindsTo s fd ⟨[v],[]⟩ [("_law_script",v)])/\∀ base:Heap,K.In base->base.Ns mainGlobals mg->FnOk l.prog w K mg base CX0 63 fa fd ["_law_script"] (vJ K):=by
 have e:=M5.symm.trans (PySem.W.mg_of X G aL);cases e;have FL:=xU (st:=top 82) lL cL kL;obtain ⟨RA,M6,FD,M7⟩:=h12.get X G;have M8:=FD.binds (ps:=["thing"]) fun _ _ _ _ _ _=>el1 fun _=>rfl;obtain ⟨RB,M9,FE,Na⟩:=h13.get X G;have Nb:=FE.binds (ps:=["thing","least","most"]) fun _ _ _ _ _ _=>el3 fun _ _ _=>rfl;obtain ⟨RC,Nd,FF,Nf⟩:=h14.get X G;have Ng:=FF.binds (ps:=["thing","fewest","most"]) fun _ _ _ _ _ _=>el3 fun _ _ _=>rfl;obtain ⟨RD,Nh,FG,Ni⟩:=h15.get X G;have Nj:=FG.binds (ps:=["thing","many"]) fun _ _ _ _ _ _=>el2 fun _ _=>rfl;obtain ⟨RE,Nk,FH,Nl⟩:=h26.get X G;have Nm:=FH.binds (ps:=["thing"]) fun _ _ _ _ _ _=>el1 fun _=>rfl;obtain ⟨RF,Nn,FI,Np⟩:=h27.get X G;have Nq:=FI.binds (ps:=["thing"]) fun _ _ _ _ _ _=>el1 fun _=>rfl;obtain ⟨RG,Nr,FK,Nt⟩:=h28.get X G;have Nu:=FK.binds (ps:=["thing"]) fun _ _ _ _ _ _=>el1 fun _=>rfl;obtain ⟨RH,Nv,FO,Nw⟩:=h29.get X G;have Nx:=FO.binds (ps:=["thing"]) fun _ _ _ _ _ _=>el1 fun _=>rfl;obtain ⟨RI,Ny,FR,Nz⟩:=h30.get X G;have NA:=FR.binds (ps:=["thing"]) fun _ _ _ _ _ _=>el1 fun _=>rfl;obtain ⟨RJ,NB,FU,NC⟩:=h31.get X G;have ND:=FU.binds (ps:=["thing"]) fun _ _ _ _ _ _=>el1 fun _=>rfl;obtain ⟨RK,NF,FV,NG⟩:=h32.get X G;have NH:=FV.binds (ps:=["promises","sales","number","year"]) fun _ _ _ _ _ _=>el4 fun _ _ _ _=>rfl;obtain ⟨RL,NI,FX,NJ⟩:=h33.get X G;have NK:=FX.binds (ps:=["promises","sale"]) fun _ _ _ _ _ _=>el2 fun _ _=>rfl;obtain ⟨RM,NL,FY,NM⟩:=h34.get X G;have NN:=FY.binds (ps:=["promises","ahead","sale"]) fun _ _ _ _ _ _=>el3 fun _ _ _=>rfl;obtain ⟨RN,NO,F1,NQ⟩:=h35.get X G;have NR:=F1.binds (ps:=["promises","sales"]) fun _ _ _ _ _ _=>el2 fun _ _=>rfl;obtain ⟨RO,NS,F2,NT⟩:=h36.get X G;have NU:=F2.binds (ps:=["thing"]) fun _ _ _ _ _ _=>el1 fun _=>rfl;obtain ⟨RP,NV,F3,NW⟩:=h37.get X G;have NX:=F3.binds (ps:=["thing"]) fun _ _ _ _ _ _=>el1 fun _=>rfl;obtain ⟨RQ,NY,F4,NZ⟩:=h41.get X G;have N0:=F4.binds (ps:=["thing"]) fun _ _ _ _ _ _=>el1 fun _=>rfl;obtain ⟨RS,N1,F5,N3⟩:=h42.get X G;have N4:=F5.binds (ps:=["sacks","weights"]) fun _ _ _ _ _ _=>el2 fun _ _=>rfl;obtain ⟨RT,N5,F6,N6⟩:=h43.get X G;have N7:=F6.binds (ps:=["rests"]) fun _ _ _ _ _ _=>el1 fun _=>rfl;obtain ⟨RU,N8,F7,N9⟩:=h44.get X G;have Oa:=F7.binds (ps:=["sacks","weights"]) fun _ _ _ _ _ _=>el2 fun _ _=>rfl;obtain ⟨RV,Ob,F8,Oc⟩:=h45.get X G;have Od:=F8.binds (ps:=["sacks","weights"]) fun _ _ _ _ _ _=>el2 fun _ _=>rfl;obtain ⟨RW,Oe,F9,Of⟩:=h47.get X G;have Og:=F9.binds (ps:=["rows"]) fun _ _ _ _ _ _=>el1 fun _=>rfl;obtain ⟨RX,Oh,GA,Oi⟩:=h48.get X G;have Oj:=GA.binds (ps:=["promises","sales","sort","year"]) fun _ _ _ _ _ _=>el4 fun _ _ _ _=>rfl;obtain ⟨RY,Ol,GB,Om⟩:=h49.get X G;have Oo:=GB.binds (ps:=["wool","claims"]) fun _ _ _ _ _ _=>el2 fun _ _=>rfl;obtain ⟨RZ,Oq,GH,Ot⟩:=h50.get X G;have Ou:=GH.binds (ps:=["wool","owed"]) fun _ _ _ _ _ _=>el2 fun _ _=>rfl;obtain ⟨R0,Ov,GI,Ow⟩:=h51.get X G;have Ox:=GI.binds (ps:=["wool","claims","owed"]) fun _ _ _ _ _ _=>el3 fun _ _ _=>rfl;obtain ⟨R1,Oy,GL,Oz⟩:=h52.get X G;have OA:=GL.binds (ps:=["book","year","owed"]) fun _ _ _ _ _ _=>el3 fun _ _ _=>rfl;obtain ⟨R3,OB,GN,OC⟩:=h53.get X G;have OD:=GN.binds (ps:=["book","year"]) fun _ _ _ _ _ _=>el2 fun _ _=>rfl;obtain ⟨R4,OE,GO,OF⟩:=h54.get X G;have OG:=GO.binds (ps:=["clips","year"]) fun _ _ _ _ _ _=>el2 fun _ _=>rfl;obtain ⟨R5,OH,GS,OI⟩:=h55.get X G;have OJ:=GS.binds (ps:=["book","year"]) fun _ _ _ _ _ _=>el2 fun _ _=>rfl;obtain ⟨R6,OK,GU,OL⟩:=h57.get X G;have OM:=GU.binds (ps:=["book","year"]) fun _ _ _ _ _ _=>el2 fun _ _=>rfl;obtain ⟨R7,ON,GV,OO⟩:=h59.get X G;have OP:=GV.binds (ps:=["numbers"]) fun _ _ _ _ _ _=>el1 fun _=>rfl;obtain ⟨R8,OQ,GW,OR⟩:=h60.get X G;have OS:=GW.binds (ps:=["book","year"]) fun _ _ _ _ _ _=>el2 fun _ _=>rfl;obtain ⟨R9,OT,GY,OU⟩:=h61.get X G;have OV:=GY.binds (ps:=["book","year"]) fun _ _ _ _ _ _=>el2 fun _ _=>rfl;obtain ⟨Sa,OW,G0,OX⟩:=h62.get X G;have OY:=G0.binds (ps:=["claimed","wool","paper"]) fun _ _ _ _ _ _=>el3 fun _ _ _=>rfl;obtain ⟨Sb,OZ,G1,O0⟩:=h63.get X G;have O3:=G1.binds (ps:=["year","thing"]) fun _ _ _ _ _ _=>el2 fun _ _=>rfl;obtain ⟨Sd,O4,He,O5⟩:=h64.get X G;have O6:=He.binds (ps:=["book","year"]) fun _ _ _ _ _ _=>el2 fun _ _=>rfl;obtain ⟨Se,O7,HA,O8⟩:=h65.get X G;have O9:=HA.binds (ps:=["book","year","paper"]) fun _ _ _ _ _ _=>el3 fun _ _ _=>rfl;obtain ⟨Sf,Pa,HC,Pb⟩:=h67.get X G;have Pc:=HC.binds (ps:=["sort","part"]) fun _ _ _ _ _ _=>el2 fun _ _=>rfl;obtain ⟨Sg,Pd,HE,Pe⟩:=h68.get X G;have Pf:=HE.binds (ps:=["clip","sort","part"]) fun _ _ _ _ _ _=>el3 fun _ _ _=>rfl;obtain ⟨Sh,Pg,HG,Ph⟩:=h69.get X G;have Pj:=HG.binds (ps:=["clips","year","sort","part"]) fun _ _ _ _ _ _=>el4 fun _ _ _ _=>rfl;obtain ⟨Si,Pk,HI,Pl⟩:=h70.get X G;have Pm:=HI.binds (ps:=["clips","year","sort","part"]) fun _ _ _ _ _ _=>el4 fun _ _ _ _=>rfl;obtain ⟨Sj,Pn,HK,Po⟩:=h72.get X G;have Pp:=HK.binds (ps:=["_law_script","_law_k"]) fun _ _ _ _ _ _=>el2 fun _ _=>rfl;obtain ⟨Sk,Pq,HL,Pr⟩:=h73.get X G;have Pt:=HL.binds (ps:=["_law_script","_law_k"]) fun _ _ _ _ _ _=>el2 fun _ _=>rfl;obtain ⟨Sl,Pu,HM,Pw⟩:=h74.get X G;have Px:=HM.binds (ps:=["_law_state_here","_law_many"]) fun _ _ _ _ _ _=>el2 fun _ _=>rfl;obtain ⟨Sn,Py,HP,Pz⟩:=h76.get X G;have PB:=HP.binds (ps:=["_law_promises","_law_sales"]) fun _ _ _ _ _ _=>el2 fun _ _=>rfl;obtain ⟨So,PD,HU,PF⟩:=h77.get X G;have PH:=HU.binds (ps:=["_law_state_here","_law_most"]) fun _ _ _ _ _ _=>el2 fun _ _=>rfl;obtain ⟨Sq,PJ,HV,PL⟩:=h78.get X G;have PM:=HV.binds (ps:=["_law_state_here","_law_years"]) fun _ _ _ _ _ _=>el2 fun _ _=>rfl;obtain ⟨Sr,PN,HZ,PQ⟩:=h79.get X G;have PR:=HZ.binds (ps:=["_law_state_here","_law_promises"]) fun _ _ _ _ _ _=>el2 fun _ _=>rfl;obtain ⟨Ss,PU,Ic,PV⟩:=h80.get X G;have PX:=Ic.binds (ps:=["_law_state_here","_law_years","_law_most"]) fun _ _ _ _ _ _=>el3 fun _ _ _=>rfl;obtain ⟨Su,PY,Iq,PZ⟩:=h81.get X G;have P0:=Iq.binds (ps:=["_law_clips_here","_law_year","_law_sort","_law_sacks"]) fun _ _ _ _ _ _=>el4 fun _ _ _ _=>rfl
 have T:Mg mg:=⟨(zAv X G cq),(zAv X G oz),(zAv X G kH),(zAv X G h8),(zAv X G kK),(zAv X G oB)⟩
 have TP:K92.Mg mg:=⟨(zAv X G cq),(zAv X G oz),(zAv X G kH),(zAv X G h8),(zAv X G kK),(zAv X G oB)⟩
 have N:Nums mg:=⟨⟨t0,PySem.W.mg_of X G n0⟩,⟨t1,PySem.W.mg_of X G n1⟩,⟨t2,PySem.W.mg_of X G n2⟩,⟨t3,PySem.W.mg_of X G n3⟩,⟨t4,PySem.W.mg_of X G n4⟩,⟨t5,PySem.W.mg_of X G n5⟩,⟨t6,PySem.W.mg_of X G n6⟩,⟨t7,PySem.W.mg_of X G n7⟩⟩
 have NP:K92P.Nums mg:=⟨⟨t9,PySem.W.mg_of X G n9⟩,⟨Ku,PySem.W.mg_of X G n10⟩⟩
 have N2:MS mg:=⟨⟨t8,PySem.W.mg_of X G n8⟩⟩
 refine ⟨PySem.W.fnOf "law" "law" (eZ (top 82)) (dU (top 82)) (aK (top 82)) .none Kr Ks tj Kq FC Kt,fun s v=>.of_eq rfl,fun base _ _=>?_⟩;have Kv:=aW l.prog w base (rM FD T) M7 FD.kp M8;have BY:=aW l.prog w base (nM FE Kv) Na FE.kp Nb;have uj:=aW l.prog w base (mG FF T) Nf FF.kp Ng;have B0:=aW l.prog w base (nH FG T Kv uj) Ni FG.kp Nj;have P1:=aW l.prog w base (tZ FH T N B0) Nl FH.kp Nm;have Kw:=aW l.prog w base (qz FI T N P1 uj) Np FI.kp Nq;have P2:=aW l.prog w base (BP FK Kw) Nt FK.kp Nu;have P4:=aW l.prog w base (nJ FO T N B0) Nw FO.kp Nx;have Kx:=aW l.prog w base (jM FR T N P4 uj) Nz FR.kp NA;have Ky:=aW l.prog w base (qD FU T N2 B0 uj) NC FU.kp ND;have Kz:=aW l.prog w base (Bp FV N) NG FV.kp NH;have P5:=aW l.prog w base (Bq FX T N) NJ FX.kp NK;have P6:=aW l.prog w base (yE FY T (zAv X G aI) P5 Kz) NM FY.kp NN;have P7:=aW l.prog w base (yF F1 (zAv X G aE) Kx Ky P6) NQ F1.kp NR;have P8:=aW l.prog w base (ok_book F2 uj Kw Kx Ky P7) NT F2.kp NU;have P9:=aW l.prog w base (By F3 P8) NW F3.kp NX;have Qa:=aW l.prog w base (K92P.ok_are_weights F4 TP NP BY uj) NZ F4.kp N0;have Qb:=aW l.prog w base (K92P.ok_refuse F5 (zAv X G fg) Qa BY) N3 F5.kp N4;have Qd:=aW l.prog w base (K92P.ok_places F6 (zAv X G aE) (zAv X G gi)) N6 F6.kp N7;have Qe:=aW l.prog w base (K92P.ok_parts F7 TP (zAv X G fg) Qd) N9 F7.kp Oa;have Qf:=aW l.prog w base (K92P.ok_parted F8 Qb Qe) Oc F8.kp Od;have Iv:=aW l.prog w base (yG F9 (zAv X G fg)) Of F9.kp Og;have KA:=aW l.prog w base (xj GA (zAv X G aE) Kz) Oi GA.kp Oj;have Qg:=aW l.prog w base (wZ GB T (zAv X G fg) Qf) Om GB.kp Oo;have Qh:=aW l.prog w base (Bt GH (zAv X G gg)) Ot GH.kp Ou;have Qi:=aW l.prog w base (yM GI (zAv X G fg) (zAv X G kM) (zAv X G AR) Qg Qh) Ow GI.kp Ox;have Qj:=aW l.prog w base (Bx GL T N (zAv X G aI) (zAv X G gi) KA Qi Iv) Oz GL.kp OA;have Qk:=aW l.prog w base (yV GN (zAv X G aI) Qj) OC GN.kp OD;have KC:=aW l.prog w base (BJ GO T BY) OF GO.kp OG;have KD:=aW l.prog w base (yZ GS P9 KC) OI GS.kp OJ;have Ql:=aW l.prog w base (za GU Qk) OL GU.kp OM;have KG:=aW l.prog w base (Cd GV (zAv X G gS)) OO GV.kp OP;have Qm:=aW l.prog w base (uh GW N (zAv X G aI) KG Iv KA) OR GW.kp OS;have Qn:=aW l.prog w base (sG GY N (zAv X G aI) KG) OU GY.kp OV;have Qo:=aW l.prog w base (zQ G0 N (zAv X G aI) (zAv X G fg) (zAv X G aE) (zAv X G gg)) OX G0.kp OY;have Qp:=aW l.prog w base (Es G1 T N B0) O0 G1.kp O3;have Qq:=aW l.prog w base (Ca He KD Ql Iv) O5 He.kp O6;have Qr:=aW l.prog w base (Ce HA KD Qp Qm Qn Qo) O8 HA.kp O9;have Qs:=aW l.prog w base (BR HC N BY) Pb HC.kp Pc;have Qt:=aW l.prog w base (zG HE T (zAv X G aE)) Pe HE.kp Pf;have Qu:=aW l.prog w base (zH HG T Qt) Ph HG.kp Pj;have Qv:=aW l.prog w base (sy HI P2 KC Qs Qu) Pl HI.kp Pm;have Qw:=aW l.prog w base (K92P.ok_cell HK TP) Po HK.kp Pp;have Qx:=aW l.prog w base (K92P.ok_state HL (zAv X G ij) Qw) Pr HL.kp Pt;have AS:=aW l.prog w base (K92P.ok_choice HM) Pw HM.kp Px;have Qy:=aW l.prog w base (BZ HP T (zAv X G aE) (zAv X G aI) (zAv X G gg) (zAv X G ij)) Pz HP.kp PB;have Qz:=aW l.prog w base (K92Q.ok_clips HU TP (zAv X G aI) AS) PF HU.kp PH;have QA:=aW l.prog w base (K92Q.ok_prom HV (zAv X G gg) AS) PL HV.kp PM;have QB:=aW l.prog w base (K92Q.ok_sale HZ T (zAv X G ij) AS) PQ HZ.kp PR;have QC:=aW l.prog w base (K92Q.ok_book Ic TP (zAv X G aI) (zAv X G kK) AS Qz QA QB Qy) PV Ic.kp PX;have QD:=aW l.prog w base (Cj Iq T (zAv X G kM)) PZ Iq.kp P0;exact Ex FL T (zAv X G aI) (zAv X G ij) (zAv X G gg) AS Qx QC Qq QD Qv Qr
theorem walk {l:PySem.W.OpenLaw}{q:Program}{loose:List Str}{XP:(Str->Option Value)->Heap->Prop}{YP:World->Heap->Prop}{d:DefRec}{K:Params->PySem.W.Frag}(hn:l.most=some 63)(vE:d.params.defaults=[])
  (hY:∀ (w:World) (h:Heap),YP w h->(K w.params).In h)
  (F:∀ (w:World) (mg:Str->Option Value) (fa:Addr) (h:Heap),(K w.params).In h->h.Ns mainGlobals mg->mg d.name=some (.ref fa) ->
   ∃ fd:FuncData,(∀ (s:Shared) (u:Value),BindsTo s fd ⟨[u],[]⟩ [("_law_script",u)])/\∀ base:Heap,(K w.params).In base->base.Ns mainGlobals mg->FnOk l.prog w (K w.params) mg base CX0 63 fa fd ["_law_script"] (vJ (K w.params))) :
  PySem.W.WalkO q loose XP YP l.row.toRowW d [] (fun f vs=>PySem.call f vs) :=
 L2.walk_of (n:=63) (k:=63) (x:="_law_script") (CX:=fun _=>CX0) (sp:=fun w=>vJ (K w.params)) hn (by decide) vE ⟨rfl,by decide,by decide,rfl⟩ hY F (fun _ _ a ns hl _ hS=>⟨a,ns,rfl,hS,hl,fun _=>rfl⟩) fun _ _ _ _ _ z=>z
end K92
open PySem PySem.W PyProof.Rows
set_option maxRecDepth 100000 in
set_option maxHeartbeats 0 in
theorem PySem.Challenge.cw_woolyears_k92_whole_more_wool_holds : PySem.Challenge.rw_woolyears_k92_whole_more_wool.Holds := by
 w_on;o_law;k_head;(case hw=>w_witness2)
 k_fill
 refine K92.walk (l:=PySem.Challenge.rw_woolyears_k92_whole_more_wool) rfl rfl (fun w h Y=>PySem.W.kIn_of Y) ?F
 case F =>
  intro w mg fa h KX G hmg
  refine' K92.all_mk KX G hmg ?h12 ?h13 ?h14 ?h15 ?h26 ?h27 ?h28 ?h29 ?h30 ?h31 ?h32 ?h33 ?h34 ?h35 ?h36 ?h37 ?h41 ?h42 ?h43 ?h44 ?h45 ?h47 ?h48 ?h49 ?h50 ?h51 ?h52 ?h53 ?h54 ?h55 ?h57 ?h59 ?h60 ?h61 ?h62 ?h63 ?h64 ?h65 ?h67 ?h68 ?h69 ?h70 ?h72 ?h73 ?h74 ?h76 ?h77 ?h78 ?h79 ?h80 ?h81 ?aL ?lL ?cL ?kL ?n0 ?n1 ?n2 ?n3 ?n4 ?n5 ?n6 ?n7 ?n8 ?n9 ?n10 ?z0 ?z1 ?z2 ?z3 ?z4 ?z5 ?z6 ?z7 ?z8 ?z9 ?z10 ?z11 ?z12 ?z13 ?z14
  case h12|h13|h14|h15|h26|h27|h28|h29|h30|h31|h32|h33|h34|h35|h36|h37|h41|h42|h43|h44|h45|h47|h48|h49|h50|h51|h52|h53|h54|h55|h57|h59|h60|h61|h62|h63|h64|h65|h67|h68|h69|h70|h72|h73|h74|h76|h77|h78|h79|h80|h81=>
   refine' K92.has_mk ?a ?l ?c ?k
   case a|l|c|k=>k_is
  case aL|lL|cL|kL|n0|n1|n2|n3|n4|n5|n6|n7|n8|n9|n10|z0|z1|z2|z3|z4|z5|z6|z7|z8|z9|z10|z11|z12|z13|z14=>k_is
